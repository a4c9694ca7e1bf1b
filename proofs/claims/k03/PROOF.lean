import PyProof.Rows.All
import Wide.All
import OpenK.AllK
import Wide.FinOn
import Lean
import PyProof.EqAt
import PyProof.EqKinds
import PyProof.TupleCall
import PyProof.NeKinds
import PyProof.AttrMissHeap
import PyProof.EnumMake
import PyProof.DictUpdate
import KE.KDictOf
import KE.KDictList
import PyProof.MaxThree
import PyProof.ListStr
import PyProof.ConsumeWalk
import PyProof.SliceStr2
import PyProof.StrBlockI
import PyProof.EnumStmt
import PyProof.ZipIter
import PyProof.Rows.CallKwBuiltin
import PyProof.Rows.SeqMore
import PyProof.Rows.SortRuns
import PyProof.Rows.SortPure
import PyProof.Rows.SortShell
import PyProof.Dict
import PySem.Challenge.RW_joinwood_k03_answers
set_option Elab.async false
set_option linter.all false
set_option maxRecDepth 100000
set_option maxHeartbeats 4000000
namespace L2
open PySem PySem.Spec PyProof.Rows
noncomputable abbrev Key:=Sum Int Str
noncomputable def zim:Key->Value->Bool
 | .inl k,v=>Value.isInt k v
 | .inr x,v=>Value.isStrOf x v
noncomputable def keyH (w:World):Key->Int
 | .inl k=>hashInt k
 | .inr x=>hashStr w x
theorem zaB:∀ {k:Key}{v:Value},zim k v=true->(∃i t,k=Sum.inl i/\v=Value.int i t)\/(∃x t,k=Sum.inr x/\v=Value.str x t)
 | .inl i,v,h=>by
  obtain⟨t,e⟩:=Value.isInt_shape (k:=i) (v:=v) h;exact .inl ⟨i,t,rfl,e⟩
 | .inr x,v,h=>by
  obtain⟨t,e⟩:=Value.isStrOf_shape (x:=x) (v:=v) h;exact .inr ⟨x,t,rfl,e⟩
theorem zkM (i:Int)(t:Tok):zim (.inl i) (.int i t)=true:=by simp[zim,Value.isInt]
theorem zkN (x:Str)(t:Tok):zim (.inr x) (.str x t)=true:=by simp[zim,Value.isStrOf]
theorem zqi (a b:Int):decide ((Sum.inl a:Key)=Sum.inl b)=(a == b):=by
 by_cases e:a=b
 ·subst e;simp
 ·have h:¬ (Sum.inl a:Key)=Sum.inl b:=λq=>e (Sum.inl.inj q);rw[decide_eq_false h];exact(beq_eq_false_iff_ne.mpr e).symm
theorem zqj (a b:Str):decide ((Sum.inr a:Key)=Sum.inr b)=decide (a=b):=by
 by_cases e:a=b
 ·subst e;simp
 ·have h:¬ (Sum.inr a:Key)=Sum.inr b:=λq=>e (Sum.inr.inj q);rw[decide_eq_false h,decide_eq_false e]
theorem zqk (a:Int)(b:Str):decide ((Sum.inl a:Key)=Sum.inr b)=false:=decide_eq_false (λq=>nomatch q)
theorem zql (a:Str)(b:Int):decide ((Sum.inr a:Key)=Sum.inl b)=false:=decide_eq_false (λq=>nomatch q)
noncomputable def zay (prog:Program)(w:World):PySem.KeyKind prog w Key where
 is:=zim
 hash:=keyH w
 inj:=λv a b ha hb=>by
  rcases zaB ha with ⟨i,t,rfl,rfl⟩ | ⟨x,t,rfl,rfl⟩
  ·rcases zaB hb with ⟨j,u,rfl,e⟩ | ⟨y,u,rfl,e⟩
   ·injection e with e1 _;rw[e1]
   ·exact nomatch e
  ·rcases zaB hb with ⟨j,u,rfl,e⟩ | ⟨y,u,rfl,e⟩
   ·exact nomatch e
   ·injection e with e1 _;rw[e1]
 byValue:=λk v h=>by
  rcases zaB h with ⟨i,t,rfl,rfl⟩ | ⟨x,t,rfl,rfl⟩<;>rfl
 pyHash:=λhv h=>by
  rcases zaB hv with ⟨i,t,rfl,rfl⟩ | ⟨x,t,rfl,rfl⟩
  ·exact wpAny_pyHash_int h
  ·exact wpAny_pyHash_str h
 eqBool:=λhu hv h=>by
  rcases zaB hu with ⟨i,t,rfl,rfl⟩ | ⟨x,t,rfl,rfl⟩
  ·rcases zaB hv with ⟨j,u,rfl,rfl⟩ | ⟨y,u,rfl,rfl⟩
   ·rw[zqi]at h;exact wpAny_eqBool_int h
   ·rw[zqk]at h;exact SeqAt.EqAt.int_str i t y u _ _ _ _ h
  ·rcases zaB hv with ⟨j,u,rfl,rfl⟩ | ⟨y,u,rfl,rfl⟩
   ·rw[zql]at h;exact SeqAt.EqAt.str_int x t j u _ _ _ _ h
   ·rw[zqj]at h;exact wpAny_eqBool_str h
 «strs»:=λk x t v h=>by
  rcases zaB h with ⟨i,u,rfl,e⟩ | ⟨y,u,rfl,e⟩
  ·exact nomatch e
  ·injection e with e1 _;subst e1;cases v<;>rfl
theorem zin (prog:Program)(w:World)(i:Int)(t:Tok):(zay prog w).is (.inl i) (.int i t)=true:=zkM i t
theorem zio (prog:Program)(w:World)(x:Str)(t:Tok):(zay prog w).is (.inr x) (.str x t)=true:=zkN x t
inductive V where
 | non | bl (b:Bool) | int (i:Int) | str (x:Str) | byt (b:Array UInt8) | flt (b:UInt64) | ref (a:Addr) | ty (n:String)
 deriving DecidableEq
noncomputable def RelV:V->Value->Prop
 | .non,u=>u=Value.none
 | .bl b,u=>u=Value.bool b
 | .int i,u=>∃t,u=Value.int i t
 | .str x,u=>∃t,u=Value.str x t
 | .byt b,u=>∃t,u=Value.bytes b t
 | .flt b,u=>∃t,u=Value.float b t
 | .ref a,u=>u=Value.ref a
 | .ty n,u=>u=Value.type n
noncomputable abbrev Vals:List V->List Value->Prop:=Paired RelV
theorem Vals.length {xs:List V}{us:List Value}(r:Vals xs us):xs.length=us.length:=Paired.length r
theorem Vals.get:∀ {xs:List V}{us:List Value}{i:Nat}{x:V},Vals xs us->xs[i]? = some x->∃u,us[i]? = some u/\RelV x u
 | _,_,_,_,.nil,e=>by simp at e
 | _,_,0,_,.cons r _,e=>by simp at e;subst e;exact⟨_,rfl,r⟩
 | _,_,i+1,x,.cons _ t,e=>by
  obtain⟨u,h1,h2⟩:=Vals.get (i:=i) (x:=x) t (by simpa using e);exact⟨u,by simpa using h1,h2⟩
theorem Vals.append:∀ {xs ys:List V}{us ws:List Value},Vals xs us->Vals ys ws->Vals (xs++ys) (us++ws)
 | _,_,_,_,.nil,s=>s
 | _,_,_,_,.cons r t,s=>.cons r (Vals.append t s)
theorem Vals.take:∀ {xs:List V}{us:List Value}(n:Nat),Vals xs us->Vals (xs.take n) (us.take n)
 | _,_,0,_=>.nil
 | _,_,_+1,.nil=>.nil
 | _,_,n+1,.cons r t=>.cons r (Vals.take n t)
theorem Vals.drop:∀ {xs:List V}{us:List Value}(n:Nat),Vals xs us->Vals (xs.drop n) (us.drop n)
 | _,_,0,r=>r
 | _,_,_+1,.nil=>.nil
 | _,_,n+1,.cons _ t=>Vals.drop n t
noncomputable def RelO:Option V->Option Value->Prop
 | some v,some u=>RelV v u
 | none,none=>True
 | _,_=>False
noncomputable def KV {κ:Type}:List (κ×V)->List (κ×Value)->Prop:=Paired λ(p:κ×V)(q:κ×Value)=>p.1=q.1/\RelV p.2 q.2
noncomputable def kV:Key->V
 | .inl i=>.int i
 | .inr x=>.str x
inductive HO where
  | lst (xs:List V)
  | tup (xs:List V)
  | dK (kvs:List (Key×V)) | dT (kvs:List (List Key×V))
  | set (S:Int->Bool) (n:Nat)
  | ins (C dx:Addr) (fs:List (Str×V))
  | own (x:Addr)
  | xd (fs:List (Str×V))
  | met (f x:Addr)
  | rng (lo hi:Int)
  | frz (o:Obj) (u:HO)
  | tbl (ps:Array Value)
  | ext (φ:Heap->Prop)
noncomputable abbrev Hp:=Addr->Option HO
noncomputable def upd (H:Hp)(a:Addr)(o:HO):Hp:=λb=>if b=a then some o else H b
theorem zag {H:Hp}{a:Addr}{o:HO}:upd H a o a=some o:=by unfold upd;rw[if_pos rfl]
theorem zaf {H:Hp}{a b:Addr}{o:HO}(h:b≠a):upd H a o b=H b:=by unfold upd;rw[if_neg h]
theorem zqm {H:Hp}{a b:Addr}{o u:HO}(h:H a=some o)(h':H b=some u)(d:o≠u):a≠b:=by
 intro e;subst e;rw[h]at h';exact d (Option.some.inj h')
theorem zau {H:Hp}{a b:Addr}{o:HO}(h:H a=some o)(h':H b=none):a≠b:=by
 intro e;subst e;rw[h]at h';cases h'
noncomputable def zcz (h:Heap)(a:Addr)(its:Array Value):Prop:=∃o,h.get? a=some o/\o.cls=.type "tuple"/\(∃n,o.data=.seq its n)/\o.dict=none
theorem zcz.tup {h:Heap}{a:Addr}{its:Array Value}(p:zcz h a its):IsTup h a its:=let ⟨o,e,c,⟨n,d⟩,_⟩:=p;⟨o,e,c,n,d⟩
theorem zcz.lt {h:Heap}{a:Addr}{its:Array Value}(p:zcz h a its):a<h.objs.size:=p.tup.lt
theorem zcz.new (h:Heap)(items:Array Value):zcz (h.push { cls:=.type "tuple",data:=.seq items }) h.objs.size items:=⟨_,Heap.get?_push_size _ rfl,rfl,⟨_,rfl⟩,rfl⟩
section
variable (P:Program)(w:World)
noncomputable def zaV (H:Hp)(h:Heap)(a:Addr):HO->Prop
 | .lst xs=>xs.length<=sizeLine/\∃(its:List Value) (n:Nat),Vals xs its/\h.get? a=some { cls:=.type "list",data:=.seq its.toArray n }
 | .tup xs=>xs.length<=sizeLine/\∃its:List Value,Vals xs its/\zcz h a its.toArray
 | .dK kvs=>kvs.length<=sizeLine/\(a == sysModules)=false/\∃vs,KV kvs vs/\h.DictOf (zay P w) a vs
 | .dT kvs=>kvs.length<=sizeLine/\(a == sysModules)=false/\∃xs:List (List Key×Addr×Value),
   Paired (λ(p:List Key×V) (q:List Key×Addr×Value)=>p.1=q.1/\H q.2.1=some (.tup (p.1.map kV))/\RelV p.2 q.2.2) kvs xs/\
   ∃o es ep,h.get? a=some o/\o.ExactDict/\o.data=.dict es ep/\es.toList=xs.map (entryOfKey (tupleKind (zay P w)))/\(xs.map (·.1)).Nodup
 | .set S n=>h.SetOf (intKind P w) a S n
 | .ins C dx fs=>H dx=some (.own a)/\fs.length<=1000/\dx≠a/\h.get? a=some (PySem.W.instObj C dx)/\
   ∃mA,h.Ns1 dx mA/\(∀f,RelO (fs.lookup f) (mA f))/\PySem.Within mA (fs.map (·.1))
 | .own _=>∃o,h.get? a=some o
 | .xd fs=>∃mA,h.Ns1 a mA/\∀f,RelO (fs.lookup f) (mA f)
 | .rng lo hi=>∃t u v,h.get? a=some { cls:=.type "range",data:=.fields #[.int lo t,.int hi u,.int 1 v] }
 | .frz o u=>h.get? a=some o/\zaV H h a u
 | .tbl ps=>h.get? a=some { cls:=.none,data:=.fields ps }
 | .met f x=>h.get? a=some (PySem.W.methodObj (.ref f) (.ref x))
 | .ext φ=>φ h/\(∃o,h.get? a=some o)/\∀h1 h2:Heap,φ h1->(∀o,h1.get? a=some o->h2.get? a=some o)->φ h2
noncomputable def HOk (H:Hp)(h:Heap):Prop:=∀a o,H a=some o->zaV P w H h a o
end
section
variable {P:Program}{w:World}{H H':Hp}{h h':Heap}{a:Addr}{o:HO}
theorem zaV.lt (x:zaV P w H h a o):a<h.objs.size:=by
 cases o with
 | lst xs=>obtain⟨_,_,_,_,e⟩:=x;exact Heap.lt_size e
 | tup xs=>obtain⟨_,_,_,p⟩:=x;exact p.lt
 | dK kvs=>obtain⟨_,_,_,_,o,_,_,e,_⟩:=x;exact Heap.lt_size e
 | dT kvs=>obtain⟨_,_,_,_,o,_,_,e,_⟩:=x;exact Heap.lt_size e
 | set S n=>obtain⟨o,_,_,_,e,_⟩:=x;exact Heap.lt_size e
 | ins C dx fs=>obtain⟨_,_,_,e,_⟩:=x;exact Heap.lt_size e
 | own y=>obtain⟨_,e⟩:=x;exact Heap.lt_size e
 | xd fs=>obtain⟨_,⟨_,_,_,e,_⟩,_⟩:=x;exact Heap.lt_size e
 | rng lo hi=>obtain⟨_,_,_,e⟩:=x;exact Heap.lt_size e
 | frz ob u=>obtain⟨e,_⟩:=x;exact Heap.lt_size e
 | tbl ps=>exact Heap.lt_size (show h.get? a=some _ from x)
 | met f y=>exact Heap.lt_size (show h.get? a=some _ from x)
 | ext φ=>obtain⟨_,⟨_,e⟩,_⟩:=x;exact Heap.lt_size e
theorem Paired.mapP {α β:Type}{F G:α->β->Prop}:∀ {l₁:List α}{l₂:List β},Paired F l₁ l₂->(∀a b,F a b->G a b)->Paired G l₁ l₂
 | _,_,.nil,_=>.nil
 | _,_,.cons r t,f=>.cons (f _ _ r) (Paired.mapP t f)
theorem zaV.stay (x:zaV P w H h a o)(k:∀b u,(b=a\/H b=some (.own a))->h.get? b=some u->h'.get? b=some u)
  (ho:∀b,H b=some (.own a)->H' b=some (.own a)) (ht:∀b xs,H b=some (.tup xs)->H' b=some (.tup xs)):zaV P w H' h' a o:=by
 induction o with
 | lst xs=>obtain⟨z,its,n,r,e⟩:=x;exact⟨z,its,n,r,k _ _ (.inl rfl) e⟩
 | tup xs=>obtain⟨z,its,r,ob,e,c⟩:=x;exact⟨z,its,r,ob,k _ _ (.inl rfl) e,c⟩
 | dK kvs=>obtain⟨z,y,vs,r,ob,es,ep,e,c⟩:=x;exact⟨z,y,vs,r,ob,es,ep,k _ _ (.inl rfl) e,c⟩
 | dT kvs=>
  obtain⟨z,y,xs,r,ob,es,ep,e,c⟩:=x;exact⟨z,y,xs,Paired.mapP r λp q z=>⟨z.1,ht _ _ z.2.1,z.2.2⟩,ob,es,ep,k _ _ (.inl rfl) e,c⟩
 | set S n=>obtain⟨ob,es,ep,t,e,c⟩:=x;exact⟨ob,es,ep,t,k _ _ (.inl rfl) e,c⟩
 | ins C dx fs=>
  obtain⟨d,z,ne,e,mA,⟨od,es,ep,e2,c⟩,r⟩:=x;exact⟨ho _ d,z,ne,k _ _ (.inl rfl) e,mA,⟨od,es,ep,k _ _ (.inr d) e2,c⟩,r⟩
 | own y=>obtain⟨ob,e⟩:=x;exact⟨ob,k _ _ (.inl rfl) e⟩
 | xd fs=>obtain⟨mA,⟨od,es,ep,e,c⟩,r⟩:=x;exact⟨mA,⟨od,es,ep,k _ _ (.inl rfl) e,c⟩,r⟩
 | rng lo hi=>obtain⟨t,u,v,e⟩:=x;exact⟨t,u,v,k _ _ (.inl rfl) e⟩
 | frz ob u ih=>obtain⟨e,q⟩:=x;exact⟨k _ _ (.inl rfl) e,ih q⟩
 | tbl ps=>
  have e:h.get? a=some { cls:=.none,data:=.fields ps }:=x;show h'.get? a=some { cls:=.none,data:=.fields ps };exact k a _ (.inl rfl) e
 | met f y=>
  have e:h.get? a=some (PySem.W.methodObj (.ref f) (.ref y)):=x;show h'.get? a=some (PySem.W.methodObj (.ref f) (.ref y));exact k a _ (.inl rfl) e
 | ext φ=>obtain⟨p,⟨o,e⟩,st⟩:=x;exact⟨st _ _ p λo q=>k _ _ (.inl rfl) q,⟨o,k _ _ (.inl rfl) e⟩,st⟩
theorem HOk.lt (x:HOk P w H h)(e:H a=some o):a<h.objs.size:=(x a o e).lt
theorem HOk.fresh (x:HOk P w H h)(e:h.objs.size<=a):H a=none:=by
 cases q:H a with
 | none=>rfl
 | some u=>exact absurd (Nat.lt_of_lt_of_le (x.lt q) e) (Nat.lt_irrefl _)
theorem HOk.kept (x:HOk P w H h)(k:∀b u,h.get? b=some u->h'.get? b=some u):HOk P w H h':=λa o e=>
 (x a o e).stay (λb u _ q=>k b u q) (λ_ q=>q) λ_ _ q=>q
theorem HOk.laid (x:HOk P w H h)(k:∀b u,h.get? b=some u->h'.get? b=some u)(hp:h.objs.size<=a)(new:zaV P w (upd H a o) h' a o):HOk P w (upd H a o) h':=λb u e=>by
 have hn:=x.fresh hp;by_cases hb:b=a
 ·subst hb;rw[zag]at e;cases e;exact new
 ·rw[zaf hb]at e;exact(x b u e).stay (λc v _ q=>k c v q) (λc q=>by rw[zaf (zau q hn)];exact q) λc xs q=>by rw[zaf (zau q hn)];exact q
end
noncomputable def Rd (H:Hp)(a:Addr)(u:HO):Prop:=H a=some u\/∃o,H a=some (.frz o u)
theorem Rd.ok {P:Program}{w:World}{H:Hp}{h:Heap}{a:Addr}{u:HO}(r:Rd H a u)(x:HOk P w H h):zaV P w H h a u:=by
 rcases r with r | ⟨o,r⟩
 ·exact x a u r
 ·obtain⟨_,q⟩:=x a _ r;exact q
noncomputable def Mut:Option HO->Prop
 | some (.lst _)=>True
 | some (.dK _)=>True
 | some (.dT _)=>True
 | some (.set _ _)=>True
 | some (.ins _ _ _)=>True
 | some (.ext _)=>True
 | _=>False
section
variable {P:Program}{w:World}{H:Hp}{h h':Heap}{x e:Addr}{o':HO}
theorem HOk.write (ok:HOk P w H h)(mu:Mut (H x))(he:e=x\/H e=some (.own x))(k:∀b u,b≠e->h.get? b=some u->h'.get? b=some u)(heo:∃u,h'.get? e=some u)
  (new:zaV P w (upd H x o') h' x o'):HOk P w (upd H x o') h':=λb u q=>by
 have nown:∀c y,H c=some (.own y)->c≠x:=λc y r z=>by subst z;rw[r]at mu;exact mu
 have ntup:∀c xs,H c=some (.tup xs)->c≠x:=λc xs r z=>by subst z;rw[r]at mu;exact mu
 by_cases hb:b=x
 ·subst hb;rw[zag]at q;cases q;exact new
 ·rw[zaf hb]at q;by_cases hbe:b=e
  ·have q':H b=some (.own x):=by
    rcases he with z | z
    ·exact absurd (hbe.trans z) hb
    ·rw[hbe];exact z
   rw[q]at q';cases q';obtain⟨v,hv⟩:=heo;exact⟨v,by rw[hbe];exact hv⟩
  ·refine(ok b u q).stay (λc v hc r=>k c v ?_ r) (λc r=>by rw[zaf (nown c b r)];exact r) λc xs r=>by rw[zaf (ntup c xs r)];exact r
   rcases hc with rfl | hc
   ·exact hbe
   ·rintro rfl;rcases he with z | z
    ·exact nown c b hc z
    ·rw[hc]at z;cases z;exact hb rfl
end
structure Un (fs ex:List Addr)(H H':Hp)(h h':Heap):Prop where
 keep:∀b o,h.get? b=some o->H b=none->b∉fs->b∉ex->h'.get? b=some o
 slot:∀b o,h.get? b=some o->H b=none->b∈fs->b∉ex->∃sl,h'.get? b=some { o with slots:=sl }
 free:∀b o,h.get? b=some o->H b=none->b∉ex->H' b=none
 there:∀b o,h.get? b=some o->b∉ex->∃o',h'.get? b=some o'
 tups:∀b xs,H b=some (.tup xs)->H' b=some (.tup xs)
 frzs:∀b o u,H b=some (.frz o u)->H' b=some (.frz o u)
 tbls:∀b ps,H b=some (.tbl ps)->∃more,H' b=some (.tbl (ps++more))
section
variable {fs fs' ex ex':List Addr}{H H1 H2:Hp}{h h1 h2 h':Heap}{a x e:Addr}{o:HO}
theorem Un.any (u:Un fs ex H H1 h h1){b:Addr}{ob:Obj}(q:h.get? b=some ob)(n:H b=none)(hx:b∉ex):∃sl,h1.get? b=some { ob with slots:=sl }:=by
 by_cases hb:b∈fs
 ·exact u.slot b ob q n hb hx
 ·exact⟨ob.slots,u.keep b ob q n hb hx⟩
theorem Un.trans (a:Un fs ex H H1 h h1)(b:Un fs ex H1 H2 h1 h2):Un fs ex H H2 h h2 where
 keep:=λc ob q n hc hx=>b.keep c ob (a.keep c ob q n hc hx) (a.free c ob q n hx) hc hx
 slot:=λc ob q n hc hx=>by
  obtain⟨sl,e1⟩:=a.slot c ob q n hc hx;obtain⟨sl',e2⟩:=b.slot c _ e1 (a.free c ob q n hx) hc hx;exact⟨sl',e2⟩
 free:=λc ob q n hx=>by
  obtain⟨o',e1⟩:=a.there c ob q hx;exact b.free c o' e1 (a.free c ob q n hx) hx
 there:=λc ob q hx=>by
  obtain⟨o',e1⟩:=a.there c ob q hx;exact b.there c o' e1 hx
 tups:=λc xs q=>b.tups c xs (a.tups c xs q)
 frzs:=λc ob xs q=>b.frzs c ob xs (a.frzs c ob xs q)
 tbls:=λc ps q=>by
  obtain⟨m1,e1⟩:=a.tbls c ps q;obtain⟨m2,e2⟩:=b.tbls c _ e1;exact⟨m1++m2,by rw[e2,Array.append_assoc]⟩
theorem Un.kept (k:∀b u,h.get? b=some u->h'.get? b=some u):Un fs ex H H h h':=
 ⟨λb ob q _ _ _=>k b ob q,λb ob q _ _ _=>⟨ob.slots,k b ob q⟩,λ_ _ _ n _=>n,λb ob q _=>⟨ob,k b ob q⟩,λ_ _ q=>q,λ_ _ _ q=>q,λ_ ps q=>⟨#[],by rw[q];simp⟩⟩
theorem Un.refl:Un fs ex H H h h:=Un.kept λ_ _ q=>q
theorem Un.laid (k:∀b u,h.get? b=some u->h'.get? b=some u)(hp:h.objs.size<=a)(hn:H a=none):Un fs ex H (upd H a o) h h' where
 keep:=λb u q _ _ _=>k b u q
 slot:=λb u q _ _ _=>⟨u.slots,k b u q⟩
 free:=λb u q n _=>by rw[zaf (Nat.ne_of_lt (Nat.lt_of_lt_of_le (Heap.lt_size q) hp))];exact n
 there:=λb u q _=>⟨u,k b u q⟩
 tups:=λb xs q=>by rw[zaf (zau q hn)];exact q
 frzs:=λb u xs q=>by rw[zaf (zau q hn)];exact q
 tbls:=λb ps q=>⟨#[],by rw[zaf (zau q hn),q];simp⟩
theorem Un.write (mu:Mut (H x))(he:e=x\/H e=some (.own x))(k:∀b u,b≠e->h.get? b=some u->h'.get? b=some u)(heo:∃u,h'.get? e=some u):Un fs ex H (upd H x o) h h':=by
 have hx:∀b,H b=none->b≠x:=λb n z=>by subst z;rw[n]at mu;exact mu
 have hb:∀b,H b=none->b≠e:=λb n z=>by
  subst z;rcases he with r | r
  ·exact hx b n r
  ·rw[n]at r;cases r
 have hm:∀b u,H b=some u->¬ Mut (some u)->b≠x:=λb u q nm z=>by subst z;rw[q]at mu;exact nm mu
 refine⟨λb u q n _ _=>k b u (hb b n) q,λb u q n _ _=>⟨u.slots,k b u (hb b n) q⟩,λb u q n _=>by rw[zaf (hx b n)];exact n,λb u q _=>?_,
  λb xs q=>by rw[zaf (hm b _ q λz=>z)];exact q,λb u xs q=>by rw[zaf (hm b _ q λz=>z)];exact q,λb ps q=>⟨#[],by rw[zaf (hm b _ q λz=>z),q];simp⟩⟩
 by_cases hbe:b=e
 ·subst hbe;exact heo
 ·exact⟨u,k b u hbe q⟩
end
noncomputable def trk (h:Heap)(H:Hp):List Addr:=(List.range h.objs.size).filter λa=>(H a).isSome
noncomputable def hidT (h:Heap)(H:Hp):Heap:=PySem.W.hideAll h (trk h H)
theorem zkO (h:Heap)(H:Hp):(hidT h H).objs.size=h.objs.size:=PySem.W.hideAll_size _ _
theorem zmX {h:Heap}{H:Hp}{b:Addr}{o:Obj}(e:h.get? b=some o)(n:H b=none):(hidT h H).get? b=some o:=
 PySem.W.hideAll_get _ e λhm=>by
  have q:(H b).isSome=true:=(List.mem_filter.mp hm).2;rw[n]at q;simp at q
theorem zoI {h:Heap}{H:Hp}{b:Addr}{o:Obj}(e:(hidT h H).get? b=some o):h.get? b=some o/\H b=none:=by
 have e':h.get? b=some o:=PySem.W.of_hideAll (trk h H) e;refine⟨e',?_⟩;cases q:H b with
 | none=>rfl
 | some x=>
  have hm:b∈trk h H:=List.mem_filter.mpr ⟨List.mem_range.mpr (Heap.lt_size e'),by simp[q]⟩;have z:(hidT h H).get? b=none:=PySem.W.hideAll_none (trk h H) hm;rw[z]at e;cases e
noncomputable def zoJ (g h:Heap)(L:Addr):List (Addr×Obj):=(List.range h.objs.size).filterMap λa=>if a=L\/(g.get? a).isSome=true then none else(h.get? a).map λo=>(a,o)
noncomputable def rest (g h:Heap)(L d:Addr):List (Addr×Obj):=(zoJ g h L).filter λp=>decide (p.1≠d)
structure Mod (K:PySem.W.Frag)(mg:Str->Option Value)(base:Heap):Prop where
 kin:K.In base
 glob:base.Ns mainGlobals mg
 blt:∃mb,base.Ns builtinsNs mb/\∀x:Str,x≠"__name__"->mb x=bootBuiltins x
 nolimit:base.NoLimit
structure Cx where
 prog:Program
 w:World
 K:PySem.W.Frag
 mg:Str->Option Value
 base:Heap
 A:Around
 N:List Str
 s₀:Shared
 H₀:Hp
 env:Env
 outer:List Env
 stack:List Env
 ex:List Addr
 fn:Str->Bool
 calm:Bool
 pn:List (Addr×Obj)
 xe:Value->Shared->Prop
noncomputable def frs (l:List Env):List Addr:=l.filterMap (·.frame)
noncomputable abbrev Cx.fs (X:Cx):List Addr:=frs X.outer
noncomputable def Vis (sc:Scope)(x:Str):Prop:=sc.names.lookup x=some .local\/sc.names.lookup x=some .cell\/sc.names.lookup x=some .free
noncomputable def Loc (sc:Scope)(x:Str):Prop:=sc.names.lookup x=some .local\/sc.names.lookup x=some .cell
noncomputable def Look (env:Env)(h:Heap)(m:Str->Option Value)(x:Str)(u:Value):Prop:=
 (env.kindOf x=some .local/\m x=some u)\/((env.kindOf x=some .cell\/env.kindOf x=some .free)/\∃c,env.cells.lookup x=some c/\h.IsCell c (some u))
structure Cx.Ok (X:Cx):Prop where
 mod:Mod X.K X.mg X.base
 kind:X.env.scope.kind=.function
 glob:X.env.globals=mainGlobals
 blt:X.env.builtins=builtinsNs
 above:X.s₀.heap.objs.size<=X.env.locals
 inj:∀x y c,X.env.cells.lookup x=some c->X.env.cells.lookup y=some c->x=y
 has:∀x,(X.env.kindOf x=some .cell\/X.env.kindOf x=some .free)->∃c,X.env.cells.lookup x=some c
 cab:∀x c,X.fn x=true->X.env.cells.lookup x=some c->X.s₀.heap.objs.size<=c
 hd:X.calm=true->X.A.handled=none
 frames:X.A.frames=some X.stack
 stk:X.stack=X.outer\/(X.stack=X.env::X.outer/\X.env.frame=some X.env.locals)
 exf:∀b∈X.ex,b≠X.env.locals/\∀x c,X.env.cells.lookup x=some c->c≠b
 bs:∀b o,X.base.get? b=some o->X.s₀.heap.get? b=some o/\X.H₀ b=none
 bsz:X.base.objs.size<=X.s₀.heap.objs.size
 noex:∀b o,X.base.get? b=some o->b∉X.ex
 exfs:∀b∈X.ex,b∉X.fs
 funs:X.s₀.heap.FunFrames X.base X.outer
 frf:∀b∈X.fs,X.H₀ b=none
structure Inv (X:Cx)(pins:List (Addr×Obj))(σ:List (Option V))(H:Hp)(s:Shared):Prop where
 ok:X.Ok
 os:s.os=X.s₀.os
 bare:AllBare s.gens
 base:Un X.fs X.ex X.H₀ H X.s₀.heap s.heap
 loc:∃m,s.heap.Ns X.env.locals m/\∀(i:Nat) (x:Str) (v:V),X.N[i]? = some x->σ[i]? = some (some v)->Vis X.env.scope x->∃u,RelV v u/\Look X.env s.heap m x u
 cell:∀x c,X.env.cells.lookup x=some c->∃v,s.heap.IsCell c v
 free:H X.env.locals=none
 freeC:∀x c,X.env.cells.lookup x=some c->H c=none
 pin:∀p∈X.pn++pins,s.heap.get? p.1=some p.2/\H p.1=none/\p.1≠X.env.locals/\p.1∉X.fs/\∀v,p.2.data≠.cell v
 hok:HOk X.prog X.w H s.heap
 len:σ.length=X.N.length
section
variable {X:Cx}{pins:List (Addr×Obj)}{σ:List (Option V)}{H H':Hp}{s:Shared}{h':Heap}
theorem Cx.Ok.nofr (ok:X.Ok){b:Addr}{o:Obj}(e:X.base.get? b=some o):b∉X.fs:=λhb=>by
 have:=(ok.funs.mem hb).1;rw[e]at this;cases this
theorem Inv.bs (I:Inv X pins σ H s):∀b o,X.base.get? b=some o->s.heap.get? b=some o/\H b=none:=λb o e=>
 ⟨I.base.keep b o (I.ok.bs b o e).1 (I.ok.bs b o e).2 (I.ok.nofr e) (I.ok.noex b o e),I.base.free b o (I.ok.bs b o e).1 (I.ok.bs b o e).2 (I.ok.noex b o e)⟩
theorem Inv.bk (I:Inv X pins σ H s):∀b o,X.base.get? b=some o->s.heap.get? b=some o:=λb o e=>(I.bs b o e).1
theorem Inv.mod (I:Inv X pins σ H s):Mod X.K X.mg X.base:=I.ok.mod
theorem Inv.kIn (I:Inv X pins σ H s):X.K.In s.heap:=I.ok.mod.kin.keeps I.bk
theorem Inv.lt (I:Inv X pins σ H s):X.env.locals<s.heap.objs.size:=let ⟨_,hn,_⟩:=I.loc;hn.lt
theorem Inv.sz (I:Inv X pins σ H s):X.s₀.heap.objs.size<=s.heap.objs.size:=Nat.le_trans I.ok.above (Nat.le_of_lt I.lt)
theorem Inv.nofs (I:Inv X pins σ H s){a:Addr}(h:s.heap.objs.size<=a):a∉X.fs:=λhb=>by
 obtain⟨_,o,ho,_⟩:=I.ok.funs.mem hb;exact absurd (Nat.lt_of_lt_of_le (Heap.lt_size ho) (Nat.le_trans I.sz h)) (Nat.lt_irrefl _)
theorem Inv.cne (I:Inv X pins σ H s):∀x c,X.env.cells.lookup x=some c->c≠X.env.locals:=λx c e z=>by
 obtain⟨v,o,ho,hd⟩:=I.cell x c e;obtain⟨m,⟨o',es,ep,ho',hd',_⟩,_⟩:=I.loc;rw[z,ho']at ho;cases ho;rw[hd']at hd;cases hd
theorem Inv.funs (I:Inv X pins σ H s):s.heap.FunFrames X.base X.outer:=by
 have all:∀(l:List Env),(∀b∈frs l,b∈X.fs)->X.s₀.heap.FunFrames X.base l->s.heap.FunFrames X.base l:=by
  intro l;induction l with
  | nil=>intro _ _;trivial
  | cons env r ih=>
   intro hs hl;obtain⟨hk,⟨L,o,hf,hn,ho,hd⟩,hr⟩:=hl;have hL:L∈X.fs:=hs L (by unfold frs;rw[List.filterMap_cons,hf];exact List.mem_cons_self);obtain⟨sl,e⟩:=I.base.slot L o ho (I.ok.frf L hL) hL λz=>I.ok.exfs L z hL;exact⟨hk,⟨L,_,hf,hn,e,hd⟩,ih (λb hb=>hs b (by unfold frs;rw[List.filterMap_cons,hf];exact List.mem_cons_of_mem _ hb)) hr⟩
 exact all X.outer (λ_ hb=>hb) I.ok.funs
theorem Inv.stack (I:Inv X pins σ H s):s.heap.FunFrames X.base X.stack:=by
 rcases I.ok.stk with e | ⟨e,hf⟩
 ·rw[e];exact I.funs
 ·rw[e];obtain⟨m,hn,_⟩:=I.loc;refine .cons (by rw[I.ok.kind];decide) hf hn ?_ I.funs;exact Heap.get?_none_of_le (Nat.le_trans I.ok.bsz I.ok.above)
theorem Inv.zkP (I:Inv X pins σ H s):∀b∈frs X.stack,b∈X.env.locals::X.fs:=λb hb=>by
 rcases I.ok.stk with e | ⟨e,hf⟩
 ·rw[e]at hb;exact List.mem_cons_of_mem _ hb
 ·rw[e]at hb;unfold frs at hb;rw[List.filterMap_cons,hf]at hb;exact hb
theorem Inv.zkQ (I:Inv X pins σ H s):∀b∈frs X.stack,H b=none:=λb hb=>by
 rcases List.mem_cons.mp (I.zkP b hb)with e | hb
 ·rw[e];exact I.free
 ·obtain⟨_,o,ho,_⟩:=I.ok.funs.mem hb;exact I.base.free b o ho (I.ok.frf b hb) λz=>I.ok.exfs b z hb
theorem Inv.step {g':Array GenState}{t':Nat}{d':Drawn}{ch:List Addr}(I:Inv X pins σ H s)
  (hch:∀b∈ch,(b∈X.ex\/X.s₀.heap.objs.size<=b)/\b≠X.env.locals/\(∀x c,X.env.cells.lookup x=some c->c≠b)/\∀p∈X.pn++pins,p.1≠b)
  (keep:∀b o,b≠X.env.locals->b∉X.fs->b∉ch->s.heap.get? b=some o->H b=none->h'.get? b=some o)
  (slot:∀b o,b≠X.env.locals->b∈X.fs->b∉ch->s.heap.get? b=some o->H b=none->∃sl,h'.get? b=some { o with slots:=sl }) (free:∀b o,b∉ch->s.heap.get? b=some o->H b=none->H' b=none)
  (there:∀b o,b∉ch->s.heap.get? b=some o->∃o',h'.get? b=some o')
  (tups:∀b xs,H b=some (.tup xs)->H' b=some (.tup xs)) (frzs:∀b o u,H b=some (.frz o u)->H' b=some (.frz o u)) (tbls:∀b ps,H b=some (.tbl ps)->∃more,H' b=some (.tbl (ps++more)))
  (ns:∀m,s.heap.Ns X.env.locals m->h'.Ns X.env.locals m) (hok:HOk X.prog X.w H' h') (hg:AllBare g') :
  Inv X pins σ H' { s with heap:=h',gens:=g',drawn:=d',toks:=t' }:=by
 have neL:∀b o,X.s₀.heap.get? b=some o->b≠X.env.locals:=λb o e=>Nat.ne_of_lt (Nat.lt_of_lt_of_le (Heap.lt_size e) I.ok.above);have neC:∀b o,X.s₀.heap.get? b=some o->b∉X.ex->b∉ch:=λb o e hx hb=>by
  rcases(hch b hb).1 with z | z
  ·exact hx z
  ·exact absurd (Nat.lt_of_lt_of_le (Heap.lt_size e) z) (Nat.lt_irrefl _)
 have cellK:∀x c,X.env.cells.lookup x=some c->∀v,s.heap.IsCell c v->h'.IsCell c v:=λx c e v ⟨o,ho,hd⟩=>by
  have nch:c∉ch:=λz=>(hch c z).2.2.1 x c e rfl;by_cases hc:c∈X.fs
  ·obtain⟨sl,q⟩:=slot c o (I.cne x c e) hc nch ho (I.freeC x c e);exact⟨_,q,hd⟩
  ·exact⟨o,keep c o (I.cne x c e) hc nch ho (I.freeC x c e),hd⟩
 refine⟨I.ok,I.os,hg,⟨λb o e n hb hx=>?_,λb o e n hb hx=>?_,λb o e n hx=>?_,λb o e hx=>?_,λb xs e=>tups b xs (I.base.tups b xs e),λb o xs e=>frzs b o xs (I.base.frzs b o xs e),λb ps e=>?_⟩,?_,λx c e=>?_,?_,λx c e=>?_,λp hp=>?_,hok,I.len⟩
 ·exact keep b o (neL b o e) hb (neC b o e hx) (I.base.keep b o e n hb hx) (I.base.free b o e n hx)
 ·obtain⟨sl,e1⟩:=I.base.slot b o e n hb hx;obtain⟨sl',e2⟩:=slot b _ (neL b o e) hb (neC b o e hx) e1 (I.base.free b o e n hx);exact⟨sl',e2⟩
 ·obtain⟨o',e1⟩:=I.base.there b o e hx;exact free b o' (neC b o e hx) e1 (I.base.free b o e n hx)
 ·obtain⟨o',e1⟩:=I.base.there b o e hx;exact there b o' (neC b o e hx) e1
 ·obtain⟨m1,e1⟩:=I.base.tbls b ps e;obtain⟨m2,e2⟩:=tbls b _ e1;exact⟨m1++m2,by rw[e2,Array.append_assoc]⟩
 ·obtain⟨m,hn,hl⟩:=I.loc;refine⟨m,ns m hn,λi x v e1 e2 e3=>?_⟩;obtain⟨u,r,l⟩:=hl i x v e1 e2 e3;refine⟨u,r,?_⟩;rcases l with l | ⟨k,c,e,z⟩
  ·exact .inl l
  ·exact .inr ⟨k,c,e,cellK x c e _ z⟩
 ·obtain⟨v,z⟩:=I.cell x c e;exact⟨v,cellK x c e v z⟩
 ·obtain⟨m,⟨o,_,_,ho,_⟩,_⟩:=I.loc;exact free _ o (λz=>(hch _ z).2.1 rfl) ho I.free
 ·obtain⟨v,o,ho,hd⟩:=I.cell x c e;exact free c o (λz=>(hch c z).2.2.1 x c e rfl) ho (I.freeC x c e)
 ·obtain⟨e,n,ne,nf,d⟩:=I.pin p hp;have nch:p.1∉ch:=λz=>(hch p.1 z).2.2.2 p hp rfl;exact⟨keep p.1 p.2 ne nf nch e n,free p.1 p.2 nch e n,ne,nf,d⟩
theorem Inv.un {t':Nat}(I:Inv X pins σ H s)(u:Un X.fs [] H H' s.heap h')(hok:HOk X.prog X.w H' h'):Inv X pins σ H' { s with heap:=h',toks:=t' }:=by
 obtain⟨m,⟨o,es,ep,ho,r⟩,_⟩:=id I.loc;obtain⟨sl,hL⟩:=u.any ho I.free (by simp);exact I.step (g':=s.gens) (d':=s.drawn) (ch:=[]) (λ_ z=>nomatch z) (λb o _ hb _ e n=>u.keep b o e n hb (by simp)) (λb o _ hb _ e n=>u.slot b o e n hb (by simp)) (λb o _ e n=>u.free b o e n (by simp)) (λb o _ e=>u.there b o e (by simp)) u.tups u.frzs u.tbls (λm' hm=>by
  obtain⟨o',es',ep',ho',r'⟩:=hm;rw[ho]at ho';cases ho';exact⟨_,es',ep',hL,r'⟩) hok I.bare
theorem Inv.call {g':Array GenState}{t':Nat}{d':Drawn}{ch:List Addr}(I:Inv X pins σ H s)(u:Un (frs X.stack) ch H H' s.heap h')(hok:HOk X.prog X.w H' h')(hg:AllBare g')
  (hch:∀b∈ch,(b∈X.ex\/X.s₀.heap.objs.size<=b)/\b≠X.env.locals/\(∀x c,X.env.cells.lookup x=some c->c≠b)/\∀p∈X.pn++pins,p.1≠b) :
  Inv X pins σ H' { s with heap:=h',gens:=g',drawn:=d',toks:=t' }:=by
 obtain⟨m,⟨o,es,ep,ho,r⟩,_⟩:=id I.loc;obtain⟨sl,hL⟩:=u.any ho I.free λz=>(hch _ z).2.1 rfl;exact I.step (ch:=ch) hch (λb o hL hb hc e n=>u.keep b o e n (λz=>(List.mem_cons.mp (I.zkP b z)).elim hL hb) hc) (λb o _ _ hc e n=>u.any e n hc) (λb o hc e n=>u.free b o e n hc) (λb o hc e=>u.there b o e hc) u.tups u.frzs u.tbls (λm' hm=>by
  obtain⟨o',es',ep',ho',r'⟩:=hm;rw[ho]at ho';cases ho';exact⟨_,es',ep',hL,r'⟩) hok hg
theorem Inv.turned {t':Nat}{it:Addr}(I:Inv X pins σ H s)(k:∀b o,b≠it->s.heap.get? b=some o->h'.get? b=some o)(hn:H it=none)(hL:it≠X.env.locals)
  (h1:it∈X.ex\/X.s₀.heap.objs.size<=it) (h2:∀x c,X.env.cells.lookup x=some c->c≠it) (h3:∀p∈X.pn++pins,p.1≠it):Inv X pins σ H { s with heap:=h',toks:=t' }:=by
 have nit:∀b u,H b=some u->b≠it:=λb u e z=>by rw[z,hn]at e;cases e
 refine I.step (g':=s.gens) (d':=s.drawn) (ch:=[it]) (λb hb=>?_) (λb o _ _ hc e _=>k b o (λz=>hc (by simp[z])) e) (λb o _ _ hc e _=>⟨o.slots,k b o (λz=>hc (by simp[z])) e⟩) (λ_ _ _ _ n=>n)
  (λb o hc e=>⟨o,k b o (λz=>hc (by simp[z])) e⟩) (λ_ _ e=>e) (λ_ _ _ e=>e) (λb ps e=>⟨#[],by rw[e];simp⟩) (λm hm=>?_) (λb u e=>?_) I.bare
 ·have e:b=it:=by simpa using hb
  subst e;exact⟨h1,hL,h2,h3⟩
 ·obtain⟨o,es,ep,ho,r⟩:=hm;exact⟨o,es,ep,k _ o (Ne.symm hL) ho,r⟩
 ·refine(I.hok b u e).stay (λc v hc q=>k c v ?_ q) (λ_ q=>q) λ_ _ q=>q;rcases hc with z | z
  ·rw[z];exact nit b u e
  ·exact nit c _ z
theorem Inv.tok (I:Inv X pins σ H s)(t:Nat):Inv X pins σ H { s with toks:=t }:=I.un (h':=s.heap) (t':=t) Un.refl I.hok
theorem Inv.kept {t':Nat}(I:Inv X pins σ H s)(k:∀b u,s.heap.get? b=some u->h'.get? b=some u):Inv X pins σ H { s with heap:=h',toks:=t' }:=I.un (Un.kept k) (I.hok.kept k)
theorem Inv.laid {a:Addr}{o:HO}{t':Nat}(I:Inv X pins σ H s)(k:∀b u,s.heap.get? b=some u->h'.get? b=some u)(hp:s.heap.objs.size<=a)(new:zaV X.prog X.w (upd H a o) h' a o) :
  Inv X pins σ (upd H a o) { s with heap:=h',toks:=t' }:=I.un (Un.laid k hp (I.hok.fresh hp)) (I.hok.laid k hp new)
theorem Inv.write {x e:Addr}{o:HO}{t':Nat}(I:Inv X pins σ H s)(mu:Mut (H x))(he:e=x\/H e=some (.own x))(k:∀b u,b≠e->s.heap.get? b=some u->h'.get? b=some u)(heo:∃u,h'.get? e=some u)
  (new:zaV X.prog X.w (upd H x o) h' x o):Inv X pins σ (upd H x o) { s with heap:=h',toks:=t' }:=I.un (Un.write mu he k heo) (I.hok.write mu he k heo new)
theorem Inv.zkR {pins':List (Addr×Obj)}(I:Inv X pins σ H s)(h:∀p∈pins',s.heap.get? p.1=some p.2/\H p.1=none/\p.1≠X.env.locals/\p.1∉X.fs/\∀v,p.2.data≠.cell v):Inv X pins' σ H s:=
 ⟨I.ok,I.os,I.bare,I.base,I.loc,I.cell,I.free,I.freeC,λp hp=>(List.mem_append.mp hp).elim (λz=>I.pin p (List.mem_append_left _ z)) (h p),I.hok,I.len⟩
theorem ziZ {N:List Str}(hN:N.Nodup){i j:Nat}{x:Str}(a:N[i]? = some x)(b:N[j]? = some x):i=j:=by
 obtain⟨h1,e1⟩:=List.getElem?_eq_some_iff.mp a;obtain⟨h2,e2⟩:=List.getElem?_eq_some_iff.mp b;exact(List.getElem_inj hN).mp (e1.trans e2.symm)
theorem zgL {M:Model}{A:Around}{E:Value->Shared->Prop}{i:Nat}{x:Str}{v:V}{u:Value}{Q:Unit->Shared->Prop}(I:Inv X pins σ H s)(hN:X.N.Nodup)(hi:X.N[i]? = some x)(hx:Loc X.env.scope x)(r:RelV v u)
  (h:∀s',Inv X pins (σ.set i (some v)) H s'->(∃a,Heap.SameBut a s.heap s'.heap/\(a=X.env.locals\/X.env.cells.lookup x=some a))->Q () s') (hf:X.fn x=true\/X.env.scope.names.lookup x=some .local:=by first | exact .inl rfl | exact .inr rfl | assumption):wpAny M A (storeName X.env x u) Q E s:=by
 obtain⟨m,hn,hl⟩:=id I.loc;have hcls:(X.env.scope.kind == .class||(X.env.scope.kind == .module&&X.env.locals != X.env.globals))=false:=by rw[I.ok.kind];rfl
 have hiσ:i<σ.length:=by rw[I.len];exact(List.getElem?_eq_some_iff.mp hi).1
 have cne:=I.cne;have tracked:∀ {a:Addr} {h':Heap},(∃o,s.heap.get? a=some o/\H a=none)->Heap.SameBut a s.heap h'->HOk X.prog X.w H h':=λ{a h'} ha hs b ob e=>by
  obtain⟨_,_,hfree⟩:=ha;refine(I.hok b ob e).stay (λc w' hc q=>(hs.2 c ?_).trans q) (λ_ q=>q) λ_ _ q=>q;rintro rfl;rcases hc with rfl | hc
  ·rw[hfree]at e;cases e
  ·rw[hfree]at hc;cases hc
 rcases hx with hk | hk
 ·refine wpAny_storeName_local hk hn (λh' hn' hs=>?_) hcls;obtain⟨oL,_,_,hoL,_⟩:=id hn;refine h _ ⟨I.ok,I.os,I.bare,⟨λb o e n hb hx=>?_,λb o e n hb hx=>?_,I.base.free,λb o e hx=>?_,I.base.tups,I.base.frzs,I.base.tbls⟩,⟨_,hn',λj y v' e1 e2 e3=>?_⟩,λy c e=>?_,I.free,I.freeC,λp hp=>?_,tracked ⟨oL,hoL,I.free⟩ hs,by simpa using I.len⟩ ⟨_,hs,.inl rfl⟩
  ·exact(hs.2 b (Nat.ne_of_lt (Nat.lt_of_lt_of_le (Heap.lt_size e) I.ok.above))).trans (I.base.keep b o e n hb hx)
  ·obtain⟨sl,e1⟩:=I.base.slot b o e n hb hx;exact⟨sl,(hs.2 b (Nat.ne_of_lt (Nat.lt_of_lt_of_le (Heap.lt_size e) I.ok.above))).trans e1⟩
  ·obtain⟨o',e1⟩:=I.base.there b o e hx;exact⟨o',(hs.2 b (Nat.ne_of_lt (Nat.lt_of_lt_of_le (Heap.lt_size e) I.ok.above))).trans e1⟩
  ·by_cases hj:j=i
   ·subst hj;rw[hi]at e1;cases e1;rw[List.getElem?_set_self hiσ]at e2;cases e2;exact⟨u,r,.inl ⟨hk,by simp⟩⟩
   ·rw[List.getElem?_set_ne (Ne.symm hj)]at e2;obtain⟨u',r',q⟩:=hl j y v' e1 e2 e3;refine⟨u',r',?_⟩;rcases q with ⟨k,e⟩ | ⟨k,c,e,z⟩
    ·refine .inl ⟨k,?_⟩;have:y≠x:=λe=>hj (ziZ hN e1 (e▸hi));simp[this,e]
    ·exact .inr ⟨k,c,e,z.sameBut hs (cne y c e)⟩
  ·obtain⟨w',z⟩:=I.cell y c e;exact⟨w',z.sameBut hs (cne y c e)⟩
  ·obtain⟨e,n,ne,nf,d⟩:=I.pin p hp;exact⟨(hs.2 p.1 ne).trans e,n,ne,nf,d⟩
 ·have hfn:X.fn x=true:=by
   rcases hf with z | z
   ·exact z
   ·rw[z]at hk;cases hk
  obtain⟨c,hc⟩:=I.ok.has x (.inl hk);obtain⟨w',z⟩:=I.cell x c hc;refine wpAny_storeName_cell I.ok.kind hk hc z (λh' hc' hs=>?_);obtain⟨oc,hoc,hocd⟩:=id z;refine h { s with heap:=h' } ⟨I.ok,I.os,I.bare,⟨λb o e n hb hx=>?_,λb o e n hb hx=>?_,I.base.free,λb o e hx=>?_,I.base.tups,I.base.frzs,I.base.tbls⟩,⟨m,hn.sameBut hs (Ne.symm (cne x c hc)),λj y v' e1 e2 e3=>?_⟩,λy c' e=>?_,I.free,I.freeC,λp hp=>?_,tracked ⟨oc,hoc,I.freeC x c hc⟩ hs,by simpa using I.len⟩ ⟨c,hs,.inr hc⟩
  ·exact(hs.2 b (Nat.ne_of_lt (Nat.lt_of_lt_of_le (Heap.lt_size e) (I.ok.cab x c hfn hc)))).trans (I.base.keep b o e n hb hx)
  ·obtain⟨sl,e1⟩:=I.base.slot b o e n hb hx;exact⟨sl,(hs.2 b (Nat.ne_of_lt (Nat.lt_of_lt_of_le (Heap.lt_size e) (I.ok.cab x c hfn hc)))).trans e1⟩
  ·obtain⟨o',e1⟩:=I.base.there b o e hx;exact⟨o',(hs.2 b (Nat.ne_of_lt (Nat.lt_of_lt_of_le (Heap.lt_size e) (I.ok.cab x c hfn hc)))).trans e1⟩
  ·by_cases hj:j=i
   ·subst hj;rw[hi]at e1;cases e1;rw[List.getElem?_set_self hiσ]at e2;cases e2;exact⟨u,r,.inr ⟨.inl hk,c,hc,hc'⟩⟩
   ·rw[List.getElem?_set_ne (Ne.symm hj)]at e2;obtain⟨u',r',q⟩:=hl j y v' e1 e2 e3;refine⟨u',r',?_⟩;rcases q with q | ⟨k,c',e,z'⟩
    ·exact .inl q
    ·refine .inr ⟨k,c',e,z'.sameBut hs ?_⟩;rintro rfl;exact hj (ziZ hN e1 (I.ok.inj _ _ _ e hc▸hi))
  ·by_cases hcc:c'=c
   ·subst hcc;exact⟨_,hc'⟩
   ·obtain⟨w2,z2⟩:=I.cell y c' e;exact⟨w2,z2.sameBut hs hcc⟩
  ·obtain⟨e,n,ne,nf,d⟩:=I.pin p hp;refine⟨(hs.2 p.1 ?_).trans e,n,ne,nf,d⟩;intro q;rw[q,hoc]at e;have q':oc=p.2:=Option.some.inj e;exact d w' (by rw[<- q'];exact hocd)
theorem zja {M:Model}{A:Around}{E:Value->Shared->Prop}{i:Nat}{x:Str}{v:V}{u:Value}{Q:Unit->Shared->Prop}(I:Inv X pins σ H s)(hN:X.N.Nodup)(hi:X.N[i]? = some x)(hx:Loc X.env.scope x)(r:RelV v u)
  (h:∀s',Inv X pins (σ.set i (some v)) H s'->Q () s') (hf:X.fn x=true\/X.env.scope.names.lookup x=some .local:=by first | exact .inl rfl | exact .inr rfl | assumption):wpAny M A (storeName X.env x u) Q E s:=
 zgL I hN hi hx r (λs' I' _=>h s' I') hf
theorem Inv.call' {s':Shared}{ch:List Addr}(I:Inv X pins σ H s)(ho:s'.os=s.os)(u:Un (frs X.stack) ch H H' s.heap s'.heap)(hok:HOk X.prog X.w H' s'.heap)(hg:AllBare s'.gens)
  (hch:∀b∈ch,(b∈X.ex\/X.s₀.heap.objs.size<=b)/\b≠X.env.locals/\(∀x c,X.env.cells.lookup x=some c->c≠b)/\∀p∈X.pn++pins,p.1≠b):Inv X pins σ H' s':=by
 obtain⟨h',g',d',t',o'⟩:=s';have e:o'=s.os:=ho;subst e;exact I.call (g':=g') (t':=t') (d':=d') u hok hg hch
end
noncomputable abbrev XK:=Value->Option Addr->Hp->Prop
noncomputable abbrev St:=List (Option V)
noncomputable abbrev VK:=V->Hp->Prop
noncomputable abbrev TE:=St->Hp->VK->Prop
noncomputable abbrev TT:=St->Hp->(Bool->Hp->Prop)->Prop
noncomputable abbrev TA:=St->Hp->(List V->Hp->Prop)->Prop
structure Ends where
 nx:St->Hp->Prop
 rt:VK
 bk:St->Hp->Prop:=λ_ _=>False
 ct:St->Hp->Prop:=λ_ _=>False
noncomputable abbrev TS:=Ends->St->Hp->Prop
noncomputable def EP (X:Cx)(pins:List (Addr×Obj))(σ:St)(Q:VK)(u:Value)(s':Shared):Prop:=∃v H',Inv X pins σ H' s'/\RelV v u/\Q v H'
noncomputable def TP (X:Cx)(pins:List (Addr×Obj))(σ:St)(Q:Bool->Hp->Prop)(b:Bool)(s':Shared):Prop:=∃H',Inv X pins σ H' s'/\Q b H'
noncomputable def AP (X:Cx)(pins:List (Addr×Obj))(σ:St)(Q:List V->Hp->Prop)(us:List Value)(s':Shared):Prop:=∃vs H',Inv X pins σ H' s'/\Vals vs us/\Q vs H'
noncomputable def SP (X:Cx)(pins:List (Addr×Obj))(D:Ends)(f:Flow)(s':Shared):Prop:=
 match f with
 | .next=>∃σ' H',Inv X pins σ' H' s'/\D.nx σ' H'
 | .brk=>∃σ' H',Inv X pins σ' H' s'/\D.bk σ' H'
 | .cont=>∃σ' H',Inv X pins σ' H' s'/\D.ct σ' H'
 | .ret u=>∃v σ' H',Inv X pins σ' H' s'/\RelV v u/\D.rt v H'
noncomputable def PE (X:Cx)(e:Expr)(t:TE):Prop:=
 ∀(pins:List (Addr×Obj)) (s:Shared) (σ:St) (H:Hp) (Q:VK),Inv X pins σ H s->t σ H Q->wpAny (model X.prog X.w) X.A (eval e X.env) (EP X pins σ Q) X.xe s
noncomputable def PT (X:Cx)(e:Expr)(t:TT):Prop:=
 ∀(pins:List (Addr×Obj)) (s:Shared) (σ:St) (H:Hp) (Q:Bool->Hp->Prop),Inv X pins σ H s->t σ H Q->wpAny (model X.prog X.w) X.A (isTrue e X.env (eval e X.env)) (TP X pins σ Q) X.xe s
noncomputable def PW (X:Cx)(e:Expr)(t:TT):Prop:=
 ∀(whole:Sem Value) (pins:List (Addr×Obj)) (s:Shared) (σ:St) (H:Hp) (Q:Bool->Hp->Prop),Inv X pins σ H s->t σ H Q->wpAny (model X.prog X.w) X.A (isTrue e X.env whole) (TP X pins σ Q) X.xe s
theorem PW.pt {X:Cx}{e:Expr}{t:TT}(h:PW X e t):PT X e t:=h _
noncomputable def PA (X:Cx)(es:List Expr)(t:TA):Prop:=
 ∀(pos:Pos) (pins:List (Addr×Obj)) (s:Shared) (σ:St) (H:Hp) (Q:List V->Hp->Prop),Inv X pins σ H s->t σ H Q->wpAny (model X.prog X.w) X.A (spliced (backTo pos (starEach es X.env))) (AP X pins σ Q) X.xe s
noncomputable def PS (X:Cx)(st:Stmt)(t:TS):Prop:=
 ∀(pins:List (Addr×Obj)) (s:Shared) (σ:St) (H:Hp) (D:Ends),Inv X pins σ H s->t D σ H->wpAny (model X.prog X.w) X.A (exec st X.env) (SP X pins D) X.xe s
noncomputable def PSs (X:Cx)(st:List Stmt)(t:TS):Prop:=
 ∀(pins:List (Addr×Obj)) (s:Shared) (σ:St) (H:Hp) (D:Ends),Inv X pins σ H s->t D σ H->wpAny (model X.prog X.w) X.A (execs st X.env) (SP X pins D) X.xe s
theorem thn {α:Type}{t:Sem α}{Q Q':α->Shared->Prop}{M:Model}{A:Around}{E:Value->Shared->Prop}{s:Shared}(h:wpAny M A t Q E s)(hQ:∀a s,Q a s->Q' a s):wpAny M A t Q' E s:=wpAny_mono h hQ λ_ _ x=>x
section
variable {X:Cx}
noncomputable def tVar (i:Nat):TE:=λσ H Q=>∃v,σ[i]? = some (some v)/\Q v H
noncomputable def tC (v:V):TE:=λ_ H Q=>Q v H
theorem zcC {i:Nat}{x:Str}{pos:Pos}(hN:X.N[i]? = some x)(hv:Vis X.env.scope x)(hd:(x == ("__debug__" : Str))=false:=by decide) (hcd:(x == ("__classdict__" : Str))=false:=by decide):PE X (.Name x pos) (tVar i):=by
 intro pins s σ H Q I h;obtain⟨v,e,h⟩:=h;obtain⟨m,hn,hl⟩:=I.loc;obtain⟨u,r,l⟩:=hl i x v hN e hv;have fin:EP X pins σ Q u s:=⟨v,H,I,r,h⟩;rcases l with ⟨hk,hm⟩ | ⟨hk,c,hc,hcell⟩
 ·exact wpAny_Name (wpAny_loadName_local I.ok.kind hk hn hm fin) hd
 ·rcases hk with hk | hk
  ·exact wpAny_Name (wpAny_loadName_cell I.ok.kind hk hc hcell fin) hd
  ·exact wpAny_Name (wpAny_loadName_free I.ok.kind hk hc hcell fin hcd) hd
theorem zqn {i j pos}:PE X (.Constant (.int i) j pos) (tC (.int i)):=λ_ _ _ H _ I h=>wpAny_Constant_int ⟨.int i,H,I.tok _,⟨_,rfl⟩,h⟩
theorem zsx {b j pos}:PE X (.Constant (.bool b) j pos) (tC (.bl b)):=λ_ _ _ H _ I h=>Constant_bool ⟨.bl b,H,I,rfl,h⟩
theorem zqo {j pos}:PE X (.Constant .none j pos) (tC .non):=λ_ _ _ H _ I h=>Constant_none ⟨.non,H,I,rfl,h⟩
theorem zqp {x j pos}:PE X (.Constant (.str x) j pos) (tC (.str x)):=λ_ _ _ H _ I h=>Calls.Constant_str ⟨.str x,H,I.tok _,⟨_,rfl⟩,h⟩
noncomputable def Gl (X:Cx)(x:Str):Prop:=X.env.kindOf x=some .globalImplicit
theorem zoK {E:Value->Shared->Prop}{pins:List (Addr×Obj)}{s:Shared}{σ:St}{H:Hp}{x:Str}{u:Value}{pos:Pos}{Q:Value->Shared->Prop}(I:Inv X pins σ H s)(hg:Gl X x)(hm:X.mg x=some u)(h:Q u s)
  (hd:(x == ("__debug__" : Str))=false:=by decide):wpAny (model X.prog X.w) X.A (eval (.Name x pos) X.env) Q E s:=
 Calls.Name_function_global I.ok.kind hg (Calls.loadGlobal_global (by rw[I.ok.glob];exact I.mod.glob.keeps I.bk) hm h) hd
theorem zet {E:Value->Shared->Prop}{pins:List (Addr×Obj)}{s:Shared}{σ:St}{H:Hp}{x:Str}{u:Value}{pos:Pos}{Q:Value->Shared->Prop}(I:Inv X pins σ H s)(hg:Gl X x)(hm:X.mg x=none)(hv:bootBuiltins x=some u)(h:Q u s)
  (hn:x≠"__name__":=by decide) (hd:(x == ("__debug__" : Str))=false:=by decide):wpAny (model X.prog X.w) X.A (eval (.Name x pos) X.env) Q E s:=by
 obtain⟨mb,h1,h2⟩:=I.mod.blt;exact Calls.Name_function_global I.ok.kind hg (Calls.loadGlobal_builtin (by rw[I.ok.glob];exact I.mod.glob.keeps I.bk) hm (by rw[I.ok.blt];exact h1.keeps I.bk) ((h2 x hn).trans hv) h) hd
theorem zoL {x:Str}{v:V}{u:Value}{pos:Pos}(hg:Gl X x)(hm:X.mg x=none)(hv:bootBuiltins x=some u)(r:RelV v u)(hn:x≠"__name__":=by decide) (hd:(x == ("__debug__" : Str))=false:=by decide):PE X (.Name x pos) (tC v):=
 λ_ _ _ H _ I h=>zet I hg hm hv ⟨v,H,I,r,h⟩ hn hd
variable {a b:Expr}{ta tb:TE}{pos:Pos}
noncomputable def PC (X:Cx)(op:CmpOp)(a b:Expr)(t:TE):Prop:=
 ∀(pins:List (Addr×Obj)) (s:Shared) (σ:St) (H:Hp) (Q:VK),Inv X pins σ H s->t σ H Q->
  wpAny (model X.prog X.w) X.A (eval a X.env) (λv s₁=>wpAny (model X.prog X.w) X.A (eval b X.env) (λu s₂=>wpAny (model X.prog X.w) X.A (compareOp op v u) (EP X pins σ Q) X.xe s₂) X.xe s₁) X.xe s
noncomputable def tB (t:TE):TT:=λσ H Q=>t σ H λx H1=>∃c,x=.bl c/\Q c H1
theorem zqq {op:CmpOp}{t:TE}(h:PC X op a b t)(h1:behindInMarks op b=false:=by first | exact nobehind _ (by decide) (by decide) | rfl):PE X (.Compare a [op] [b] pos) t:=λpins s σ H Q I hw=>wpAny_Compare1 (h pins s σ H Q I hw) h1
variable {tA tB':TT}{rest:List Expr}
noncomputable def tAnd (t u:TT):TT:=λσ H Q=>t σ H λc H1=>if c=true then u σ H1 Q else Q false H1
noncomputable def tOr (t u:TT):TT:=λσ H Q=>t σ H λc H1=>if c=true then Q true H1 else u σ H1 Q
noncomputable def tNot (t:TT):TT:=λσ H Q=>t σ H λc H1=>Q (!c) H1
theorem zoM (ha:PT X a tA):PW X (.BoolOp .And [a] pos) tA:=by
 intro wh pins s σ H Q I h;refine isTrue_and (thn (ha pins s σ H Q I h) λc s1 e=>?_);cases c with
 | true=>exact isTrue_and_nil e
 | false=>exact e
theorem zqr (ha:PT X a tA):PW X (.BoolOp .Or [a] pos) tA:=by
 intro wh pins s σ H Q I h;refine isTrue_or (thn (ha pins s σ H Q I h) λc s1 e=>?_);cases c with
 | false=>exact isTrue_or_nil e
 | true=>exact e
theorem zqs (ha:PT X a tA)(hb:PW X (.BoolOp .And (b::rest) pos) tB'):PW X (.BoolOp .And (a::b::rest) pos) (tAnd tA tB'):=by
 intro wh pins s σ H Q I h;refine isTrue_and (thn (ha pins s σ H _ I h) λc s1 ⟨H1,I1,q1⟩=>?_);cases c with
 | true=>exact hb wh pins s1 σ H1 Q I1 q1
 | false=>exact⟨H1,I1,q1⟩
theorem zsy (ha:PT X a tA)(hb:PW X (.BoolOp .Or (b::rest) pos) tB'):PW X (.BoolOp .Or (a::b::rest) pos) (tOr tA tB'):=by
 intro wh pins s σ H Q I h;refine isTrue_or (thn (ha pins s σ H _ I h) λc s1 ⟨H1,I1,q1⟩=>?_);cases c with
 | true=>exact⟨H1,I1,q1⟩
 | false=>exact hb wh pins s1 σ H1 Q I1 q1
theorem zqt (ha:PT X a tA):PT X (.UnaryOp .Not a pos) (tNot tA):=by
 intro pins s σ H Q I h;exact isTrue_not (ha pins s σ H (λc H1=>Q (!c) H1) I h)
noncomputable def zsz (ta tb:TE):TE:=λσ H Q=>ta σ H λx H1=>∃c,x=.bl c/\if c=true then tb σ H1 Q else Q (.bl false) H1
noncomputable def zsA (ta:TE):TE:=λσ H Q=>ta σ H λx H1=>∃c,x=.bl c/\Q (.bl (!c)) H1
theorem zqu {op}{t:TE}(h:PE X a t):PE X (.BoolOp op [a] pos) t:=λpins s σ H Q I hw=>BoolOp_one (h pins s σ H Q I hw)
theorem zqv (ha:PE X a ta)(hb:PE X (.BoolOp .And (b::rest) pos) tb):PE X (.BoolOp .And (a::b::rest) pos) (zsz ta tb):=by
 intro pins s σ H Q I h;refine BoolOp_and (thn (ha pins s σ H _ I h) λv s1 ⟨x,H1,I1,r1,q1⟩=>?_);obtain⟨c,rfl,q1⟩:=q1;cases r1;refine wpAny_truthy_bool ?_;cases c with
 | true=>exact hb pins s1 σ H1 Q I1 q1
 | false=>exact⟨.bl false,H1,I1,rfl,q1⟩
theorem zqw (ha:PE X a ta):PE X (.UnaryOp .Not a pos) (zsA ta):=by
 intro pins s σ H Q I h;refine UnaryOp_ (thn (ha pins s σ H _ I h) λv s1 ⟨x,H1,I1,r1,q1⟩=>?_);obtain⟨c,rfl,q1⟩:=q1;cases r1;exact not_of (wpAny_truthy_bool ⟨.bl (!c),H1,I1,rfl,q1⟩)
noncomputable def tIf (t:TT)(ta tb:TE):TE:=λσ H Q=>t σ H λc H1=>if c=true then ta σ H1 Q else tb σ H1 Q
theorem zmY {c:Expr}(hc:PT X c tA)(ha:PE X a ta)(hb:PE X b tb):PE X (.IfExp c a b pos) (tIf tA ta tb):=by
 intro pins s σ H Q I h;refine wpAny_IfExp (thn (hc pins s σ H _ I h) λd s1 ⟨H1,I1,q1⟩=>?_);cases d with
 | true=>exact ha pins s1 σ H1 Q I1 q1
 | false=>exact hb pins s1 σ H1 Q I1 q1
end
noncomputable def SqL (K:PySem.W.Frag)(H:Hp)(a:Addr)(xs:List V):Prop:=
 Rd H a (.lst xs)\/
  ∃(o:Obj) (its:Array Value) (n:Nat),K.lookup a=some o/\o.cls=.type "list"/\o.dict=none/\o.data=.seq its n/\its.size<=sizeLine/\Vals xs its.toList
noncomputable def SqT (K:PySem.W.Frag)(H:Hp)(a:Addr)(xs:List V):Prop:=
 Rd H a (.tup xs)\/
  ∃(o:Obj) (its:Array Value) (n:Nat),K.lookup a=some o/\o.cls=.type "tuple"/\o.data=.seq its n/\its.size<=sizeLine/\Vals xs its.toList/\o.dict=none
noncomputable def absV:Value->Option V
 | .none=>some .non
 | .bool b=>some (.bl b)
 | .int i _=>some (.int i)
 | .str x _=>some (.str x)
 | .bytes b _=>some (.byt b)
 | .float b _=>some (.flt b)
 | .ref a=>some (.ref a)
 | .type n=>some (.ty n)
 | _=>none
theorem RelV.abs {x:V}{u:Value}(r:RelV x u):absV u=some x:=by
 cases x with
 | non=>cases r;rfl
 | bl _=>cases r;rfl
 | int _=>obtain⟨t,rfl⟩:=r;rfl
 | str _=>obtain⟨t,rfl⟩:=r;rfl
 | byt _=>obtain⟨t,rfl⟩:=r;rfl
 | flt _=>obtain⟨t,rfl⟩:=r;rfl
 | ref _=>cases r;rfl
 | ty _=>cases r;rfl
theorem RelV.inj {x y:V}{u:Value}(r:RelV x u)(q:RelV y u):x=y:=Option.some.inj (r.abs.symm.trans q.abs)
theorem Vals.inj:∀ {xs ys:List V}{us:List Value},Vals xs us->Vals ys us->xs=ys
 | _,_,_,.nil,.nil=>rfl
 | _,_,_,.cons r t,.cons r' t'=>by rw[r.inj r',Vals.inj t t']
section
variable {X:Cx}{pins:List (Addr×Obj)}{σ:St}{H:Hp}{s:Shared}{a:Addr}{xs ys:List V}
theorem SqL.of {K:PySem.W.Frag}(h:H a=some (.lst xs)):SqL K H a xs:=.inl (.inl h)
theorem SqT.of {K:PySem.W.Frag}(h:H a=some (.tup xs)):SqT K H a xs:=.inl (.inl h)
theorem Inv.list (I:Inv X pins σ H s)(h:SqL X.K H a xs):∃its:List Value,Vals xs its/\PlainL s.heap a its.toArray/\xs.length<=sizeLine:=by
 rcases h with h | ⟨o,its,n,hk,hc,hd,hs,hz,r⟩
 ·obtain⟨z,its,n,r,e⟩:=h.ok I.hok;exact⟨its,r,⟨_,n,e,rfl,rfl,rfl⟩,z⟩
 ·refine⟨its.toList,r,⟨o,n,I.kIn a o hk,hc,hd,by simpa using hs⟩,?_⟩;have e:=r.length;simp only[Array.length_toList]at e;lia
theorem Inv.tuple (I:Inv X pins σ H s)(h:SqT X.K H a xs):∃its:List Value,Vals xs its/\IsTup s.heap a its.toArray/\xs.length<=sizeLine:=by
 rcases h with h | ⟨o,its,n,hk,hc,hs,hz,r,_⟩
 ·obtain⟨z,its,r,p⟩:=h.ok I.hok;exact⟨its,r,p.tup,z⟩
 ·refine⟨its.toList,r,⟨o,I.kIn a o hk,hc,n,by simpa using hs⟩,?_⟩;have e:=r.length;simp only[Array.length_toList]at e;lia
theorem Inv.zdg (I:Inv X pins σ H s)(h:SqL X.K H a xs)(h':SqL X.K H a ys):xs=ys:=by
 obtain⟨its,r,⟨o,n,e,_,_,d⟩,_⟩:=I.list h;obtain⟨its',r',⟨o',n',e',_,_,d'⟩,_⟩:=I.list h';rw[e]at e';cases e';rw[d]at d';injection d' with d1 _;have:its=its':=by simpa using congrArg Array.toList d1
 subst this;exact r.inj r'
theorem Inv.zgM (I:Inv X pins σ H s)(h:SqT X.K H a xs)(h':SqT X.K H a ys):xs=ys:=by
 obtain⟨its,r,⟨o,e,_,n,d⟩,_⟩:=I.tuple h;obtain⟨its',r',⟨o',e',_,n',d'⟩,_⟩:=I.tuple h';rw[e]at e';cases e';rw[d]at d';injection d' with d1 _;have:its=its':=by simpa using congrArg Array.toList d1
 subst this;exact r.inj r'
end
noncomputable abbrev Cx.wish (X:Cx)(E:Value->Shared->Prop):Cx:={ X with xe:=E }
noncomputable abbrev Cx.nox (X:Cx):Cx:=X.wish λ_ _=>False
theorem Cx.Ok.wish {X:Cx}(ok:X.Ok)(E:Value->Shared->Prop):(X.wish E).Ok:=
 ⟨ok.mod,ok.kind,ok.glob,ok.blt,ok.above,ok.inj,ok.has,ok.cab,ok.hd,ok.frames,ok.stk,ok.exf,ok.bs,ok.bsz,ok.noex,ok.exfs,ok.funs,ok.frf⟩
theorem Cx.Ok.zeu {X:Cx}{E:Value->Shared->Prop}(ok:(X.wish E).Ok):X.Ok:=
 ⟨ok.mod,ok.kind,ok.glob,ok.blt,ok.above,ok.inj,ok.has,ok.cab,ok.hd,ok.frames,ok.stk,ok.exf,ok.bs,ok.bsz,ok.noex,ok.exfs,ok.funs,ok.frf⟩
section
variable {X:Cx}{pins:List (Addr×Obj)}{σ:St}{H:Hp}{s:Shared}{E:Value->Shared->Prop}
theorem Inv.wish (I:Inv X pins σ H s)(E:Value->Shared->Prop):Inv (X.wish E) pins σ H s:=⟨I.ok.wish E,I.os,I.bare,I.base,I.loc,I.cell,I.free,I.freeC,I.pin,I.hok,I.len⟩
theorem Inv.zeu (I:Inv (X.wish E) pins σ H s):Inv X pins σ H s:=⟨I.ok.zeu,I.os,I.bare,I.base,I.loc,I.cell,I.free,I.freeC,I.pin,I.hok,I.len⟩
theorem SP.zeu {D:Ends}{f:Flow}{s':Shared}(h:SP (X.wish E) pins D f s'):SP X pins D f s':=by
 cases f with
 | next=>obtain⟨σ',H',I,q⟩:=h;exact⟨σ',H',I.zeu,q⟩
 | brk=>obtain⟨σ',H',I,q⟩:=h;exact⟨σ',H',I.zeu,q⟩
 | cont=>obtain⟨σ',H',I,q⟩:=h;exact⟨σ',H',I.zeu,q⟩
 | ret u=>obtain⟨v,σ',H',I,r,q⟩:=h;exact⟨v,σ',H',I.zeu,r,q⟩
theorem PSs.nox {st:List Stmt}{t:TS}(h:PSs X.nox st t):PSs X st t:=λpins s σ H D I hw=>
 wpAny_mono (h pins s σ H D (I.wish _) hw) (λ_ _ q=>q.zeu) λ_ _ z=>False.elim z
end
section
variable {X:Cx}{st:Stmt}{rest:List Stmt}{t u:TS}{e:Expr}{te:TE}{pos:Pos}
noncomputable def zsB:TS:=λD σ H=>D.nx σ H
noncomputable def tSeq (t u:TS):TS:=λD σ H=>t { D with nx:=u D } σ H
theorem ziq:PSs X [] zsB:=λ_ _ σ H _ I h=>wpAny_execs_nil ⟨σ,H,I,h⟩
theorem zcK (h1:PS X st t)(h2:PSs X rest u):PSs X (st::rest) (tSeq t u):=by
 intro pins s σ H D I h;refine wpAny_execs_cons (thn (h1 pins s σ H { D with nx:=u D } I h) λf s1 q=>?_);cases f with
 | next=>
  obtain⟨σ',H',I',q⟩:=q;exact h2 pins s1 σ' H' D I' q
 | ret v=>exact q
 | brk=>exact q
 | cont=>exact q
theorem zir (h1:PS X st t):PSs X [st] t:=by
 intro pins s σ H D I h;refine wpAny_execs_cons (thn (h1 pins s σ H D I h) λf s1 q=>?_);cases f with
 | next=>exact wpAny_execs_nil q
 | ret v=>exact q
 | brk=>exact q
 | cont=>exact q
noncomputable def zqx:TS:=λD σ H=>D.bk σ H
theorem zmZ:PS X (.Break pos) zqx:=λ_ _ σ H _ I h=>wpAny_Break ⟨σ,H,I,h⟩
theorem Inv.quiet {pins:List (Addr×Obj)}{σ:St}{H:Hp}{s:Shared}(I:Inv X pins σ H s):interactive X.env=false:=by simp[interactive,I.ok.kind]
noncomputable def zsC (te:TE):TS:=λD σ H=>te σ H λ_ H1=>D.nx σ H1
theorem zkS (he:PE X e te)(hs:swapsWith e none pos.line X.env=pure false:=by rfl):PS X (.Expr e pos) (zsC te):=by
 intro pins s σ H D I h;exact wpAny_Expr_any (thn (he pins s σ H _ I h) λv s1 ⟨x,H1,I1,r1,q1⟩=>⟨σ,H1,I1,q1⟩) I.quiet hs
noncomputable def tRet (te:TE):TS:=λD σ H=>te σ H D.rt
theorem zqy (he:PE X e te):PS X (.Return (some e) pos) (tRet te):=by
 intro pins s σ H D I h;exact wpAny_Return_some (thn (he pins s σ H _ I h) λv s1 ⟨x,H1,I1,r1,q1⟩=>⟨x,σ,H1,I1,r1,q1⟩)
noncomputable def tIfS (c:TT)(t u:TS):TS:=λD σ H=>c σ H λb H1=>if b=true then t D σ H1 else u D σ H1
theorem zoN {c:Expr}{a b:List Stmt}{tc:TT}(hc:PT X c tc)(ha:PSs X a t)(hb:PSs X b u):PS X (.If c a b pos) (tIfS tc t u):=by
 intro pins s σ H D I h;refine wpAny_If (thn (hc pins s σ H _ I h) λd s1 ⟨H1,I1,q1⟩=>?_);cases d with
 | true=>exact ha pins s1 σ H1 D I1 q1
 | false=>exact hb pins s1 σ H1 D I1 q1
end
noncomputable abbrev TG:=V->St->Hp->(St->Hp->Prop)->Prop
noncomputable abbrev TGs:=List V->St->Hp->(St->Hp->Prop)->Prop
noncomputable def PG (X:Cx)(target:Expr)(t:TG):Prop:=
 ∀(pins:List (Addr×Obj)) (s:Shared) (σ:St) (H:Hp) (v:V) (u:Value) (Q:St->Hp->Prop),Inv X pins σ H s->RelV v u->t v σ H Q->
  wpAny (model X.prog X.w) X.A (assign target X.env u) (λ_ s'=>∃σ' H',Inv X pins σ' H' s'/\Q σ' H') X.xe s
noncomputable def PGs (X:Cx)(ts:List Expr)(t:TGs):Prop:=
 ∀(pins:List (Addr×Obj)) (s:Shared) (σ:St) (H:Hp) (vs:List V) (us:List Value) (Q:St->Hp->Prop),Inv X pins σ H s->Vals vs us->t vs σ H Q->
  wpAny (model X.prog X.w) X.A (assignInOrder ((assignEach ts X.env).map (·.2)) us) (λ_ s'=>∃σ' H',Inv X pins σ' H' s'/\Q σ' H') X.xe s
section
variable {X:Cx}{pos:Pos}
noncomputable def zkn (i:Nat):TG:=λv σ H Q=>Q (σ.set i (some v)) H
theorem zis {i:Nat}{x:Str}(hN:X.N.Nodup)(hi:X.N[i]? = some x)(hx:Loc X.env.scope x)(hf:X.fn x=true\/X.env.scope.names.lookup x=some .local:=by first | exact .inl rfl | exact .inr rfl | assumption):PG X (.Name x pos) (zkn i):=by
 intro pins s σ H v u Q I r h;exact wpAny_assign_Name (zja I hN hi hx r (λs' I'=>⟨_,H,I',h⟩) hf)
noncomputable def gNil:TGs:=λvs σ H Q=>vs=[]/\Q σ H
noncomputable def zsD (t:TG)(u:TGs):TGs:=λvs σ H Q=>∃v r,vs=v::r/\t v σ H λσ' H'=>u r σ' H' Q
theorem zoO:PGs X [] gNil:=by
 intro pins s σ H vs us Q I r h;obtain⟨e,h⟩:=h;subst e;cases r;exact assignInOrder_nil ⟨σ,H,I,h⟩
theorem zna {e:Expr}{es:List Expr}{t:TG}{u:TGs}(h1:PG X e t)(h2:PGs X es u)
  (hs:(assignEach (e::es) X.env).map (·.2)=assign e X.env::(assignEach es X.env).map (·.2):=by rfl):PGs X (e::es) (zsD t u):=by
 intro pins s σ H vs us Q I r h;obtain⟨v,vr,e1,h⟩:=h;subst e1;cases r with
 | cons r rr=>
  rw[hs];refine assignInOrder_cons (thn (h1 pins s σ H _ _ _ I r h) λ_ s1 ⟨σ1,H1,I1,q1⟩=>?_);exact h2 pins s1 σ1 H1 _ _ Q I1 rr q1
noncomputable def gTup (K:PySem.W.Frag)(n:Nat)(t:TGs):TG:=λv σ H Q=>∃a xs,v=.ref a/\SqT K H a xs/\xs.length=n/\t xs σ H Q
theorem zqz {es:List Expr}{k:Nat}{t:TGs}{n:Nat}(hc:X.calm=true)(h:PGs X es t)
  (hn:(assignEach es X.env).length=n:=by rfl) (hst:(assignEach es X.env).findIdx? (·.1)=none:=by rfl):PG X (.Tuple es k pos) (gTup X.K n t):=by
 intro pins s σ H v u Q I r hw;obtain⟨a,xs,e1,hq,hl,hw⟩:=hw;subst e1;cases r;obtain⟨its,rv,ht,hz⟩:=I.tuple hq;refine assign_Tuple_tuple (I.ok.hd hc) ht (by simp[hn,<- hl,rv.length]) hst λh' hx=>?_;have I1:Inv X pins σ H { s with heap:=h' }:=I.kept (t':=s.toks) λb o e=>hx b o (Nat.ne_of_lt (Heap.lt_size e)) e;exact h pins _ σ H xs _ Q I1 (by simpa using rv) hw
noncomputable def tAsg (te:TE)(g:TG):TS:=λD σ H=>te σ H λx H1=>g x σ H1 D.nx
theorem zjb {i:Nat}{x:Str}{e:Expr}{te:TE}{pos':Pos}(hN:X.N.Nodup)(hi:X.N[i]? = some x)(hx:Loc X.env.scope x)(he:PE X e te)(hs:swapsWith e (some (.Name x pos')) pos.line X.env=pure false:=by rfl)(hf:X.fn x=true\/X.env.scope.names.lookup x=some .local:=by first | exact .inl rfl | exact .inr rfl | assumption) :
  PS X (.Assign [.Name x pos'] e pos) (tAsg te (zkn i)):=by
 intro pins s σ H D I h;refine wpAny_Assign_Name (thn (he pins s σ H _ I h) λv s1 ⟨y,H1,I1,r1,q1⟩=>?_) hs;exact zja I1 hN hi hx r1 (λs2 I2=>⟨_,H1,I2,q1⟩) hf
end
structure It where
 go:Nat->Hp->Prop
 yld:Nat->Hp->V->Hp->Prop
 stop:Nat->Hp->Prop
noncomputable def FpOk (X:Cx)(pins:List (Addr×Obj))(H:Hp)(b:Addr):Prop:=
 H b=none/\b≠X.env.locals/\b∉X.fs/\(b∈X.ex\/X.s₀.heap.objs.size<=b)/\(∀x c,X.env.cells.lookup x=some c->c≠b)/\∀p∈X.pn++pins,p.1≠b
theorem Inv.fpOk {X:Cx}{pins:List (Addr×Obj)}{σ:St}{H H':Hp}{s:Shared}{b:Addr}(I:Inv X pins σ H s)(hb:s.heap.objs.size<=b)(hn:H' b=none):FpOk X pins H' b:=by
 refine⟨hn,Nat.ne_of_gt (Nat.lt_of_lt_of_le I.lt hb),I.nofs hb,.inr (Nat.le_trans I.sz hb),λx c e z=>?_,λp hp z=>?_⟩
 ·obtain⟨v,q⟩:=I.cell x c e;exact absurd (Nat.lt_of_lt_of_le q.lt (by rw[z];exact hb)) (Nat.lt_irrefl _)
 ·exact absurd (Nat.lt_of_lt_of_le (Heap.lt_size (I.pin p hp).1) (by rw[z];exact hb)) (Nat.lt_irrefl _)
structure Turn (P:Program)(w:World)(K:PySem.W.Frag)(tg:Expr)(J:It)(fp:List Addr)(it:Addr)(tn:Nat->Heap->Prop):Prop where
 mem:it∈fp
 obj:∀i h,tn i h->∀b∈fp,∃o,h.get? b=some o/\∀v,o.data≠.cell v
 keep:∀i h h',tn i h->(∀b∈fp,∀o,h.get? b=some o->h'.get? b=some o)->tn i h'
 item:∀(X:Cx),X.prog=P->X.w=w->X.K=K->X.calm=true->∀(i:Nat) (pins:List (Addr×Obj)) (s:Shared) (σ:St) (H:Hp) (E:Value->Shared->Prop),Inv X pins σ H s->(∀b∈fp,FpOk X pins H b)->tn i s.heap->J.go i H->
  wpAny (model P w) X.A (pyNext (.ref it)) (λr s1=>∃u,r=some u/\
   wpAny (model P w) X.A (letOwnedTupleGo tg (.ref it) u) (λ_ s2=>∃x H',Inv X pins σ H' s2/\RelV x u/\J.yld i H x H'/\tn (i+1) s2.heap/\∀b∈fp,H' b=none) E s1) E s
 done:∀(X:Cx),X.prog=P->X.w=w->X.K=K->X.calm=true->∀(i:Nat) (pins:List (Addr×Obj)) (s:Shared) (σ:St) (H:Hp) (E:Value->Shared->Prop),Inv X pins σ H s->(∀b∈fp,FpOk X pins H b)->tn i s.heap->J.stop i H->
  wpAny (model P w) X.A (pyNext (.ref it)) (λr s1=>r=none/\Inv X pins σ H s1) E s
 self:∀(A:Around) (i:Nat) (s:Shared) (Q:Value->Shared->Prop) (E:Value->Shared->Prop),tn i s.heap->Q (.ref it) s->wpAny (model P w) A (pyIter (.ref it)) Q E s
noncomputable abbrev TI:=St->Hp->(It->Hp->Prop)->Prop
noncomputable def PIE (X:Cx)(pins:List (Addr×Obj))(σ:St)(tg:Expr)(R:It->Hp->Prop)(itv:Value)(s2:Shared):Prop:=
 ∃(it:Addr) (fp:List Addr) (tn:Nat->Heap->Prop) (J:It) (H':Hp),itv=.ref it/\Inv X pins σ H' s2/\Turn X.prog X.w X.K tg J fp it tn/\tn 0 s2.heap/\(∀b∈fp,FpOk X pins H' b)/\R J H'
noncomputable def PI (X:Cx)(tg iter:Expr)(wi:TI):Prop:=
 ∀(pins:List (Addr×Obj)) (s:Shared) (σ:St) (H:Hp) (R:It->Hp->Prop),Inv X pins σ H s->wi σ H R->
  wpAny (model X.prog X.w) X.A (eval iter X.env) (λv s1=>wpAny (model X.prog X.w) X.A (pyIter v) (PIE X pins σ tg R) X.xe s1) X.xe s
theorem znb {M:Model}{A:Around}{E:Value->Shared->Prop}{s:Shared}{tg:Expr}{it:Addr}{u:Value}{o:Obj}{n:String}{vs:Array Value}{Q:Unit->Shared->Prop}(ho:s.heap.get? it=some o)(hc:o.cls=.type n)(hd:o.data=.fields vs)
    (hn:["enumerate","zip","dict_itemiterator","dict_reverseitemiterator","odict_iterator","itertools.zip_longest","itertools.pairwise"].contains n=false) (hQ:Q () s):wpAny M A (letOwnedTupleGo tg (.ref it) u) Q E s:=by
  unfold letOwnedTupleGo;cases tg<;>first
    | exact wpAny_pure hQ
    | (cases u<;>first
        | exact wpAny_pure hQ
        | (refine wpAny_bind (wpAny_load ho ?_)
           rw[hc,hd];show wpAny M A (if (["enumerate","zip","dict_itemiterator","dict_reverseitemiterator","odict_iterator","itertools.zip_longest","itertools.pairwise"].contains n&&vs[0]? == some (rawInt _))=true then _ else _) Q E s
           rw[if_neg (by intro h;rw[hn,Bool.false_and]at h;cases h)];exact wpAny_pure hQ))
noncomputable def Itl (K:PySem.W.Frag)(a:Addr):It:=
 ⟨λi H=>∃xs x,SqL K H a xs/\xs[i]? = some x,λi H x H'=>H'=H/\∀xs,SqL K H a xs->xs[i]? = some x,λi H=>∃xs,SqL K H a xs/\xs.length<=i⟩
noncomputable def Itt (K:PySem.W.Frag)(a:Addr):It:=
 ⟨λi H=>∃xs x,SqT K H a xs/\xs[i]? = some x,λi H x H'=>H'=H/\∀xs,SqT K H a xs->xs[i]? = some x,λi H=>∃xs,SqT K H a xs/\xs.length<=i⟩
noncomputable def Itr (lo:Int)(n:Nat):It:=⟨λi _=>i<n,λi H x H'=>H'=H/\x=.int (lo+i),λi _=>n<=i⟩
theorem zkT {P:Program}{w:World}{K:PySem.W.Frag}{tg:Expr}(a it:Addr):Turn P w K tg (Itl K a) [it] it (λi h=>h.IsListIter it a i) where
 mem:=by simp
 obj:=λi h st b hb=>by
  have e:b=it:=by simpa using hb
  subst e;obtain⟨o,e,c,d⟩:=st;exact⟨o,e,λv z=>by rw[d]at z;cases z⟩
 keep:=λi h h' st k=>st.at λo e=>k it (by simp) o e
 item:=by
  intro X hP hw hK hc i pins s σ H E I hf st hg;subst hP hw hK;obtain⟨xs,x,hq,hx⟩:=hg;obtain⟨its,rv,p,hz⟩:=I.list hq;obtain⟨u,hu,ru⟩:=rv.get hx;obtain⟨f0,f1,f2,f3,f4,f5⟩:=hf it (by simp);refine wpAny_pyNext_list_item st p.isList (x:=u) (by simpa using hu) λh' st' sb=>?_;have I1:Inv X pins σ H { s with heap:=h' }:=I.turned (t':=s.toks) (λb o hb e=>(sb.2 b hb).trans e) f0 f1 f3 f4 f5;obtain⟨o,e,c,d⟩:=id st';exact⟨u,rfl,znb (s:={ s with heap:=h' }) e c d (by decide) ⟨x,H,I1,ru,⟨rfl,λys hy=>by rw[I.zdg hy hq];exact hx⟩,st',λb hb=>(hf b hb).1⟩⟩
 done:=by
  intro X hP hw hK hc i pins s σ H E I hf st hg;subst hP hw hK;obtain⟨xs,hq,hx⟩:=hg;obtain⟨its,rv,p,hz⟩:=I.list hq;obtain⟨f0,f1,f2,f3,f4,f5⟩:=hf it (by simp);have hl:=rv.length;exact wpAny_pyNext_list_end (I.ok.hd hc) st p.isList (by simp;lia) λh' eb=>⟨rfl,I.turned (t':=s.toks) (λb o hb e=>eb b o hb e) f0 f1 f3 f4 f5⟩
 self:=λ_ _ _ _ _ st h=>wpAny_pyIter_listiter st h
theorem zko {P:Program}{w:World}{K:PySem.W.Frag}{tg:Expr}(a it:Addr):Turn P w K tg (Itt K a) [it] it (λi h=>h.IsTupleIter it a i) where
 mem:=by simp
 obj:=λi h st b hb=>by
  have e:b=it:=by simpa using hb
  subst e;obtain⟨o,e,c,d⟩:=st;exact⟨o,e,λv z=>by rw[d]at z;cases z⟩
 keep:=λi h h' st k=>st.at λo e=>k it (by simp) o e
 item:=by
  intro X hP hw hK hc i pins s σ H E I hf st hg;subst hP hw hK;obtain⟨xs,x,hq,hx⟩:=hg;obtain⟨its,rv,p,hz⟩:=I.tuple hq;obtain⟨u,hu,ru⟩:=rv.get hx;obtain⟨f0,f1,f2,f3,f4,f5⟩:=hf it (by simp);refine wpAny_pyNext_tuple_item st (show s.heap.IsTuple a its.toArray from p) (x:=u) (by simpa using hu) λh' st' sb=>?_;have I1:Inv X pins σ H { s with heap:=h' }:=I.turned (t':=s.toks) (λb o hb e=>(sb.2 b hb).trans e) f0 f1 f3 f4 f5;obtain⟨o,e,c,d⟩:=id st';exact⟨u,rfl,znb (s:={ s with heap:=h' }) e c d (by decide) ⟨x,H,I1,ru,⟨rfl,λys hy=>by rw[I.zgM hy hq];exact hx⟩,st',λb hb=>(hf b hb).1⟩⟩
 done:=by
  intro X hP hw hK hc i pins s σ H E I hf st hg;subst hP hw hK;obtain⟨xs,hq,hx⟩:=hg;obtain⟨its,rv,p,hz⟩:=I.tuple hq;obtain⟨f0,f1,f2,f3,f4,f5⟩:=hf it (by simp);have hl:=rv.length;exact wpAny_pyNext_tuple_end (I.ok.hd hc) st (show s.heap.IsTuple a its.toArray from p) (by simp;lia) λh' eb=>⟨rfl,I.turned (t':=s.toks) (λb o hb e=>eb b o hb e) f0 f1 f3 f4 f5⟩
 self:=λ_ _ _ _ _ st h=>wpAny_pyIter_tupleiter st h
theorem zkp {P:Program}{w:World}{K:PySem.W.Frag}{tg:Expr}(it:Addr)(lo:Int)(n:Nat):Turn P w K tg (Itr lo n) [it] it (λi h=>IsRangeIter h it (lo+(i:Nat)*1) ((n:Int)-(i:Nat)) 1) where
 mem:=by simp
 obj:=λi h st b hb=>by
  have e:b=it:=by simpa using hb
  subst e;exact⟨_,st,λv z=>by
   have z':Data.fields _=Data.cell v:=z;cases z'⟩
 keep:=λi h h' st k=>k it (by simp) _ st
 item:=by
  intro X hP hw hK hc i pins s σ H E I hf st hg;subst hP hw hK;obtain⟨f0,f1,f2,f3,f4,f5⟩:=hf it (by simp);have W:=Walks.range (prog:=X.prog) (w:=X.w) (I.ok.hd hc) it lo 1 n;refine W.item i s _ _ hg st λv h' tk hv st' kk=>?_;obtain⟨t,rfl⟩:=hv;have I1:Inv X pins σ H { s with heap:=h',toks:=tk }:=I.turned (λb o hb e=>kk b o (by simpa using hb) e) f0 f1 f3 f4 f5;refine⟨_,rfl,znb (s:={ s with heap:=h',toks:=tk }) (n:="range_iterator") st' rfl rfl (by decide) ⟨.int (lo+i),H,I1,⟨t,?_⟩,⟨rfl,rfl⟩,st',λb hb=>(hf b hb).1⟩⟩;rw[Int.mul_one]
 done:=by
  intro X hP hw hK hc i pins s σ H E I hf st hg;subst hP hw hK;obtain⟨f0,f1,f2,f3,f4,f5⟩:=hf it (by simp);exact wpAny_pyNext_range_end (I.ok.hd hc) st (by have:n<=i:=hg;lia) λh' eb=>⟨rfl,I.turned (t':=s.toks) (λb o hb e=>eb b o hb e) f0 f1 f3 f4 f5⟩
 self:=λ_ _ _ _ _ st h=>wpAny_pyIter_rangeiter st h
section
variable {X:Cx}{tg:Expr}
noncomputable def zsE (K:PySem.W.Frag)(tl:TE):TI:=λσ H R=>tl σ H λx H1=>∃a,x=.ref a/\(∃xs,SqL K H1 a xs)/\R (Itl K a) H1
noncomputable def iTup (K:PySem.W.Frag)(tl:TE):TI:=λσ H R=>tl σ H λx H1=>∃a,x=.ref a/\(∃xs,SqT K H1 a xs)/\R (Itt K a) H1
theorem zoP {l:Expr}{tl:TE}(hl:PE X l tl):PI X tg l (zsE X.K tl):=by
 intro pins s σ H R I h;refine thn (hl pins s σ H _ I h) λv s1 ⟨x,H1,I1,r1,q1⟩=>?_;obtain⟨a,e,⟨xs,hq⟩,q⟩:=q1;subst e;cases r1;obtain⟨its,rv,p,hz⟩:=I1.list hq;refine wpAny_pyIter_list p.isList ?_;refine⟨s1.heap.objs.size,[s1.heap.objs.size],_,_,H1,rfl,I1.kept (t':=s1.toks) λb o e=>Heap.get?_push_of_some _ e,zkT a _,⟨_,Heap.get?_push_size _ rfl,rfl,rfl⟩,λb hb=>?_,q⟩;have e:b=s1.heap.objs.size:=by simpa using hb
 subst e;exact I1.fpOk (Nat.le_refl _) (I1.hok.fresh (Nat.le_refl _))
theorem zqA {l:Expr}{tl:TE}(hl:PE X l tl):PI X tg l (iTup X.K tl):=by
 intro pins s σ H R I h;refine thn (hl pins s σ H _ I h) λv s1 ⟨x,H1,I1,r1,q1⟩=>?_;obtain⟨a,e,⟨xs,hq⟩,q⟩:=q1;subst e;cases r1;obtain⟨its,rv,p,hz⟩:=I1.tuple hq;refine wpAny_pyIter_tuple (show s1.heap.IsTuple a its.toArray from p) ?_;refine⟨s1.heap.objs.size,[s1.heap.objs.size],_,_,H1,rfl,I1.kept (t':=s1.toks) λb o e=>Heap.get?_push_of_some _ e,zko a _,⟨_,Heap.get?_push_size _ rfl,rfl,rfl⟩,λb hb=>?_,q⟩;have e:b=s1.heap.objs.size:=by simpa using hb
 subst e;exact I1.fpOk (Nat.le_refl _) (I1.hok.fresh (Nat.le_refl _))
theorem znc {pins:List (Addr×Obj)}{σ:St}{H:Hp}{s:Shared}{R:It->Hp->Prop}{E:Value->Shared->Prop}{lo hi:Int}{t u v:Tok}{tk:Nat}(I:Inv X pins σ H s)(h1:-(2 ^ 62)<=lo)(h2:lo<2 ^ 62)(h3:-(2 ^ 62)<=hi)(h4:hi<2 ^ 62)
  (q:R (Itr lo (hi-lo).toNat) H):wpAny (model X.prog X.w) X.A (pyIter (.ref s.heap.objs.size)) (PIE X pins σ tg R) E { s with heap:=s.heap.push { cls:=.type "range",data:=.fields #[.int lo t,.int hi u,.int 1 v] },toks:=tk }:=by
 refine wpAny_pyIter_range (IsRange.new ..) (small_one h1 h2 h3 h4) ?_;have I1:Inv X pins σ H { s with heap:=s.heap.push { cls:=.type "range",data:=.fields #[.int lo t,.int hi u,.int 1 v] },toks:=tk }:=I.kept λb o e=>Heap.get?_push_of_some _ e;refine⟨(s.heap.push { cls:=.type "range",data:=.fields #[.int lo t,.int hi u,.int 1 v] }).objs.size,[(s.heap.push { cls:=.type "range",data:=.fields #[.int lo t,.int hi u,.int 1 v] }).objs.size],_,_,H,rfl,
  I1.kept (t':=tk) λb o e=>Heap.get?_push_of_some _ e,zkp _ lo (hi-lo).toNat,?_,λb hb=>?_,q⟩
 ·have e1:lo+((0:Nat):Int)*1=lo:=by simp
  have e2:(((hi-lo).toNat:Nat):Int)-((0:Nat):Int)=Builtin.Range.rangeSize lo hi 1:=by rw[rangeSize_one];split<;>lia
  show IsRangeIter _ _ (lo+((0:Nat):Int)*1) ((((hi-lo).toNat:Nat):Int)-((0:Nat):Int)) 1;rw[e1,e2];exact Heap.get?_push_size _ rfl
 ·have e:b=(s.heap.push { cls:=.type "range",data:=.fields #[.int lo t,.int hi u,.int 1 v] }).objs.size:=by simpa using hb
  subst e;exact I1.fpOk (Nat.le_refl _) (I1.hok.fresh (Nat.le_refl _))
noncomputable def zsF (ta:TA):TI:=λσ H R=>ta σ H λvs H1=>∃j:Int,vs=[.int j]/\-(2 ^ 62)<=j/\j<2 ^ 62/\R (Itr 0 j.toNat) H1
theorem zkU {a:Expr}{ta:TA}{p pos:Pos}(hg:Gl X "range") (hm:X.mg "range" = none) (ha:PA X [a] ta) (hs:starEach [a] X.env=[(false,eval a X.env)]:=by rfl):PI X tg (.Call (.Name "range" p) [a] [] pos) (zsF ta):=by
 intro pins s σ H R I h;refine Call_ (zet I hg hm boot_range (PyProof.Rows.callWith_type1 (thn (ha pos pins s σ H _ I h) λus s1 ⟨vs,H1,I1,r1,q1⟩=>?_) hs rfl));obtain⟨j,e,q1,q2,q⟩:=q1;subst e;cases r1 with
 | cons r rr=>
  cases rr;obtain⟨t,rfl⟩:=r;exact call_range_1 (znc I1 (by lia) (by lia) q1 q2 (by simpa using q))
noncomputable def tFor (wi:TI)(g:TG)(tb:TS):TS:=λD σ H=>wi σ H λJ H1=>∃W:Nat->Nat->St->Hp->Prop,(∃m,W 0 m σ H1)/\∀i m σ H,W i m σ H->
 (J.stop i H/\D.nx σ H)\/(J.go i H/\∃N:St->Hp->Prop,(∀σ' H',N σ' H'->∃m',m'<m/\W (i+1) m' σ' H')/\∀x H',J.yld i H x H'->g x σ H' λσ2 H2=>tb { D with nx:=N,ct:=N,bk:=D.nx } σ2 H2)
noncomputable def zgN (fp:List Addr)(h:Heap):List (Addr×Obj):=fp.filterMap λb=>(h.get? b).map λo=>(b,o)
theorem zcL {fp:List Addr}{h:Heap}{b:Addr}{o:Obj}(hb:b∈fp)(e:h.get? b=some o):(b,o)∈zgN fp h:=List.mem_filterMap.mpr ⟨b,hb,by rw[e];rfl⟩
theorem zkV {fp:List Addr}{h:Heap}{p:Addr×Obj}(hp:p∈zgN fp h):p.1∈fp/\h.get? p.1=some p.2:=by
 obtain⟨b,hb,e⟩:=List.mem_filterMap.mp hp;cases q:h.get? b with
 | none=>rw[q]at e;cases e
 | some o=>
  rw[q]at e;have e':(b,o)=p:=Option.some.inj e;subst e';exact⟨hb,q⟩
theorem Inv.pinned {pins:List (Addr×Obj)}{σ:St}{H:Hp}{s:Shared}{fp:List Addr}(I:Inv X pins σ H s)(hf:∀b∈fp,FpOk X pins H b)(ho:∀b∈fp,∃o,s.heap.get? b=some o/\∀v,o.data≠.cell v):Inv X (pins++zgN fp s.heap) σ H s:=
 I.zkR λp hp=>(List.mem_append.mp hp).elim (λz=>I.pin p (List.mem_append_right _ z)) λz=>by
  obtain⟨hb,e⟩:=zkV z;obtain⟨f0,f1,f2,_⟩:=hf p.1 hb;obtain⟨o,e',d⟩:=ho p.1 hb;rw[e]at e';cases e';exact⟨e,f0,f1,f2,d⟩
theorem Inv.zdh {pins pl:List (Addr×Obj)}{σ:St}{H:Hp}{s:Shared}(I:Inv X (pins++pl) σ H s):Inv X pins σ H s:=I.zkR λp hp=>I.pin p (List.mem_append_right _ (List.mem_append_left _ hp))
theorem zjc {iter:Expr}{body:List Stmt}{wi:TI}{g:TG}{tb:TS}{pos:Pos}(hp:PassesOwn (model X.prog X.w) X.A X.env X.xe)(hc:X.calm=true)(hi:PI X tg iter wi)(hg:PG X tg g)(hb:PSs X body tb)
  (hs:∀x,foldedSetIterable iter X.env x=pure x:=by intro _;rfl):PS X (.For tg iter body [] pos) (tFor wi g tb):=by
 intro pins s σ H D I h;refine wpAny_For (thn (hi pins s σ H _ I h) λv s1 h1=>thn h1 λitv s2 h2=>?_) hs;obtain⟨it,fp,tn,J,H2,e,I2,T,st2,f2,W,⟨m0,w0⟩,turn⟩:=h2;subst e;have stat:∀ {H':Hp},(∀b∈fp,H' b=none)->∀b∈fp,FpOk X pins H' b:=λhn b hb=>⟨hn b hb,(f2 b hb).2⟩;refine codeAny_forLoop_any (λn s'=>∃i σ' H',Inv X pins σ' H' s'/\tn i s'.heap/\(∀b∈fp,H' b=none)/\W i n σ' H') ?_ m0 ⟨0,σ,H2,I2,st2,λb hb=>(f2 b hb).1,w0⟩;rintro n s3 ⟨i,σ3,H3,I3,st3,fr3,w3⟩;rcases turn i n σ3 H3 w3 with ⟨stop,qn⟩ | ⟨go,N,hN,step⟩
 ·refine wpAny_passesOwn hp (thn (T.done X rfl rfl rfl hc i pins s3 σ3 H3 X.xe I3 (stat fr3) st3 stop) λr s4 ⟨hr,I4⟩=>?_);subst hr;exact wpAny_execs_nil ⟨σ3,H3,I4,qn⟩
 ·refine wpAny_passesOwn hp (thn (T.item X rfl rfl rfl hc i pins s3 σ3 H3 X.xe I3 (stat fr3) st3 go) λr s4 ⟨u,hr,h4⟩=>?_);subst hr;refine wpAny_passesOwn hp (thn h4 λ_ s5 ⟨x,H5,I5,r5,y5,st5,fr5⟩=>?_);have I5':=I5.pinned (stat fr5) (T.obj _ _ st5);refine wpAny_passesOwn hp (thn (hg _ s5 σ3 H5 x u _ I5' r5 (step x H5 y5)) λ_ s6 ⟨σ6,H6,I6,q6⟩=>?_);refine wpAny_passesOwn hp (thn (hb _ s6 σ6 H6 _ I6 q6) λf s7 q7=>?_);have again:∀ {σ7:St} {H7:Hp},Inv X (pins++zgN fp s5.heap) σ7 H7 s7->N σ7 H7->∃m,m<n/\∃i σ' H',Inv X pins σ' H' s7/\tn i s7.heap/\(∀b∈fp,H' b=none)/\W i m σ' H':=λ{σ7 H7} I7 n7=>by
   obtain⟨m',hm,w7⟩:=hN σ7 H7 n7;refine⟨m',hm,i+1,σ7,H7,I7.zdh,T.keep _ _ _ st5 λb hb o e=>(I7.pin (b,o) (List.mem_append_right _ (List.mem_append_right _ (zcL hb e)))).1,λb hb=>?_,w7⟩;obtain⟨o,e,d⟩:=T.obj _ _ st5 b hb;exact(I7.pin (b,o) (List.mem_append_right _ (List.mem_append_right _ (zcL hb e)))).2.1
  cases f with
  | next=>obtain⟨σ7,H7,I7,n7⟩:=q7;exact again I7 n7
  | cont=>obtain⟨σ7,H7,I7,n7⟩:=q7;exact again I7 n7
  | brk=>obtain⟨σ7,H7,I7,q7⟩:=q7;exact⟨σ7,H7,I7.zdh,q7⟩
  | ret v=>obtain⟨x7,σ7,H7,I7,r7,q7⟩:=q7;exact⟨x7,σ7,H7,I7.zdh,r7,q7⟩
end
noncomputable abbrev R2:=V->V->Hp->VK->Prop
noncomputable def OpR (X:Cx)(f:Value->Value->Sem Value)(r:R2):Prop:=
 ∀(pins:List (Addr×Obj)) (s:Shared) (σ:St) (H:Hp) (x y:V) (v u:Value) (Q:VK),Inv X pins σ H s->RelV x v->RelV y u->r x y H Q->
  wpAny (model X.prog X.w) X.A (f v u) (EP X pins σ Q) X.xe s
noncomputable def UnR (X:Cx)(f:Value->Sem Value)(r:V->Hp->VK->Prop):Prop:=
 ∀(pins:List (Addr×Obj)) (s:Shared) (σ:St) (H:Hp) (x:V) (v:Value) (Q:VK),Inv X pins σ H s->RelV x v->r x H Q->
  wpAny (model X.prog X.w) X.A (f v) (EP X pins σ Q) X.xe s
noncomputable def zcd (X:Cx)(f:Value)(r:List V->Hp->VK->Prop):Prop:=
 ∀(pins:List (Addr×Obj)) (s:Shared) (σ:St) (H:Hp) (xs:List V) (us:List Value) (Q:VK),Inv X pins σ H s->Vals xs us->r xs H Q->
  wpAny (model X.prog X.w) X.A (call f us) (EP X pins σ Q) X.xe s
noncomputable def TruR (X:Cx)(r:V->Hp->(Bool->Hp->Prop)->Prop):Prop:=
 ∀(pins:List (Addr×Obj)) (s:Shared) (σ:St) (H:Hp) (x:V) (v:Value) (Q:Bool->Hp->Prop),Inv X pins σ H s->RelV x v->r x H Q->
  wpAny (model X.prog X.w) X.A (truthy v) (TP X pins σ Q) X.xe s
noncomputable def tOp (r:R2)(ta tb:TE):TE:=λσ H Q=>ta σ H λx H1=>tb σ H1 λy H2=>r x y H2 Q
noncomputable def tUn (r:V->Hp->VK->Prop)(ta:TE):TE:=λσ H Q=>ta σ H λx H1=>r x H1 Q
noncomputable def rI (C:Int->Int->Prop)(g:Int->Int->V):R2:=λx y H Q=>∃i j,x=.int i/\y=.int j/\C i j/\Q (g i j) H
noncomputable def rI0 (g:Int->Int->V):R2:=λx y H Q=>∃i j,x=.int i/\y=.int j/\Q (g i j) H
noncomputable def rU (g:Int->V):V->Hp->VK->Prop:=λx H Q=>∃i,x=.int i/\Q (g i) H
section
variable {X:Cx}{a b c:Expr}{ta tb tc:TE}{pos:Pos}
theorem binT (ha:PE X a ta)(hb:PE X b tb){pins:List (Addr×Obj)}{s:Shared}{σ:St}{H:Hp}{R:V->V->Hp->Prop}(I:Inv X pins σ H s)
  (h:ta σ H λx H1=>tb σ H1 λy H2=>R x y H2) {Q:Value->Shared->Prop} {f:Value->Value->Sem Value}
  (hf:∀v u s2 x y H2,Inv X pins σ H2 s2->RelV x v->RelV y u->R x y H2->wpAny (model X.prog X.w) X.A (f v u) Q X.xe s2) :
  wpAny (model X.prog X.w) X.A (eval a X.env) (λv s₁=>wpAny (model X.prog X.w) X.A (eval b X.env) (λu s₂=>wpAny (model X.prog X.w) X.A (f v u) Q X.xe s₂) X.xe s₁) X.xe s:=by
 refine thn (ha pins s σ H _ I h) λv s1 ⟨x,H1,I1,r1,q1⟩=>?_;refine thn (hb pins s1 σ H1 _ I1 q1) λu s2 ⟨y,H2,I2,r2,q2⟩=>?_;exact hf v u s2 x y H2 I2 r1 r2 q2
theorem zsG {op:Operator}{r:R2}(ho:OpR X (binaryOp op) r)(ha:PE X a ta)(hb:PE X b tb):PE X (.BinOp a op b pos) (tOp r ta tb):=by
 intro pins s σ H Q I h;exact wpAny_BinOp (binT ha hb I h λv u s2 x y H2 I2 rx ry q=>ho pins s2 σ H2 x y v u Q I2 rx ry q)
theorem zsH {op:UnaryOp}{r:V->Hp->VK->Prop}(ho:UnR X (unaryOp op) r)(ha:PE X a ta):PE X (.UnaryOp op a pos) (tUn r ta):=by
 intro pins s σ H Q I h;exact UnaryOp_ (thn (ha pins s σ H _ I h) λv s1 ⟨x,H1,I1,r1,q1⟩=>ho pins s1 σ H1 x v Q I1 r1 q1)
theorem opI {f:Value->Value->Sem Value}{C:Int->Int->Prop}{g:Int->Int->Int}
  (rule:∀(i j:Int) (t u:Tok) (s:Shared) (Q:Value->Shared->Prop) (E:Value->Shared->Prop),C i j->Q (.int (g i j) s.toks) { s with toks:=s.toks+1 }->wpAny (model X.prog X.w) X.A (f (.int i t) (.int j u)) Q E s) :
  OpR X f (rI C λi j=>.int (g i j)):=by
 intro pins s σ H x y v u Q I rx ry h;obtain⟨i,j,rfl,rfl,hc,q⟩:=h;obtain⟨t,rfl⟩:=rx;obtain⟨t',rfl⟩:=ry;exact rule i j t t' s _ _ hc ⟨.int (g i j),H,I.tok _,⟨_,rfl⟩,q⟩
theorem opI0 {f:Value->Value->Sem Value}{g:Int->Int->Int}
  (rule:∀(i j:Int) (t u:Tok) (s:Shared) (Q:Value->Shared->Prop) (E:Value->Shared->Prop),Q (.int (g i j) s.toks) { s with toks:=s.toks+1 }->wpAny (model X.prog X.w) X.A (f (.int i t) (.int j u)) Q E s) :
  OpR X f (rI0 λi j=>.int (g i j)):=by
 intro pins s σ H x y v u Q I rx ry h;obtain⟨i,j,rfl,rfl,q⟩:=h;obtain⟨t,rfl⟩:=rx;obtain⟨t',rfl⟩:=ry;exact rule i j t t' s _ _ ⟨.int (g i j),H,I.tok _,⟨_,rfl⟩,q⟩
theorem opB0 {f:Value->Value->Sem Value}{g:Int->Int->Bool}
  (rule:∀(i j:Int) (t u:Tok) (s:Shared) (Q:Value->Shared->Prop) (E:Value->Shared->Prop),Q (.bool (g i j)) s->wpAny (model X.prog X.w) X.A (f (.int i t) (.int j u)) Q E s) :
  OpR X f (rI0 λi j=>.bl (g i j)):=by
 intro pins s σ H x y v u Q I rx ry h;obtain⟨i,j,rfl,rfl,q⟩:=h;obtain⟨t,rfl⟩:=rx;obtain⟨t',rfl⟩:=ry;exact rule i j t t' s _ _ ⟨.bl (g i j),H,I,rfl,q⟩
noncomputable def CPow (i j:Int):Prop:=0<=j/\j<=1000000/\i.natAbs<2 ^ 64
noncomputable def CMul (i j:Int):Prop:=(-(2 ^ 64)<i/\i<2 ^ 64)\/(-(2 ^ 64)<j/\j<2 ^ 64)
theorem CMul.ok {i j:Int}(h:CMul i j):IntMulOk i j:=by
 rcases h with ⟨h1,h2⟩ | ⟨h1,h2⟩
 ·exact .of_left (intBits_le_64 h1 h2)
 ·exact .of_right (intBits_le_64 h1 h2)
theorem zkq (k:Nat):(0:Int)<=2 ^ k:=by
 rw[two_pow_cast];exact Int.natCast_nonneg _
theorem zqB:OpR X (binaryOp .Add) (rI0 λi j=>.int (i+j)):=opI0 λ_ _ _ _ _ _ _ q=>add_int q
theorem zqC:OpR X (binaryOp .Sub) (rI0 λi j=>.int (i-j)):=opI0 λ_ _ _ _ _ _ _ q=>sub_int q
theorem zqD:OpR X (binaryOp .Mult) (rI CMul λi j=>.int (i*j)):=opI λ_ _ _ _ _ _ _ hc q=>mul_int q hc.ok
theorem zqE:OpR X (binaryOp .Mod) (rI (λ_ j=>0<j) λi j=>.int (i % j)):=opI λi j _ _ _ _ _ hc q=>by
 have h1:(0:Int)<j:=hc;exact mod_int' (by lia) (by rw[Int.fmod_eq_emod_of_nonneg i (by lia)];exact q)
theorem zqF:OpR X (binaryOp .Pow) (rI CPow λi j=>.int (i ^ j.toNat)):=opI λ_ _ _ _ _ _ _ hc q=>pow_int_small hc.1 hc.2.1 hc.2.2 q
theorem zqG:OpR X (binaryOp .RShift) (rI (λ_ j=>0<=j) λi j=>.int (i / 2 ^ j.toNat)):=opI λi j _ _ _ _ _ hc q=>
 rshift_int hc (by rw[Int.fdiv_eq_ediv_of_nonneg i (zkq _)];exact q)
theorem unI {f:Value->Sem Value}{g:Int->Int}
  (rule:∀(i:Int) (t:Tok) (s:Shared) (Q:Value->Shared->Prop) (E:Value->Shared->Prop),Q (.int (g i) s.toks) { s with toks:=s.toks+1 }->wpAny (model X.prog X.w) X.A (f (.int i t)) Q E s) :
  UnR X f (rU λi=>.int (g i)):=by
 intro pins s σ H x v Q I rx h;obtain⟨i,rfl,q⟩:=h;obtain⟨t,rfl⟩:=rx;exact rule i t s _ _ ⟨.int (g i),H,I.tok _,⟨_,rfl⟩,q⟩
theorem zqH:UnR X (unaryOp .USub) (rU λi=>.int (-i)):=unI λ_ _ _ _ _ q=>neg_int q
end
section
variable {X:Cx}{a b c:Expr}{ta tb tc:TE}{pos:Pos}
theorem zsI:OpR X (compareOp .Gt) (rI0 λi j=>.bl (decide (j<i))):=opB0 λ_ _ _ _ _ _ _ q=>gt_int q
theorem zew (b:Expr){op:CmpOp}(h:op≠.In:=by decide)(h2:op≠.NotIn:=by decide):behindInMarks op b=false:=by
 have e1:(op == CmpOp.In)=false:=by cases op<;>first | rfl | exact absurd rfl h
 have e2:(op == CmpOp.NotIn)=false:=by cases op<;>first | rfl | exact absurd rfl h2
 cases b<;>simp[behindInMarks,e1,e2]
theorem zoQ {op:CmpOp}{r:R2}(ho:OpR X (compareOp op) r)(ha:PE X a ta)(hb:PE X b tb)(hm:behindInMarks op b=false):PE X (.Compare a [op] [b] pos) (tOp r ta tb):=by
 intro pins s σ H Q I h;exact wpAny_Compare1 (binT ha hb I h λv u s2 x y H2 I2 rx ry q=>ho pins s2 σ H2 x y v u Q I2 rx ry q) hm
noncomputable def zsJ (t:TE):TT:=λσ H Q=>t σ H λx H'=>∃k,x=.bl k/\Q k H'
theorem zoR {op:CmpOp}{r:R2}(ho:OpR X (compareOp op) r)(ha:PE X a ta)(hb:PE X b tb)(hm:behindInMarks op b=false):PT X (.Compare a [op] [b] pos) (zsJ (tOp r ta tb)):=by
 intro pins s σ H Q I h;refine wpAny_isTrue_Compare1 (thn (ha pins s σ H _ I h) λv s1 ⟨x,H1,I1,r1,q1⟩=>thn (hb pins s1 σ H1 _ I1 q1) λu s2 ⟨y,H2,I2,r2,q2⟩=>
  thn (ho pins s2 σ H2 x y v u _ I2 r1 r2 q2) λc s3 ⟨z,H3,I3,r3,k,e,q3⟩=>?_) hm
 subst e;cases r3;exact wpAny_truthy_bool ⟨H3,I3,q3⟩
noncomputable def TruV (K:PySem.W.Frag)(x:V)(H:Hp)(k:Bool):Prop:=
 match x with
 | .non=>k=false
 | .bl b=>k=b
 | .int i=>k=(i != 0)
 | .str y=>y.length<=sizeLine/\k=((y.length:Int) != 0)
 | .byt y=>y.size<=sizeLine/\k=((y.size:Int) != 0)
 | .ref p=>(∃xs,SqL K H p xs/\k = !xs.isEmpty)\/(∃xs,SqT K H p xs/\k = !xs.isEmpty)\/∃kvs,H p=some (.dK kvs)/\k = !kvs.isEmpty
 | _=>False
theorem zkr {κ:Type}{kvs:List (κ×V)}{vs:List (κ×Value)}(r:KV kvs vs):(!vs.isEmpty) = !kvs.isEmpty:=by
 cases r<;>rfl
theorem zdS {xs:List V}{its:List Value}(r:Vals xs its):(!its.toArray.isEmpty) = !xs.isEmpty:=by
 cases r<;>simp
theorem zgO:(sizeLine:Nat)<2 ^ 63:=by rw[sizeLine_eq];decide
theorem zqI:TruR X (λx H Q=>∃k,TruV X.K x H k/\Q k H):=by
 intro pins s σ H x v Q I rx h;obtain⟨k,e,q⟩:=h;have hl:=zgO;have hs:sizeLine=16777216:=sizeLine_eq;cases x with
 | non=>
  cases rx;have e':k=false:=e;subst e';exact truthy_none ⟨H,I,q⟩
 | bl b=>
  cases rx;have e':k=b:=e;subst e';exact wpAny_truthy_bool ⟨H,I,q⟩
 | int i=>
  obtain⟨t,rfl⟩:=rx;have e':k=(i != 0):=e;subst e';exact PySem.P.truthy_int ⟨H,I,q⟩
 | str y=>
  obtain⟨t,rfl⟩:=rx;obtain⟨hy,e'⟩:y.length<=sizeLine/\k=((y.length:Int) != 0):=e;subst e';exact PySem.P.truthy_str (by lia) ⟨H,I.tok _,q⟩
 | byt y=>
  obtain⟨t,rfl⟩:=rx;obtain⟨hy,e'⟩:y.size<=sizeLine/\k=((y.size:Int) != 0):=e;subst e';exact PySem.W.truthy_bytes (by lia) ⟨H,I.tok _,q⟩
 | ref p=>
  cases rx;have e':(∃xs,SqL X.K H p xs/\k = !xs.isEmpty)\/(∃xs,SqT X.K H p xs/\k = !xs.isEmpty)\/∃kvs,H p=some (.dK kvs)/\k = !kvs.isEmpty:=e;rcases e' with ⟨xs,hx,e'⟩ | ⟨xs,hx,e'⟩ | ⟨kvs,hx,e'⟩
  ·subst e';obtain⟨its,r,pl,hz⟩:=I.list hx;have hlen:=r.length;exact wpAny_truthy_list pl.isList (by simp only[List.size_toArray];lia) ⟨H,I.tok _,by rw[zdS r];exact q⟩
  ·subst e';obtain⟨its,r,pl,hz⟩:=I.tuple hx;have hlen:=r.length;exact truthy_tuple pl (by simp only[List.size_toArray];lia) ⟨H,I.tok _,by rw[zdS r];exact q⟩
  ·subst e';obtain⟨hz,hS,vs,r,m⟩:kvs.length<=sizeLine/\(p == sysModules)=false/\∃vs,KV kvs vs/\s.heap.DictOf (zay X.prog X.w) p vs:=I.hok p _ hx;have hlen:kvs.length=vs.length:=Paired.length r;exact wpAny_truthy_dict hS m (by lia) ⟨H,I.tok _,by rw[zkr r];exact q⟩
 | _=>exact(show False from e).elim
theorem znd (ha:PE X a ta)(he:∀whole,isTrue a X.env whole=(do let v <- whole;standAt a.pos;holding [v] (truthy v))) :
  PT X a (λσ H Q=>ta σ H λx H'=>∃k,TruV X.K x H' k/\Q k H'):=by
 intro pins s σ H Q I h;exact isTrue_plain (thn (ha pins s σ H _ I h) λv s1 ⟨x,H1,I1,r1,q1⟩=>zqI pins s1 σ H1 x v Q I1 r1 q1) (he _)
theorem vals1 {x:V}{us:List Value}(r:Vals [x] us):∃u,us=[u]/\RelV x u:=by
 cases r with
 | cons r1 r2=>cases r2;exact⟨_,rfl,r1⟩
theorem vals2 {x y:V}{us:List Value}(r:Vals [x,y] us):∃u w',us=[u,w']/\RelV x u/\RelV y w':=by
 cases r with
 | cons r1 r2=>
  cases r2 with
  | cons r3 r4=>cases r4;exact⟨_,_,rfl,r1,r3⟩
theorem zkW (hc:X.calm=true):zcd X (.builtin "min") (λxs H Q=>∃i j,xs=[.int i,.int j]/\Q (.int (if j<i then j else i)) H):=by
 intro pins s σ H xs us Q I r h;obtain⟨i,j,rfl,q⟩:=h;obtain⟨u,w',rfl,⟨t,rfl⟩,⟨t',rfl⟩⟩:=vals2 r;refine min_two_ints (I.ok.hd hc) λh' tk k=>⟨_,H,I.kept k,?_,q⟩;by_cases hj:j<i
 ·rw[if_pos hj,if_pos hj];exact⟨_,rfl⟩
 ·rw[if_neg hj,if_neg hj];exact⟨_,rfl⟩
theorem zne:zcd X (.builtin "ord") (λxs H Q=>∃x,xs=[.str x]/\x.length=1/\Q (.int (x.cps.getD 0 0:Nat)) H):=by
 intro pins s σ H xs us Q I r h;obtain⟨x,rfl,hz,q⟩:=h;obtain⟨u,rfl,t,rfl⟩:=vals1 r;exact ord_of_one hz ⟨.int _,H,I.tok _,⟨_,rfl⟩,q⟩
noncomputable def LenV (K:PySem.W.Frag)(x:V)(H:Hp)(n:Nat):Prop:=
 match x with
 | .str y=>y.length<=sizeLine/\n=y.length
 | .byt y=>y.size<=sizeLine/\n=y.size
 | .ref p=>(∃xs,SqL K H p xs/\n=xs.length)\/∃xs,SqT K H p xs/\n=xs.length
 | _=>False
theorem znf:zcd X (.builtin "len") (λxs H Q=>∃x n,xs=[x]/\LenV X.K x H n/\Q (.int n) H):=by
 intro pins s σ H xs us Q I r h;obtain⟨x,n,rfl,e,q⟩:=h;obtain⟨u,rfl,rx⟩:=vals1 r;have hl:=zgO;have hs:sizeLine=16777216:=sizeLine_eq;cases x with
 | str y=>
  obtain⟨t,rfl⟩:=rx;obtain⟨hy,e'⟩:y.length<=sizeLine/\n=y.length:=e;subst e';exact len_str (by lia) ⟨.int _,H,I.tok _,⟨_,rfl⟩,q⟩
 | byt y=>
  obtain⟨t,rfl⟩:=rx;obtain⟨hy,e'⟩:y.size<=sizeLine/\n=y.size:=e;subst e';exact PySem.W.len_bytes (by lia) ⟨.int _,H,I.tok _,⟨_,rfl⟩,q⟩
 | ref p=>
  cases rx;have e':(∃xs,SqL X.K H p xs/\n=xs.length)\/∃xs,SqT X.K H p xs/\n=xs.length:=e;rcases e' with ⟨xs,hx,e'⟩ | ⟨xs,hx,e'⟩
  ·subst e';obtain⟨its,r',pl,hz⟩:=I.list hx;have hlen:=r'.length;exact Calls.call_len_list pl.isList (by simp only[List.size_toArray];lia) ⟨.int xs.length,H,I.tok _,⟨_,by simp only[List.size_toArray];rw[hlen]⟩,q⟩
  ·subst e';obtain⟨its,r',pl,hz⟩:=I.tuple hx;have hlen:=r'.length;exact len_tuple pl (by simp only[List.size_toArray];lia) ⟨.int xs.length,H,I.tok _,⟨_,by simp only[List.size_toArray];rw[hlen]⟩,q⟩
 | _=>exact(show False from e).elim
end
structure Room (k:Nat)(A:Around):Prop where
 hd:A.handled=none
 dp:A.depth+3*k+5<recursionLimit
 un:A.units+16*k+200<cLine
theorem Room.mono {j k:Nat}{A:Around}(r:Room k A)(h:j<=k):Room j A:=⟨r.hd,by have:=r.dp;lia,by have:=r.un;lia⟩
theorem Room.deeper {k:Nat}{A:Around}(r:Room (k+1) A)(env:Env):Room k (A.deeper env):=
 ⟨r.hd,by have:=r.dp;show A.depth+1+3*k+5<_;lia,by have:=r.un;show A.units+3+16*k+200<_;lia⟩
theorem Room.depth {k:Nat}{A:Around}(r:Room k A):A.depth<recursionLimit:=by have:=r.dp;lia
theorem Room.units {k:Nat}{A:Around}(r:Room k A):A.units+64<cLine:=by have:=r.un;lia
noncomputable def tNil:TA:=λ_ H Q=>Q [] H
noncomputable def zsK (ta:TE)(tr:TA):TA:=λσ H Q=>ta σ H λx H1=>tr σ H1 λxs H2=>Q (x::xs) H2
section
variable {X:Cx}{e:Expr}{es:List Expr}{te:TE}{t:TA}{pos:Pos}
theorem zce:PA X [] tNil:=λ_ _ _ _ H Q I h=>Calls.spliced_nil ⟨[],H,I,.nil,h⟩
theorem zbA (ha:PE X e te)(hr:PA X es t)(hs:starEach (e::es) X.env=(false,eval e X.env)::starEach es X.env:=by rfl):PA X (e::es) (zsK te t):=by
 intro pos pins s σ H Q I h;rw[hs];show wpAny _ _ (spliced ((false,eval e X.env)::backTo pos (starEach es X.env))) _ _ s;refine Calls.spliced_cons (thn (ha pins s σ H _ I h) λu s1 ⟨x,H1,I1,r1,q1⟩=>?_);exact thn (hr pos pins s1 σ H1 _ I1 q1) λus s2 ⟨xs,H2,I2,r2,q2⟩=>⟨x::xs,H2,I2,.cons r1 r2,q2⟩
noncomputable def tTup (t:TA):TE:=λσ H Q=>t σ H λxs H1=>xs.length<=sizeLine/\∀p,H1 p=none->Q (.ref p) (upd H1 p (.tup xs))
noncomputable def tLst (t:TA):TE:=λσ H Q=>t σ H λxs H1=>xs.length<=sizeLine/\∀p,H1 p=none->Q (.ref p) (upd H1 p (.lst xs))
theorem zqJ {x1}(h:PA X es t):PE X (.Tuple es x1 pos) (tTup t):=by
 intro pins s σ H Q I hq;refine wpAny_Tuple_spliced (thn (h pos pins s σ H _ I hq) λus s1 ⟨xs,H1,I1,r,z,q⟩=>⟨by rw[<- r.length];exact z,?_⟩);have hf:H1 s1.heap.objs.size=none:=I1.hok.fresh (Nat.le_refl _);refine⟨.ref s1.heap.objs.size,upd H1 s1.heap.objs.size (.tup xs),I1.laid (t':=s1.toks) (λb u e=>Heap.get?_push_of_some _ e) (Nat.le_refl _) ?_,rfl,q _ hf⟩;exact⟨z,us,r,zcz.new _ _⟩
theorem zos (h:PA X es t):PE X (.List es pos) (tLst t):=by
 intro pins s σ H Q I hq;refine wpAny_List_spliced (thn (h pos pins s σ H _ I hq) λus s1 ⟨xs,H1,I1,r,z,q⟩=>⟨by rw[<- r.length];exact z,?_⟩);have hf:H1 s1.heap.objs.size=none:=I1.hok.fresh (Nat.le_refl _);refine⟨.ref s1.heap.objs.size,upd H1 s1.heap.objs.size (.lst xs),I1.laid (t':=s1.toks) (λb u e=>Heap.get?_push_of_some _ e) (Nat.le_refl _) ?_,rfl,q _ hf⟩;exact⟨z,us,0,r,Heap.get?_push_size _ rfl⟩
end
noncomputable abbrev Sp:=List V->Hp->VK->XK->Prop
noncomputable abbrev CXT:=List Env->Hp->Shared->XK->Value->Shared->Prop
structure Env0 (P:Program)(w:World)(K:PySem.W.Frag)(mg:Str->Option Value)(base:Heap)(A:Around)(outer:List Env)(s:Shared)(H:Hp):Prop where
 frames:A.frames=some outer
 mod:Mod K mg base
 bs:∀b o,base.get? b=some o->s.heap.get? b=some o/\H b=none
 bsz:base.objs.size<=s.heap.objs.size
 funs:s.heap.FunFrames base outer
 frf:∀b∈frs outer,H b=none
 hok:HOk P w H s.heap
 bare:AllBare s.gens
noncomputable def CE (outer:List Env)(P:Program)(w:World)(H:Hp)(s:Shared)(Q:VK)(u:Value)(s':Shared):Prop:=
 ∃v H',s'.os=s.os/\AllBare s'.gens/\Un (frs outer) [] H H' s.heap s'.heap/\HOk P w H' s'.heap/\RelV v u/\Q v H'
noncomputable def CR (CX:CXT)(outer:List Env)(P:Program)(w:World)(H:Hp)(s:Shared)(Q:VK)(E:XK)(r:Result)(s':Shared):Prop:=
 match r with
 | .ok (.ret u)=>CE outer P w H s Q u s'
 | .ok _=>False
 | .error e=>CX outer H s E e s'
structure FnOk (P:Program)(w:World)(K:PySem.W.Frag)(mg:Str->Option Value)(base:Heap)(CX:CXT)(k:Nat)(f:Addr)(fd:FuncData)(ps:List Str)(sp:Sp):Prop where
 len:∀vs H Q E,sp vs H Q E->vs.length=ps.length
 run:∀(A:Around) (outer:List Env) (s:Shared) (H:Hp) (args:Args) (us:List Value) (vs:List V) (Q:VK) (E:XK),Room k A->Env0 P w K mg base A outer s H->BindsTo s fd args (ps.zip us)->Vals vs us->sp vs H Q E->
  codeAny (model P w) A (.call (.ref f) args) (CR CX outer P w H s Q E) s
theorem FnOk.mono {P:Program}{w:World}{K:PySem.W.Frag}{mg:Str->Option Value}{base:Heap}{CX:CXT}{j k:Nat}{f:Addr}{fd:FuncData}{ps:List Str}{sp:Sp}(F:FnOk P w K mg base CX j f fd ps sp)(h:j<=k) :
  FnOk P w K mg base CX k f fd ps sp:=⟨F.len,λA outer s H args us vs Q E hr=>F.run A outer s H args us vs Q E (hr.mono h)⟩
section
variable {X:Cx}{pins:List (Addr×Obj)}{σ:St}{H:Hp}{s s':Shared}
theorem Inv.env0 (I:Inv X pins σ H s):Env0 X.prog X.w X.K X.mg X.base X.A X.stack s H:=
 ⟨I.ok.frames,I.ok.mod,I.bs,Nat.le_trans I.ok.bsz I.sz,I.stack,I.zkQ,I.hok,I.bare⟩
theorem Inv.after {Q:VK}{u:Value}(I:Inv X pins σ H s)(h:CE X.stack X.prog X.w H s Q u s'):EP X pins σ Q u s':=by
 obtain⟨v,H',os,bare,un,hok,r,q⟩:=h;obtain⟨hh,g,d,t,os'⟩:=s';obtain rfl:os'=s.os:=os;exact⟨v,H',I.call (h':=hh) (g':=g) (d':=d) (t':=t) (ch:=[]) un hok bare (λb z=>absurd z (by simp)),r,q⟩
end
noncomputable def zqK (sp:Sp)(dvs:List V)(E:XK)(t:TA):TE:=λσ H Q=>t σ H λvs H1=>sp (vs++dvs) H1 Q E
noncomputable def Binds (K:PySem.W.Frag)(fd:FuncData)(ps:List Str)(ds:List Value):Prop:=
 ∀(s:Shared) (us:List Value),K.In s.heap->(us++ds).length=ps.length->BindsTo s fd ⟨us,[]⟩ (ps.zip (us++ds))
theorem Binds.all {K:PySem.W.Frag}{fd:FuncData}{ps:List Str}(h:∀us:List Value,us.length=ps.length->bindArgs fd ⟨us,[]⟩=pure (ps.zip us)):Binds K fd ps []:=λs us _ hl=>by
 rw[List.append_nil]at hl ⊢;exact .of_eq (h us hl)
noncomputable def zkX (CX:CXT)(X:Cx)(E:XK):Prop:=∀(pins:List (Addr×Obj))(σ:St)(H:Hp)(s:Shared)(e:Value)(s':Shared),Inv X pins σ H s->CX X.stack H s E e s'->X.xe e s'
section
variable {X:Cx}{CX:CXT}{k:Nat}{f C:Addr}{fd:FuncData}{ps:List Str}{sp:Sp}{dvs:List V}{ds:List Value}{E:XK}{x m:Str}{p pos apos:Pos}{e o:Expr}{es:List Expr}{ta:TE}{t:TA}
theorem zqL {pins:List (Addr×Obj)}{σ:St}{H:Hp}{s:Shared}{Q:VK}{us:List Value}{vs:List V}(F:FnOk X.prog X.w X.K X.mg X.base CX k f fd ps sp)(hr:Room k X.A)(hb:Binds X.K fd ps ds)(hd:Vals dvs ds)(hx:zkX CX X E)
  (I:Inv X pins σ H s) (r:Vals vs us) (h:sp (vs++dvs) H Q E):wpAny (model X.prog X.w) X.A (call (.ref f) us) (EP X pins σ Q) X.xe s:=by
 have r2:Vals (vs++dvs) (us++ds):=r.append hd;have hl:(us++ds).length=ps.length:=by rw[<- r2.length];exact F.len _ _ _ _ h
 refine wpAny_call (codeAny_mono (F.run X.A X.stack s H ⟨us,[]⟩ (us++ds) (vs++dvs) Q E hr I.env0 (hb s us I.kIn hl) r2 h) λr s' hq=>?_);cases r with
 | error e=>exact hx pins σ H s e s' I hq
 | ok fl=>
  cases fl with
  | ret u=>exact I.after hq
  | next=>exact False.elim hq
  | brk=>exact False.elim hq
  | cont=>exact False.elim hq
theorem zoS (F:FnOk X.prog X.w X.K X.mg X.base CX k f fd ps sp)(hr:Room k X.A)(hg:Gl X x)(hm:X.mg x=some (.ref f))(hk:PySem.W.keepIn X.K (.ref f)=true)(hb:Binds X.K fd ps ds)(hd:Vals dvs ds)(hx:zkX CX X E)
  (ha:PA X (e::es) t) (hdb:(x == ("__debug__" : Str))=false:=by decide) (he:starEach (e::es) X.env=(false,eval e X.env)::starEach es X.env:=by rfl) (hpl:(backTo pos (starEach es X.env)).any (·.1)=false:=by rfl) :
  PE X (.Call (.Name x p) (e::es) [] pos) (zqK sp dvs E t):=by
 intro pins s σ H Q I h;refine wpAny_Call_Name_kw (zoK I hg hm ?_ hdb);refine PySem.W.callWith_K (h₀:=X.base) I.ok.mod.kin hk (thn (ha pos pins s σ H _ I h) λus s1 ⟨vs,H1,I1,r,q⟩=>⟨I1.kIn,?_⟩) he hpl;exact zqL F hr hb hd hx I1 r q
end
structure zaC (N P:List Str)(sc:Scope):Prop where
 kind:sc.kind=.function
 co:sc.isCoroutine=false
 gen:sc.isGenerator=false
 nd:N.Nodup
 pre:N.take P.length=P
 par:∀x∈P,sc.names.lookup x=some .local\/sc.names.lookup x=some .cell
 nofree:∀y∈sc.names,y.2≠.free
theorem zgP {kindOf:Str->Option NameKind}{x:Str}:∀ {binds:List (Str×Value)}{m:Str->Option Value},(∀v,(x,v)∉binds)->bindL kindOf binds m x=m x
 | [],_,_=>rfl
 | (n,v)::r,m,h=>by
  unfold bindL;rw[zgP λw hw=>h w (List.mem_cons_of_mem _ hw)];split
  ·have:x≠n:=by rintro rfl;exact h v List.mem_cons_self
   simp[this]
  ·rfl
theorem zgQ {kindOf:Str->Option NameKind}{x:Str}:∀ {binds:List (Str×Value)}{m:Str->Option Value},(∀v,(x,v)∉binds)->bindC kindOf binds m x=m x
 | [],_,_=>rfl
 | (n,v)::r,m,h=>by
  unfold bindC;rw[zgQ λw hw=>h w (List.mem_cons_of_mem _ hw)];split
  ·rfl
  ·have:x≠n:=by rintro rfl;exact h v List.mem_cons_self
   simp[this]
theorem zgR {kindOf:Str->Option NameKind}{x:Str}{v:Value}:∀ {P:List Str}{vs:List Value}{i:Nat}{m:Str->Option Value},P.Nodup->P[i]? = some x->vs[i]? = some v->kindOf x=some .local->
  bindL kindOf (P.zip vs) m x=some v
 | [],_,_,_,_,h,_,_=>by simp at h
 | _::_,[],_,_,_,_,h,_=>by simp at h
 | p::P,w::vs,0,m,nd,h1,h2,hk=>by
  simp at h1 h2;subst h1;subst h2;show bindL kindOf ((p,w)::P.zip vs) m p=_;unfold bindL;rw[zgP λv hv=>(List.nodup_cons.mp nd).1 (List.of_mem_zip hv).1,if_pos hk];simp
 | p::P,w::vs,i+1,m,nd,h1,h2,hk=>by
  show bindL kindOf ((p,w)::P.zip vs) m x=_;unfold bindL;exact zgR (i:=i) (List.nodup_cons.mp nd).2 (by simpa using h1) (by simpa using h2) hk
theorem zgS {kindOf:Str->Option NameKind}{x:Str}{v:Value}:∀ {P:List Str}{vs:List Value}{i:Nat}{m:Str->Option Value},P.Nodup->P[i]? = some x->vs[i]? = some v->kindOf x≠some .local->
  bindC kindOf (P.zip vs) m x=some v
 | [],_,_,_,_,h,_,_=>by simp at h
 | _::_,[],_,_,_,_,h,_=>by simp at h
 | p::P,w::vs,0,m,nd,h1,h2,hk=>by
  simp at h1 h2;subst h1;subst h2;show bindC kindOf ((p,w)::P.zip vs) m p=_;unfold bindC;rw[zgQ λv hv=>(List.nodup_cons.mp nd).1 (List.of_mem_zip hv).1,if_neg hk];simp
 | p::P,w::vs,i+1,m,nd,h1,h2,hk=>by
  show bindC kindOf ((p,w)::P.zip vs) m x=_;unfold bindC;exact zgS (i:=i) (List.nodup_cons.mp nd).2 (by simpa using h1) (by simpa using h2) hk
noncomputable def start (N:List Str)(vs:List V):St:=vs.map some++List.replicate (N.length-vs.length) none
noncomputable def cxOf (CX:CXT)(P:Program)(w:World)(K:PySem.W.Frag)(mg:Str->Option Value)(base:Heap)(N:List Str)(qual:Str)(scope:Scope)(f:Addr)(cd:Value)(A:Around)(outer:List Env)(s:Shared)(H:Hp)(E:XK):Cx where
 prog:=P
 w:=w
 K:=K
 mg:=mg
 base:=base
 A:=A.deeper (envOfC qual scope s.heap.objs.size f cd)
 N:=N
 s₀:=s
 H₀:=H
 env:=envOfC qual scope s.heap.objs.size f cd
 outer:=outer
 stack:=envOfC qual scope s.heap.objs.size f cd::outer
 ex:=[]
 calm:=true
 fn:=λ_=>true
 pn:=[]
 xe:=λe s'=>wpAny (model P w) (A.deeper (envOfC qual scope s.heap.objs.size f cd)) (leaving (envOfC qual scope s.heap.objs.size f cd) e) (λ_ s''=>CX outer H s E e s'') (λe' s''=>CX outer H s E e' s'') s'
theorem zjd {sc:Scope}{n:Nat}{x:Str}(h:sc.names.lookup x=some .cell):∃c,(cellsFrom n sc.names []).lookup x=some c:=by
 have q:=PySem.W.cellsFrom_some sc.names n [] (.inl h);exact Option.isSome_iff_exists.mp q
theorem zkY {CX:CXT}{P:Program}{w:World}{K:PySem.W.Frag}{mg:Str->Option Value}{base:Heap}{N ps:List Str}{qual:Str}{scope:Scope}{f:Addr}{cd:Value}{A:Around}{outer:List Env}{s s1:Shared}{H:Hp}{E:XK}{us:List Value}{vs:List V}
  (S:zaC N ps scope) (hd:A.handled=none) (e0:Env0 P w K mg base A outer s H) (hl:vs.length=ps.length) (r:Vals vs us)
  (x:InCallC s s.heap.objs.size (bindL (envOfC qual scope s.heap.objs.size f cd).kindOf (ps.zip us) λ_=>none) (cellsFrom (s.heap.objs.size+1) scope.names []) (bindC (envOfC qual scope s.heap.objs.size f cd).kindOf (ps.zip us) λ_=>none) s1) :
  Inv (cxOf CX P w K mg base N qual scope f cd A outer s H E) [] (start N vs) H s1:=by
 have hpl:ps.length<=N.length:=by have:=congrArg List.length S.pre;rw[List.length_take]at this;lia
 obtain⟨h1,tk,rfl,hk⟩:=x.done;have noA:∀b:Addr,b∉(cxOf CX P w K mg base N qual scope f cd A outer s H E).ex:=λb z=>absurd (show b∈([]:List Addr) from z) (by simp);refine⟨⟨e0.mod,S.kind,rfl,rfl,Nat.le_refl _,λy z c h1 h2=>?_,λy hy=>?_,λy c _ h=>?_,λ_=>hd,Around.frames_deeper e0.frames,.inr ⟨rfl,rfl⟩,λb z=>absurd z (noA b),e0.bs,e0.bsz,λb _ _=>noA b,λb z=>absurd z (noA b),e0.funs,e0.frf⟩,
  rfl,e0.bare,Un.kept hk,⟨_,x.toInCall.ns,λi y v h1 h2 h3=>?_⟩,λy c h=>⟨_,x.cell y c h⟩,e0.hok.fresh (Nat.le_refl _),λy c h=>?_,λp hp=>absurd (show p∈([]:List (Addr×Obj)) from hp) (by simp),e0.hok.kept hk,?_⟩
 ·exact name_of_addr x.apart (PySem.mem_of_lookup h1) (PySem.mem_of_lookup h2)
 ·have hy:scope.names.lookup y=some .cell\/scope.names.lookup y=some .free:=hy;rcases hy with hy | hy
  ·exact zjd hy
  ·exact absurd rfl (S.nofree _ (PySem.mem_of_lookup hy))
 ·exact Nat.le_of_lt (x.above y c (PySem.mem_of_lookup h))
 ·have hi:i<vs.length:=by
   unfold start at h2;by_cases hi:i<vs.length
   ·exact hi
   ·rw[List.getElem?_append_right (by simpa using hi)]at h2;rw[List.getElem?_replicate]at h2;split at h2<;>cases h2
  have ha:vs[i]? = some v:=by
   unfold start at h2;rw[List.getElem?_append_left (by simpa using hi),List.getElem?_map]at h2;cases e:vs[i]? with
   | none=>rw[e]at h2;cases h2
   | some a=>rw[e]at h2;cases h2;rfl
  obtain⟨u,hu,rv⟩:=r.get ha;have hp:ps[i]? = some y:=by
   rw[<- S.pre,List.getElem?_take_of_lt (by lia)];exact h1
  have ndP:ps.Nodup:=by rw[<- S.pre];exact S.nd.sublist (List.take_sublist _ _)
  refine⟨u,rv,?_⟩;rcases S.par y (List.mem_of_getElem? hp)with k | k
  ·exact .inl ⟨k,zgR ndP hp hu k⟩
  ·obtain⟨c,e⟩:=zjd (n:=s.heap.objs.size+1) k;refine .inr ⟨.inl k,c,e,?_⟩;have q:=x.cell y c e;rw[zgS ndP hp hu (by show scope.names.lookup y≠_;rw[k];decide)]at q;exact q
 ·exact e0.hok.fresh (Nat.le_of_lt (x.above y c (PySem.mem_of_lookup h)))
 ·unfold start;show _=N.length;rw[List.length_append,List.length_map,List.length_replicate];lia
theorem zsL {CX:CXT}{P:Program}{w:World}{K:PySem.W.Frag}{mg:Str->Option Value}{base:Heap}{k:Nat}{f:Addr}{name qual:Str}{params:Arguments}{body:List Stmt}{scope:Scope}{dV kV doc pm cdv ct oc:Value}{an od:Option Addr}
  {osl:Array (Option Value)} {N ps:List Str} {sp:Sp} (lk:K.lookup f=some ⟨oc,od,.func (PySem.W.fnOf name qual params body scope dV kV doc pm an cdv ct),osl⟩) (hcd:PySem.W.codeIn K cdv qual=true) (S:zaC N ps scope)
  (len:∀vs H Q E,sp vs H Q E->vs.length=ps.length)
  (hbody:∀(A:Around) (outer:List Env) (s:Shared) (H:Hp) (vs:List V) (Q:VK) (E:XK),Room k (A.deeper (envOfC qual scope s.heap.objs.size f cdv))->sp vs H Q E->
   ∃t,PSs (cxOf CX P w K mg base N qual scope f cdv A outer s H E) body t/\t { nx:=λ_ H'=>Q .non H',rt:=Q } (start N vs) H) :
  FnOk P w K mg base CX (k+1) f (PySem.W.fnOf name qual params body scope dV kV doc pm an cdv ct) ps sp:=by
 refine⟨len,λA outer s H args us vs Q E hr e0 hb r hsp=>?_⟩;have hl:=len _ _ _ _ hsp;have KX:K.In s.heap:=e0.mod.kin.keeps λb o e=>(e0.bs b o e).1;have lim:s.heap.NoLimit:=e0.mod.nolimit.keeps λb o e=>(e0.bs b o e).1;have hkind:∀y∈ps.zip us,scope.names.lookup y.1=some .local\/(scope.names.lookup y.1=some .cell/\((cellsFrom (s.heap.objs.size+1) scope.names []).lookup y.1).isSome=true):=λ⟨n,v⟩ hy=>by
  rcases S.par n (List.of_mem_zip hy).1 with q | q
  ·exact .inl q
  ·exact .inr ⟨q,PySem.W.cellsFrom_some _ _ _ (.inl q)⟩
 refine codeAny_call_function hr.depth (KX _ _ lk) rfl S.co S.gen rfl (PySem.W.codeRec_of KX hcd) (hb _ _ _ _ ?_);refine wpAny_newFunctionEnv_cells S.kind hkind λenv he s1 x=>?_;subst he;refine⟨lim.keeps x.toInCall.keep,codeAny_func ?_⟩;obtain⟨t,ht,hq⟩:=hbody A outer s H vs Q E (hr.deeper _) hsp;have I:Inv (cxOf CX P w K mg base N qual scope f cdv A outer s H E) [] (start N vs) H s1:=zkY S hr.hd e0 hl r x;refine wpAny_mono (ht [] s1 (start N vs) H _ I hq) (λfl s' hs=>?_) λe s' hs=>hs;have fin:∀ {σ':St} {H':Hp} {v:V} {u:Value},Inv (cxOf CX P w K mg base N qual scope f cdv A outer s H E) [] σ' H' s'->RelV v u->Q v H'->CE outer P w H s Q u s':=
  λ{σ' H' v u} J rv q=>⟨v,H',J.os,J.bare,J.base,J.hok,rv,q⟩
 cases fl with
 | ret u=>
  obtain⟨v,σ',H',J,rv,q⟩:=hs;exact fin J rv q
 | next=>
  obtain⟨σ',H',J,q⟩:=hs;exact fin (v:=V.non) (u:=Value.none) J rfl q
 | brk=>
  obtain⟨_,_,_,q⟩:=hs;exact False.elim q
 | cont=>
  obtain⟨_,_,_,q⟩:=hs;exact False.elim q
section
variable {X:Cx}{x:Str}{p pos:Pos}{e:Expr}{es:List Expr}{t:TA}{id T:String}{r:List V->Hp->VK->Prop}
noncomputable def tCB (r:List V->Hp->VK->Prop)(t:TA):TE:=λσ H Q=>t σ H λvs H1=>r vs H1 Q
theorem zeK (hc:zcd X (.builtin id) r)(hg:Gl X x)(hm:X.mg x=none)(hv:bootBuiltins x=some (.builtin id))(ha:PA X (e::es) t)(hn:x≠"__name__":=by decide) (hdb:(x == ("__debug__" : Str))=false:=by decide)
  (he:starEach (e::es) X.env=(false,eval e X.env)::starEach es X.env:=by rfl) (hpl:(backTo pos (starEach es X.env)).any (·.1)=false:=by rfl):PE X (.Call (.Name x p) (e::es) [] pos) (tCB r t):=by
 intro pins s σ H Q I h;refine wpAny_Call_Name_kw (zet I hg hm hv ?_ hn hdb);exact PyProof.Rows.callWith_builtin1 (thn (ha pos pins s σ H _ I h) λus s1 ⟨vs,H1,I1,r1,q1⟩=>hc pins s1 σ H1 vs us Q I1 r1 q1) he hpl
theorem zeW (hc:zcd X (.type T) r)(hg:Gl X x)(hm:X.mg x=none)(hv:bootBuiltins x=some (.type T))(ha:PA X (e::es) t)(hn:x≠"__name__":=by decide) (hdb:(x == ("__debug__" : Str))=false:=by decide)
  (he:starEach (e::es) X.env=(false,eval e X.env)::starEach es X.env:=by rfl) (hpl:(backTo pos (starEach es X.env)).any (·.1)=false:=by rfl):PE X (.Call (.Name x p) (e::es) [] pos) (tCB r t):=by
 intro pins s σ H Q I h;refine wpAny_Call_Name_kw (zet I hg hm hv ?_ hn hdb);exact PyProof.Rows.callWith_type1 (thn (ha pos pins s σ H _ I h) λus s1 ⟨vs,H1,I1,r1,q1⟩=>hc pins s1 σ H1 vs us Q I1 r1 q1) he hpl
end
end L2
namespace HT
open PySem PyProof.Rows
section
open PySem.SeqAt
open PySem.MeetsSeq PySem.MeetsSeq2 PySem.MeetsSeq3
end
section
variable {prog:Program}{w:World}{A:Around}{E:Value->Shared->Prop}{s:Shared}
theorem zoT {t b:Addr}{vs ws:List Value}{Q:Value->Shared->Prop}(ht:IsTup s.heap t vs.toArray)(hb:IsTup s.heap b ws.toArray)(hv:vs≠[])
  (h1:ws=[]->Q (.ref t) s) (h2:ws≠[]->Q (.ref s.heap.objs.size) { s with heap:=s.heap.push { cls:=.type "tuple",data:=.seq (vs++ws).toArray } })
  (hsz:vs.length+ws.length<=sizeLine):wpAny (model prog w) A (binaryOp .Add (.ref t) (.ref b)) Q E s:=by
 obtain⟨⟨cls,dd,data,sl⟩,ho,hc,n,hd⟩:=id ht;obtain⟨⟨cls2,dd2,data2,sl2⟩,ho2,hc2,n2,hd2⟩:=id hb;simp only at hc hd hc2 hd2;subst hc hd hc2 hd2;have e:vs.toArray++ws.toArray=(vs++ws).toArray:=by simp
 by_cases hw:ws=[]
 ·exact concat_meets ⟨_,ho,rfl⟩ ⟨_,ho2,rfl⟩ noFill_tuple_add seq_tuple_add PySem.F.slot_tuple_add PySem.F.entry_tuple_add (PySem.F.args_tuple_add_2 _ _)
   (tuple_addW1 t b vs.toArray ws.toArray n n2 dd dd2 sl sl2 (by simpa using hv) (by simp[hw])) ⟨ho,ho2,h1 hw⟩
 ·refine concat_meets ⟨_,ho,rfl⟩ ⟨_,ho2,rfl⟩ noFill_tuple_add seq_tuple_add PySem.F.slot_tuple_add PySem.F.entry_tuple_add (PySem.F.args_tuple_add_2 _ _)
   (tuple_addW2 t b vs.toArray ws.toArray n n2 dd dd2 sl sl2 (by simpa using hv) (by simpa using hw) (by rw[List.size_toArray,List.size_toArray];exact hsz)) ⟨ho,ho2,?_⟩
  rw[e];exact h2 hw
noncomputable def sIx (n d:Nat):Option Int->Nat
 | none=>d
 | some v=>if v<0 then(v+(n:Int)).toNat else min v.toNat n
theorem zng (n d:Nat):sIx n d none=d:=rfl
theorem zoU (n d k:Nat):sIx n d (some (k:Int))=min k n:=by
 show(if (k:Int)<0 then((k:Int)+(n:Int)).toNat else min (k:Int).toNat n)=min k n
 rw[if_neg (by lia),Int.toNat_natCast]
end
end HT
namespace L2
open PySem PySem.Spec PyProof.Rows
noncomputable abbrev TO:=St->Hp->(Option Int->Hp->Prop)->Prop
noncomputable def PO (X:Cx)(e:Option Expr)(t:TO):Prop:=
 ∀(pins:List (Addr×Obj)) (s:Shared) (σ:St) (H:Hp) (Q:Option Int->Hp->Prop),Inv X pins σ H s->t σ H Q->
  wpAny (model X.prog X.w) X.A (evalPart e X.env) (λu s'=>∃o H',Inv X pins σ H' s'/\IsPart u o/\Q o H') X.xe s
noncomputable def zoV:TO:=λ_ H Q=>Q none H
noncomputable def zsM (t:TE):TO:=λσ H Q=>t σ H λx H1=>∃i,x=.int i/\Q (some i) H1
theorem intsAre_of {ns:List Int}:∀ {us:List Value},Vals (ns.map V.int) us->IntsAre us ns:=by
 induction ns with
 | nil=>intro us r;rw[List.map_nil]at r;cases r;exact .nil
 | cons n ns ih=>
  intro us r;rw[List.map_cons]at r;cases r with
  | cons r1 r2=>
   obtain⟨t,e⟩:=r1;subst e;exact .cons n t (ih r2)
section
variable {X:Cx}{e:Expr}{te:TE}{lo hi:Option Expr}{tl th:TO}{pos p2:Pos}
theorem zoW:PO X none zoV:=by
 intro pins s σ H Q I h;rw[evalPart_none];exact wpAny_pure ⟨none,H,I,.none,h⟩
theorem zoX (h:PE X e te):PO X (some e) (zsM te):=by
 intro pins s σ H Q I hw;rw[evalPart_some];refine thn (h pins s σ H _ I hw) λu s1 ⟨x,H1,I1,r1,q1⟩=>?_;obtain⟨i,rfl,q⟩:=q1;obtain⟨t,rfl⟩:=r1;exact⟨some i,H1,I1,.int i t,q⟩
noncomputable def SlR (X:Cx)(r:V->Option Int->Option Int->Hp->VK->Prop):Prop:=
 ∀(pins:List (Addr×Obj)) (s:Shared) (σ:St) (H:Hp) (x:V) (v vl vu:Value) (lo hi:Option Int) (sl:Addr) (Q:VK),Inv X pins σ H s->RelV x v->s.heap.IsSliceOf sl vl vu .none->IsPart vl lo->IsPart vu hi->r x lo hi H Q->
  ∃T id,typeLookup (.type T) "__getitem__" = pure (some (.builtin id))/\s.TypeIs v T/\wpAny (model X.prog X.w) X.A (getItem v (.ref sl)) (EP X pins σ Q) X.xe s
noncomputable def tSl (r:V->Option Int->Option Int->Hp->VK->Prop)(te:TE)(tl th:TO):TE:=λσ H Q=>te σ H λx H1=>tl σ H1 λl H2=>th σ H2 λu H3=>r x l u H3 Q
theorem znh {r:V->Option Int->Option Int->Hp->VK->Prop}(hr:SlR X r)(he:PE X e te)(hl:PO X lo tl)(hu:PO X hi th):PE X (.Subscript e (.Slice lo hi none p2) pos) (tSl r te tl th):=by
 intro pins s σ H Q I h;refine Subscript_ (thn (he pins s σ H _ I h) λv s1 ⟨x,H1,I1,r1,q1⟩=>?_);refine wpAny_Slice (thn (hl pins s1 σ H1 _ I1 q1) λvl s2 ⟨l,H2,I2,pl,q2⟩=>thn (hu pins s2 σ H2 _ I2 q2) λvu s3 ⟨u,H3,I3,pu,q3⟩=>?_);rw[evalPart_none];refine wpAny_pure ?_;have I4:Inv X pins σ H3 { s3 with heap:=s3.heap.push { cls:=.type "slice",data:=.fields #[vl,vu,.none] } }:=I3.kept (t':=s3.toks) λb ob q=>Heap.get?_push_of_some _ q;obtain⟨T,id,hT,ht,hg⟩:=hr pins { s3 with heap:=s3.heap.push { cls:=.type "slice",data:=.fields #[vl,vu,.none] } } σ H3 x v vl vu l u s3.heap.objs.size Q I4 r1 (Heap.IsSliceOf.new ..) pl pu q3;show wpAny (model X.prog X.w) X.A (subscriptTail e (.Slice lo hi none p2) v (.ref s3.heap.objs.size)) (EP X pins σ Q) X.xe { s3 with heap:=s3.heap.push { cls:=.type "slice",data:=.fields #[vl,vu,.none] } };exact tail_any (ops:=[.ref s3.heap.objs.size,v]) ht hT hg (by with_unfolding_all rfl)
noncomputable def cutV (xs:List V)(lo hi:Option Int):List V:=(xs.drop (HT.sIx xs.length 0 lo)).take (HT.sIx xs.length xs.length hi-HT.sIx xs.length 0 lo)
theorem zit (xs:List V)(lo hi:Option Int):(cutV xs lo hi).length<=xs.length:=by
 unfold cutV;rw[List.length_take,List.length_drop];lia
noncomputable def zsN (K:PySem.W.Frag):R2:=λx y H Q=>∃a b xs ys,x=.ref a/\y=.ref b/\SqT K H a xs/\SqT K H b ys/\xs≠[]/\xs.length+ys.length<=sizeLine/\
 (ys=[]->Q (.ref a) H)/\(ys≠[]->∀p,H p=none->Q (.ref p) (upd H p (.tup (xs++ys))))
theorem Vals.zfY {xs:List V}{us:List Value}(r:Vals xs us):us=[]↔xs=[]:=by
 cases r with
 | nil=>simp
 | cons _ _=>simp
theorem zoY:OpR X (binaryOp .Add) (zsN X.K):=by
 intro pins s σ H x y v u Q I rx ry h;obtain⟨a,b,xs,ys,rfl,rfl,ha,hb,hx,hz,q1,q2⟩:=h;cases rx;cases ry;obtain⟨its,r1,p1,_⟩:=I.tuple ha;obtain⟨its2,r2,p2,_⟩:=I.tuple hb;refine HT.zoT p1 p2 (λz=>hx (r1.zfY.mp z)) (λz=>⟨.ref a,H,I,rfl,q1 (r2.zfY.mp z)⟩) (λz=>?_) (by rw[<- r1.length,<- r2.length];exact hz);refine⟨.ref s.heap.objs.size,_,I.laid (t':=s.toks) (o:=.tup (xs++ys)) (λb ob q=>Heap.get?_push_of_some _ q) (Nat.le_refl _) ?_,rfl,q2 (λw=>z (r2.zfY.mpr w)) _ (I.hok.fresh (Nat.le_refl _))⟩;exact⟨by rw[List.length_append];exact hz,_,r1.append r2,zcz.new _ _⟩
end
noncomputable def ixN (n:Nat)(i:Int):Option Nat:=if 0<=i then(if i<n then some i.toNat else none) else if -(n:Int)<=i then some (i+n).toNat else none
noncomputable def atI {α:Type}(xs:List α)(i:Int):Option α:=(ixN xs.length i).bind λj=>xs[j]?
theorem zoZ {n:Nat}{i:Int}{j:Nat}(h:ixN n i=some j):seqIndex? i n=some j/\j<n/\-(n:Int)<=i/\i<n:=by
 unfold ixN at h;by_cases h0:0<=i
 ·rw[if_pos h0]at h;by_cases h1:i<n
  ·rw[if_pos h1]at h;have e:i.toNat=j:=Option.some.inj h;exact⟨by rw[seqIndex_of h0 h1,e],by lia,by lia,h1⟩
  ·rw[if_neg h1]at h;cases h
 ·rw[if_neg h0]at h;by_cases h1:-(n:Int)<=i
  ·rw[if_pos h1]at h;have e:(i+n).toNat=j:=Option.some.inj h;exact⟨by rw[seqIndex_neg (by lia) h1,e],by lia,h1,by lia⟩
  ·rw[if_neg h1]at h;cases h
theorem ziu {α:Type}{xs:List α}{i:Int}{v:α}(h:atI xs i=some v):∃j,seqIndex? i xs.length=some j/\xs[j]? = some v/\j<xs.length/\-(xs.length:Int)<=i/\i<xs.length:=by
 unfold atI at h;cases e:ixN xs.length i with
 | none=>rw[e]at h;cases h
 | some j=>
  rw[e]at h;obtain⟨h1,h2,h3,h4⟩:=zoZ e;exact⟨j,h1,h,h2,h3,h4⟩
theorem zbl {α:Type}{xs:List α}{j:Nat}{v:α}(h:xs[j]? = some v):atI xs (j:Int)=some v:=by
 have hj:j<xs.length:=(List.getElem?_eq_some_iff.mp h).1;have e:ixN xs.length (j:Int)=some j:=by
  unfold ixN;rw[if_pos (by lia),if_pos (by lia)];simp
 unfold atI;rw[e];exact h
noncomputable def zfZ (b:Expr):Prop:=∀o i,subscripted b false o i=operate [o,i] (getItem o i)
noncomputable def IxR (X:Cx)(r:R2):Prop:=
 ∀(value slice:Expr) (pins:List (Addr×Obj)) (s:Shared) (σ:St) (H:Hp) (x y:V) (v u:Value) (Q:VK),Inv X pins σ H s->RelV x v->RelV y u->r x y H Q->
  subscripted slice false v u=operate [v,u] (getItem v u)->wpAny (model X.prog X.w) X.A (subscriptTail value slice v u) (EP X pins σ Q) X.xe s
noncomputable def MtR (X:Cx)(id:String)(r:V->List V->Hp->VK->Prop):Prop:=
 ∀(pins:List (Addr×Obj)) (s:Shared) (σ:St) (H:Hp) (x:V) (xs:List V) (v:Value) (us:List Value) (Q:VK),Inv X pins σ H s->RelV x v->Vals xs us->r x xs H Q->
  wpAny (model X.prog X.w) X.A (call (.builtin id) (v::us)) (EP X pins σ Q) X.xe s
section
variable {X:Cx}{a b:Expr}{ta tb:TE}{pos:Pos}
theorem IxR.or {r r':R2}(h:IxR X r)(h':IxR X r'):IxR X (λx y H Q=>r x y H Q\/r' x y H Q):=by
 intro value slice pins s σ H x y v u Q I rx ry q hs;rcases q with q | q
 ·exact h value slice pins s σ H x y v u Q I rx ry q hs
 ·exact h' value slice pins s σ H x y v u Q I rx ry q hs
theorem zqM {r:R2}(hr:IxR X r)(ha:PE X a ta)(hb:PE X b tb)(hs:zfZ b):PE X (.Subscript a b pos) (tOp r ta tb):=by
 intro pins s σ H Q I h;exact Subscript_ (binT ha hb I h λv u s2 x y H2 I2 rx ry q=>hr a b pins s2 σ H2 x y v u Q I2 rx ry q (hs _ _))
noncomputable def rIxL (K:PySem.W.Frag):R2:=λx y H Q=>∃p xs i v,x=.ref p/\y=.int i/\SqL K H p xs/\atI xs i=some v/\Q v H
noncomputable def rIxT (K:PySem.W.Frag):R2:=λx y H Q=>∃p xs i v,x=.ref p/\y=.int i/\SqT K H p xs/\atI xs i=some v/\Q v H
noncomputable def rIxS:R2:=λx y H Q=>∃z i c,x=.str z/\y=.int i/\z.length<=sizeLine/\atI z.cps.toList i=some c/\Q (.str ⟨#[c]⟩) H
theorem zkZ:IxR X (rIxL X.K):=by
 intro value slice pins s σ H x y v u Q I rx ry h hs;obtain⟨p,xs,i,z,rfl,rfl,hq,he,q⟩:=h;cases rx;obtain⟨t,rfl⟩:=ry;obtain⟨its,r,pl,hz⟩:=I.list hq;obtain⟨j,h1,h2,h3,h4,h5⟩:=ziu he;obtain⟨w,ew,rw'⟩:=r.get h2;have hl:=r.length;have hn:=zgO;have fin:EP X pins σ Q w s:=⟨z,H,I,rw',q⟩;by_cases h0:0<=i
 ·have hj:i.toNat=j:=by
   rw[seqIndex_of h0 h5]at h1;exact Option.some.inj h1
  exact item_listR pl.isList h0 (by lia) (by rw[hj];simpa using ew) fin hs
 ·have hj:(i+(its.toArray.size:Int)).toNat=j:=by
   rw[seqIndex_neg (by lia) h4]at h1;rw[List.size_toArray,<- hl];exact Option.some.inj h1
  exact subscriptTail_builtinR (x:=w) pl.isList.typeIs slot_list_getitem.lookup
   (wpAny_getItem_list_neg (Q:=λr s'=>r=w/\EP X pins σ Q r s') pl.isList (by lia) (by rw[List.size_toArray]<;>lia) (by lia) (by rw[hj];simpa using ew) ⟨rfl,fin⟩) hs
theorem zqN:IxR X (rIxT X.K):=by
 intro value slice pins s σ H x y v u Q I rx ry h hs;obtain⟨p,xs,i,z,rfl,rfl,hq,he,q⟩:=h;cases rx;obtain⟨t,rfl⟩:=ry;obtain⟨its,r,pl,hz⟩:=I.tuple hq;obtain⟨j,h1,h2,h3,h4,h5⟩:=ziu he;obtain⟨w,ew,rw'⟩:=r.get h2;have hl:=r.length;have hn:=zgO;have fin:EP X pins σ Q w s:=⟨z,H,I,rw',q⟩;exact subscriptTail_builtinR (x:=w) pl.typeIs slot_tuple_getitem.lookup
  (getItem_tuple (j:=j) (Q:=λr s'=>r=w/\EP X pins σ Q r s') pl (by lia) (by lia) (by rw[List.size_toArray,<- hl];exact h1) (by simpa using ew) ⟨rfl,fin⟩) hs
theorem zqO:IxR X rIxS:=by
 intro value slice pins s σ H x y v u Q I rx ry h hs;obtain⟨z,i,c,rfl,rfl,hz,he,q⟩:=h;obtain⟨t,rfl⟩:=rx;obtain⟨t',rfl⟩:=ry;obtain⟨j,h1,h2,h3,h4,h5⟩:=ziu he;have hl:z.cps.toList.length=z.length:=by simp[Str.length]
 rw[hl]at h1 h4 h5;have hn:=zgO;exact tail_any (typeIs_str s z t) slot_str_getitem.lookup (getItem_str (c:=c) (by
  have e1:decide (i < -(2 ^ 63:Int))=false:=decide_eq_false (by lia);have e2:decide (i>=2 ^ 63)=false:=decide_eq_false (by lia);rw[e1,e2,Bool.or_false]) (by rw[h1];simpa using h2) ⟨.str ⟨#[c]⟩,H,I.tok _,⟨_,rfl⟩,q⟩) hs
noncomputable def rIx (K:PySem.W.Frag):R2:=λx y H Q=>rIxL K x y H Q\/rIxT K x y H Q\/rIxS x y H Q
theorem zqP:IxR X (rIx X.K):=zkZ.or (zqN.or zqO)
theorem zgT (lo hi:Option Int)(n:Nat):(sliceBounds lo hi none n).1=((HT.sIx n 0 lo:Nat):Int)/\(sliceBounds lo hi none n).2.1=((HT.sIx n n hi:Nat):Int)/\(sliceBounds lo hi none n).2.2=1:=by
 refine⟨?_,?_,rfl⟩
 ·cases lo with
  | none=>simp[sliceBounds,HT.sIx]
  | some i=>
   simp only[sliceBounds,HT.sIx,Option.getD_none,show(1:Int) > 0 by decide,if_true];by_cases h:i<0
   ·simp only[h,if_true]<;>lia
   ·simp only[h,if_false]<;>lia
 ·cases hi with
  | none=>simp[sliceBounds,HT.sIx]
  | some i=>
   simp only[sliceBounds,HT.sIx,Option.getD_none,show(1:Int) > 0 by decide,if_true];by_cases h:i<0
   ·simp only[h,if_true]<;>lia
   ·simp only[h,if_false]<;>lia
theorem zga (its:List Value)(lo hi:Option Int):slicePick its.toArray lo hi none=((its.drop (HT.sIx its.length 0 lo)).take (HT.sIx its.length its.length hi-HT.sIx its.length 0 lo)).toArray:=by
 obtain⟨h1,h2,h3⟩:=zgT lo hi its.toArray.size;unfold slicePick;rw[h1,h2,h3];simp only[sliceRange_one,pick_run,List.size_toArray]<;>rfl
noncomputable def rSlL (K:PySem.W.Frag):V->Option Int->Option Int->Hp->VK->Prop:=λx lo hi H Q=>∃a xs,x=.ref a/\SqL K H a xs/\∀p,H p=none->Q (.ref p) (upd H p (.lst (cutV xs lo hi)))
theorem zpa:SlR X (rSlL X.K):=by
 intro pins s σ H x v vl vu lo hi sl Q I rx hs pl pu h;obtain⟨a,xs,rfl,hx,q⟩:=h;cases rx;obtain⟨its,r,ht,hz⟩:=I.list hx;have hlen:=r.length;refine⟨"list",_,slot_list_getitem.lookup,ht.isList.typeIs,?_⟩;refine wpAny_getItem_list_slice ht.isList hs pl pu .none (by simp) ?_ (by rw[List.size_toArray]<;>lia);rw[zga,<- hlen];refine⟨.ref s.heap.objs.size,_,I.laid (t':=s.toks) (o:=.lst (cutV xs lo hi)) (λb ob q=>Heap.get?_push_of_some _ q) (Nat.le_refl _) ?_,rfl,q _ (I.hok.fresh (Nat.le_refl _))⟩;exact⟨Nat.le_trans (zit xs lo hi) hz,_,0,(r.drop (HT.sIx xs.length 0 lo)).take (HT.sIx xs.length xs.length hi-HT.sIx xs.length 0 lo),Heap.get?_push_size _ rfl⟩
noncomputable def zdi:V->Bool
 | .non=>true
 | .bl _=>true
 | .int _=>true
 | .str _=>true
 | _=>false
noncomputable def eqV:V->V->Bool
 | .non,.non=>true
 | .bl a,.bl b=>a == b
 | .bl a,.int b=>(if a then 1 else 0) == b
 | .int a,.bl b=>a == (if b then 1 else 0)
 | .int a,.int b=>a == b
 | .str a,.str b=>a == b
 | _,_=>false
theorem zqQ {A:Around}{s:Shared}{y x:V}{u v:Value}(ry:RelV y u)(rx:RelV x v)(fy:zdi y=true)(fx:zdi x=true):SeqAt.EqAt A s u v (eqV y x):=by
 cases y with
 | non=>
  cases ry;cases x with
  | non=>cases rx;exact SeqAt.EqAt.same _
  | bl b=>cases rx;exact SeqAt.EqAt.none_bool b
  | int b=>obtain⟨t,rfl⟩:=rx;exact SeqAt.EqAt.none_int b t
  | str b=>obtain⟨t,rfl⟩:=rx;exact SeqAt.EqAt.none_str b t
  | _=>exact absurd (show false=true from fx) Bool.false_ne_true
 | bl a=>
  cases ry;cases x with
  | non=>cases rx;exact SeqAt.EqAt.bool_none a
  | bl b=>cases rx;exact SeqAt.EqAt.bool_bool a b
  | int b=>obtain⟨t,rfl⟩:=rx;exact SeqAt.EqAt.bool_int a b t
  | str b=>obtain⟨t,rfl⟩:=rx;exact SeqAt.EqAt.bool_str a b t
  | _=>exact absurd (show false=true from fx) Bool.false_ne_true
 | int a=>
  obtain⟨t',rfl⟩:=ry;cases x with
  | non=>cases rx;exact SeqAt.EqAt.int_none a t'
  | bl b=>cases rx;exact SeqAt.EqAt.int_bool a t' b
  | int b=>obtain⟨t,rfl⟩:=rx;exact SeqAt.EqAt.int_int a t' b t
  | str b=>obtain⟨t,rfl⟩:=rx;exact SeqAt.EqAt.int_str a t' b t
  | _=>exact absurd (show false=true from fx) Bool.false_ne_true
 | str a=>
  obtain⟨t',rfl⟩:=ry;cases x with
  | non=>cases rx;exact SeqAt.EqAt.str_none a t'
  | bl b=>cases rx;exact SeqAt.EqAt.str_bool a t' b
  | int b=>obtain⟨t,rfl⟩:=rx;exact SeqAt.EqAt.str_int a t' b t
  | str b=>obtain⟨t,rfl⟩:=rx;exact SeqAt.EqAt.str_str a t' b t
  | _=>exact absurd (show false=true from fx) Bool.false_ne_true
 | _=>exact absurd (show false=true from fy) Bool.false_ne_true
noncomputable def eqU (x:V)(u:Value):Bool:=match u with
 | .none=>eqV .non x
 | .bool b=>eqV (.bl b) x
 | .int i _=>eqV (.int i) x
 | .str z _=>eqV (.str z) x
 | _=>false
theorem zot {x y:V}{u:Value}(r:RelV y u)(f:zdi y=true):eqU x u=eqV y x:=by
 cases y with
 | non=>cases r;rfl
 | bl b=>cases r;rfl
 | int i=>obtain⟨t,rfl⟩:=r;rfl
 | str z=>obtain⟨t,rfl⟩:=r;rfl
 | _=>exact absurd (show false=true from f) Bool.false_ne_true
theorem zgb {A:Around}{s:Shared}{x:V}{v:Value}(rx:RelV x v)(fx:zdi x=true):∀ {xs:List V}{us:List Value},Vals xs us->xs.all zdi=true->∀u∈us,SeqAt.EqAt A s u v (eqU x u)
 | _,_,.nil,_=>λu hu=>by cases hu
 | y::xs,u::us,.cons r t,f=>λu' hu=>by
  rw[List.all_cons,Bool.and_eq_true]at f;rcases List.mem_cons.mp hu with rfl | hu
  ·rw[zot r f.1];exact zqQ r rx f.1 fx
  ·exact zgb rx fx t f.2 u' hu
theorem zgU:zcd X (.type "list") (λxs H Q=>∃p ys,xs=[.ref p]/\(SqL X.K H p ys\/SqT X.K H p ys)/\∀l,H l=none->Q (.ref l) (upd H l (.lst ys))):=by
 intro pins s σ H xs us Q I r h;obtain⟨p,ys,rfl,hq,q⟩:=h;obtain⟨u,rfl,rx⟩:=vals1 r;cases rx;have fin:∀(its:List Value),Vals ys its->ys.length<=sizeLine->∀(h':Heap) (c':Nat),(∀b o',s.heap.get? b=some o'->h'.get? b=some o')->
   h'.get? s.heap.objs.size=some { cls:=.type "list",dict:=none,data:=.seq its.toArray c',slots:=#[] }->EP X pins σ Q (.ref s.heap.objs.size) { s with heap:=h' }:=λits r' hz h' c' kp e=>
  ⟨.ref s.heap.objs.size,_,I.laid (t':=s.toks) kp (Nat.le_refl _) (show zaV X.prog X.w _ h' _ (.lst ys) from⟨hz,its,c',r',e⟩),rfl,q _ (I.hok.fresh (Nat.le_refl _))⟩
 rcases hq with hq | hq
 ·obtain⟨its,r',pl,hz⟩:=I.list hq;have hlen:=r'.length;obtain⟨o,ho,hc,n,hd⟩:=pl.isList;exact call_list_seq p (.inl rfl) ho hc hd (λh' c' kp e=>fin its r' hz h' c' kp e) (by simp only[List.size_toArray]<;>lia)
 ·obtain⟨its,r',pl,hz⟩:=I.tuple hq;have hlen:=r'.length;obtain⟨o,ho,hc,n,hd⟩:=pl;exact call_list_seq p (.inr rfl) ho hc hd (λh' c' kp e=>fin its r' hz h' c' kp e) (by simp only[List.size_toArray]<;>lia)
theorem zgc:zcd X (.type "tuple") (λxs H Q=>∃p ys,xs=[.ref p]/\((SqL X.K H p ys/\∀l,H l=none->Q (.ref l) (upd H l (.tup ys)))\/(SqT X.K H p ys/\Q (.ref p) H))):=by
 intro pins s σ H xs us Q I r h;obtain⟨p,ys,rfl,h⟩:=h;obtain⟨u,rfl,rx⟩:=vals1 r;cases rx;rcases h with ⟨hq,q⟩ | ⟨hq,q⟩
 ·obtain⟨its,r',pl,hz⟩:=I.list hq;have hlen:=r'.length;refine call_tuple_list pl.isList (λh' kp=>?_) (by simp only[List.size_toArray]<;>lia);have I1:Inv X pins σ H { s with heap:=h' }:=I.kept (t':=s.toks) kp;have I2:Inv X pins σ (upd H h'.objs.size (.tup ys)) { s with heap:=h'.push { cls:=.type "tuple",data:=.seq its.toArray } }:=
   I1.laid (t':=s.toks) (λb o e=>Heap.get?_push_of_some _ e) (Nat.le_refl _) (show zaV X.prog X.w _ _ _ (.tup ys) from⟨hz,its,r',zcz.new _ _⟩)
  exact⟨.ref h'.objs.size,_,I2,rfl,q _ (I1.hok.fresh (Nat.le_refl _))⟩
 ·obtain⟨its,r',pl,hz⟩:=I.tuple hq;exact call_tuple_same pl ⟨.ref p,H,I,rfl,q⟩
noncomputable def tyV (K:PySem.W.Frag)(T:String)(x:V)(H:Hp):Prop:=match x with
 | .str _=>T = "str"
 | .int _=>T = "int"
 | .ref p=>(T = "list"/\∃xs,SqL K H p xs)\/(T = "tuple"/\∃o,K.lookup p=some o/\o.cls=.type "tuple"/\o.dict=none)\/
   (T = "dict"/\((∃kvs,H p=some (.dK kvs))\/∃kvs,H p=some (.dT kvs)))\/(T = "set"/\∃S n,H p=some (.set S n))
 | _=>False
theorem zou {pins:List (Addr×Obj)}{σ:St}{H:Hp}{s:Shared}{T:String}{x:V}{v:Value}(I:Inv X pins σ H s)(r:RelV x v)(ty:tyV X.K T x H) :
  s.TypeIs v T/\∀a,v=.ref a->∃ob,s.heap.get? a=some ob/\ob.dict=none:=by
 cases x with
 | str z=>
  obtain⟨t,rfl⟩:=r;cases (show T = "str" from ty);exact⟨typeIs_str s z t,λ_ e=>nomatch e⟩
 | int i=>
  obtain⟨t,rfl⟩:=r;cases (show T = "int" from ty);exact⟨typeIs_int s i t,λ_ e=>nomatch e⟩
 | ref p=>
  cases r;rcases ty with ⟨rfl,xs,hq⟩ | ⟨rfl,o,hk,hc,hd⟩ | ⟨rfl,hk⟩ | ⟨rfl,S,n,hk⟩
  ·obtain⟨its,_,pl,_⟩:=I.list hq;refine⟨pl.isList.typeIs,λa e=>?_⟩;cases e;obtain⟨o,n,e,c,hd,_⟩:=pl;exact⟨o,e,hd⟩
  ·refine⟨⟨o,I.kIn p o hk,hc⟩,λa e=>?_⟩;cases e;exact⟨o,I.kIn _ o hk,hd⟩
  ·have z:∃o,s.heap.get? p=some o/\o.ExactDict:=by
    rcases hk with ⟨kvs,hk⟩ | ⟨kvs,hk⟩
    ·obtain⟨_,_,_,_,o,_,_,e,ex,_⟩:=I.hok p _ hk;exact⟨o,e,ex⟩
    ·obtain⟨_,_,_,_,o,_,_,e,ex,_⟩:=I.hok p _ hk;exact⟨o,e,ex⟩
   obtain⟨o,e,ex⟩:=z;refine⟨⟨o,e,ex.1⟩,λa e2=>?_⟩;cases e2;exact⟨o,e,ex.2.1⟩
  ·obtain⟨o,_,_,_,e,ex,_⟩:=I.hok p _ hk;refine⟨⟨o,e,ex.1⟩,λa e2=>?_⟩;cases e2;exact⟨o,e,ex.2.1⟩
 | _=>exact False.elim ty
noncomputable def tBM0 (K:PySem.W.Frag)(T:String)(r:V->List V->Hp->VK->Prop)(to:TE):TE:=λσ H Q=>to σ H λx H1=>tyV K T x H1/\r x [] H1 Q
noncomputable def tBM (K:PySem.W.Frag)(T:String)(r:V->List V->Hp->VK->Prop)(to:TE)(t:TA):TE:=λσ H Q=>to σ H λx H1=>tyV K T x H1/\t σ H1 λxs H2=>r x xs H2 Q
variable {o e:Expr}{es:List Expr}{to:TE}{t:TA}{name:Str}{apos cpos:Pos}{T id:String}{r:V->List V->Hp->VK->Prop}
theorem zqR (pa:PlainAttrs T)(slot:Slot T name id)(hty:typeOf (.builtin id)=pure (.type "method_descriptor")) (hm:MtR X id r) (ho:PE X o to)
  (hbase:attributeBase o name X.env (eval o X.env)=eval o X.env:=by rfl) (hline:(apos.endLine == cpos.line)=true:=by rfl):PE X (.Call (.Attribute o name apos) [] [] cpos) (tBM0 X.K T r to):=by
 intro pins s σ H Q I h;refine wpAny_Call_method0_late hbase hline (thn (ho pins s σ H _ I h) λv s1 ⟨x,H1,I1,r1,ty,q1⟩=>?_);obtain⟨h1,h2⟩:=zou I1 r1 ty;exact⟨T,id,pa,slot,hty,h1,h2,Calls.callWith_builtin rfl (PySem.evalArgs_none (hm pins s1 σ H1 x [] v [] Q I1 r1 .nil q1))⟩
theorem zks (pa:PlainAttrs T)(slot:Slot T name id)(hty:typeOf (.builtin id)=pure (.type "method_descriptor")) (hm:MtR X id r) (ho:PE X o to) (ha:PA X (e::es) t)
  (hbase:attributeBase o name X.env (eval o X.env)=eval o X.env:=by rfl)
  (hfew:((backTo cpos (starEach (e::es) X.env)).all (λx=>!x.1)&&(backToKw cpos (keywordEach [] X.env)).all (λx=>x.1.isSome)
   && decide ((e::es).length+([]:List Keyword).length+(if ([]:List Keyword).isEmpty then 0 else 1)<30))=true:=by rfl)
  (hline:(apos.endLine == cpos.line)=true:=by rfl) (hs:starEach (e::es) X.env=(false,eval e X.env)::starEach es X.env:=by rfl) (hplain:(backTo cpos (starEach es X.env)).any (·.1)=false:=by rfl) :
  PE X (.Call (.Attribute o name apos) (e::es) [] cpos) (tBM X.K T r to t):=by
 intro pins s σ H Q I h;refine wpAny_Call_method_late hbase hfew hline rfl (thn (ho pins s σ H _ I h) λv s1 ⟨x,H1,I1,r1,ty,q1⟩=>?_);obtain⟨h1,h2⟩:=zou I1 r1 ty;refine⟨T,id,pa,slot,hty,h1,h2,?_⟩;have hA:=ha cpos pins s1 σ H1 _ I1 q1;rw[hs]at hA ⊢;refine Calls.callWith_builtin (by show(false||(backTo cpos (starEach es X.env)).any (·.1))=false;rw[hplain]<;>rfl) (Calls.evalArgs_plain ?_)
 exact thn hA λus s2 ⟨vs,H2,I2,r2,q2⟩=>hm pins s2 σ H2 x vs v us Q I2 r1 r2 q2
end
noncomputable def MtM (X:Cx)(id:String)(r:V->List V->Hp->VK->Prop):Prop:=
 ∀(pins:List (Addr×Obj)) (s:Shared) (σ:St) (H:Hp) (x:V) (xs:List V) (v:Value) (us:List Value) (Q:VK),Inv X pins σ H s->RelV x v->Vals xs us->r x xs H Q->
  wpAny (model X.prog X.w) X.A (call (.builtin id) (v::us)) (EP X pins σ Q) X.xe s
theorem Vals.one:∀ {x:V}{us:List Value},Vals [x] us->∃u,us=[u]/\RelV x u
 | _,_,.cons r .nil=>⟨_,rfl,r⟩
theorem Vals.eraseIdx:∀ {xs:List V}{us:List Value}(i:Nat),Vals xs us->Vals (xs.eraseIdx i) (us.eraseIdx i)
 | _,_,_,.nil=>.nil
 | _,_,0,.cons _ t=>t
 | _,_,i+1,.cons r t=>.cons r (Vals.eraseIdx i t)
theorem zgV {α:Type}:∀(l:List α)(i:Nat),(l.eraseIdx i).length<=l.length
 | [],_=>Nat.le_refl _
 | _::_,0=>Nat.le_succ _
 | _::r,i+1=>Nat.succ_le_succ (zgV r i)
section
variable {X:Cx}{pins:List (Addr×Obj)}{σ:St}{H:Hp}{s:Shared}{l b:Addr}{xs ys zs:List V}
theorem Inv.lset {its its':List Value}{n:Nat}{f:Array Value->Array Value}{t':Nat}(I:Inv X pins σ H s)(hH:H l=some (.lst xs))
  (e:s.heap.get? l=some { cls:=.type "list",data:=.seq its.toArray n }) (hf:f its.toArray=its'.toArray) (hv:Vals ys its') (hz:ys.length<=sizeLine) :
  Inv X pins σ (upd H l (.lst ys)) { s with heap:=s.heap.update l (Obj.mapSeq f),toks:=t' }:=by
 have q:=PySem.IsL.update e f;rw[hf]at q;refine I.write (x:=l) (e:=l) (by rw[hH];exact trivial) (.inl rfl) (λb' u hb hu=>(Heap.get?_update_other s.heap (Obj.mapSeq f) (Ne.symm hb)).trans hu) ⟨_,q⟩ ?_;exact⟨hz,its',_,hv,q⟩
theorem Inv.lnew {its:List Value}{t':Nat}(I:Inv X pins σ H s)(hv:Vals ys its)(hz:ys.length<=sizeLine) :
  Inv X pins σ (upd H s.heap.objs.size (.lst ys)) { s with heap:=s.heap.push { cls:=.type "list",data:=.seq its.toArray },toks:=t' }:=
 I.laid (λ_ _ q=>Heap.get?_push_of_some _ q) (Nat.le_refl _) ⟨hz,its,0,hv,Heap.get?_push_size _ rfl⟩
theorem Inv.fresh (I:Inv X pins σ H s):H s.heap.objs.size=none:=I.hok.fresh (Nat.le_refl _)
theorem Inv.lstM (I:Inv X pins σ H s)(hH:H l=some (.lst xs)):xs.length<=sizeLine/\∃(its:List Value)(n:Nat),Vals xs its/\xs.length=its.length/\s.heap.get? l=some { cls:=.type "list",data:=.seq its.toArray n }:=by
 obtain⟨z,its,n,r,e⟩:=I.hok l _ hH;exact⟨z,its,n,r,r.length,e⟩
theorem zje {n:Nat}(h:n<=sizeLine):Builtin.List.listTooLong n=false:=by
 unfold Builtin.List.listTooLong;exact decide_eq_false (by lia)
end
section
variable {X:Cx}
noncomputable def zpb:V->List V->Hp->VK->Prop:=λx vs H Q=>∃l xs y,x=.ref l/\vs=[y]/\H l=some (.lst xs)/\xs.length<sizeLine/\Q .non (upd H l (.lst (xs++[y])))
theorem zdj:MtM X "list.append" zpb:=by
 intro pins s σ H x vs v us Q I rx rv h;obtain⟨l,xs,y,rfl,rfl,hH,hz,q⟩:=h;cases rx;obtain⟨u,rfl,ru⟩:=rv.one;obtain⟨z,its,n,r,hl,e⟩:=I.lstM hH;refine call_meets F.slot_list_append ⟨_,e,rfl⟩ F.entry_list_append (F.args_list_append_2 _ _) (PySem.list_append l its.toArray n u (by rw[List.size_toArray];lia)) ⟨e,?_⟩;refine⟨.non,_,I.lset (its':=its++[u]) hH e (by simp) (r.append (.cons ru .nil)) ?_,rfl,q⟩;rw[List.length_append,List.length_singleton];lia
noncomputable def zpc:V->List V->Hp->VK->Prop:=λx vs H Q=>∃l b xs zs,x=.ref l/\vs=[.ref b]/\H l=some (.lst xs)/\H b=some (.lst zs)/\xs.length+zs.length<=sizeLine/\Q .non (upd H l (.lst (xs++zs)))
theorem zla:MtM X "list.extend" zpc:=by
 intro pins s σ H x vs v us Q I rx rv h;obtain⟨l,b,xs,zs,rfl,rfl,hH,hB,hz,q⟩:=h;cases rx;obtain⟨u,rfl,ru⟩:=rv.one;cases ru;obtain⟨z,its,n,r,hl,e⟩:=I.lstM hH;obtain⟨z2,its2,n2,r2,hl2,e2⟩:=I.lstM hB;have hsz:its.toArray.size+its2.toArray.size<=sizeLine:=by rw[List.size_toArray,List.size_toArray];lia
 have hlong:¬ (!its.toArray.isEmpty&&Builtin.List.listTooLong (its.toArray.size+its2.toArray.size))=true:=by
  rw[zje hsz,Bool.and_false];exact Bool.false_ne_true
 refine call_meets F.slot_list_extend ⟨_,e,rfl⟩ F.entry_list_extend (F.args_list_extend_2 _ _)
  (AutoSeq1.list_extend_list_list_0 l its.toArray n b its2.toArray n2 hlong (by rw[List.size_toArray];lia) (by lia)) ⟨e,e2,?_⟩
 refine⟨.non,_,I.lset (its':=its++its2) hH e (by simp) (r.append r2) ?_,rfl,q⟩;rw[List.length_append];lia
noncomputable def zqS:V->List V->Hp->VK->Prop:=λx vs H Q=>∃l xs i k y,x=.ref l/\vs=[.int i]/\H l=some (.lst xs)/\-(2 ^ 63)<=i/\i<2 ^ 63/\seqIndex? i xs.length=some k/\xs[k]? = some y/\Q y (upd H l (.lst (xs.eraseIdx k)))
theorem zni:MtM X "list.pop" zqS:=by
 intro pins s σ H x vs v us Q I rx rv h;obtain⟨l,xs,i,k,y,rfl,rfl,hH,h1,h2,hk,hy,q⟩:=h;cases rx;obtain⟨u,rfl,ru⟩:=rv.one;obtain⟨t,rfl⟩:=ru;obtain⟨z,its,n,r,hl,e⟩:=I.lstM hH;obtain⟨w,hw,rw'⟩:=r.get hy;refine call_meets F.slot_list_pop ⟨_,e,rfl⟩ F.entry_list_pop (F.args_list_pop_2 _ _)
  (MeetsSeq.list_pop_at l its.toArray n i t k w (fitsIndex_both h1 h2) (by rw[List.size_toArray,<- hl];exact hk) (by rw[<- Array.getElem?_toList];exact hw) (by rw[List.size_toArray];lia)) ⟨e,?_⟩
 refine⟨y,_,I.lset (its':=its.eraseIdx k) hH e ?_ (r.eraseIdx k) ?_,rw',q⟩
 ·show its.toArray.eraseIdxIfInBounds k=(its.eraseIdx k).toArray;rw[List.eraseIdxIfInBounds_toArray]
 ·have:=zgV xs k;lia
end
section
variable {κ:Type} [DecidableEq κ]
noncomputable def valV (kvs:List (κ×V))(k:κ):Option V:=(kvs.find? λkv=>decide (kv.1=k)).map (·.2)
noncomputable def putK (kvs:List (κ×V))(k:κ)(v:V):List (κ×V):=
 if (kvs.any λkv=>decide (kv.1=k))=true then kvs.map (λkv=>if kv.1=k then(kv.1,v) else kv) else kvs++[(k,v)]
theorem zgd {p:κ×V}{r:List (κ×V)}{k:κ}(e:p.1=k):valV (p::r) k=some p.2:=by simp[valV,List.find?_cons,e]
theorem zge {p:κ×V}{r:List (κ×V)}{k:κ}(e:¬ p.1=k):valV (p::r) k=valV r k:=by simp[valV,List.find?_cons,e]
theorem zjf (k:κ):∀kvs:List (κ×V),(kvs.any λkv=>decide (kv.1=k))=(valV kvs k).isSome
 | []=>rfl
 | p::r=>by
  rw[List.any_cons];by_cases e:p.1=k
  ·simp only[zgd e,decide_eq_true e,Bool.true_or,Option.isSome_some]
  ·rw[zge e,decide_eq_false e,Bool.false_or];exact zjf k r
theorem zcY (kvs:List (κ×V))(k:κ)(v:V):(putK kvs k v).length<=kvs.length+1:=by
 unfold putK;split
 ·rw[List.length_map];lia
 ·rw[List.length_append,List.length_cons,List.length_nil];lia
theorem RelO.zeX {o:Option V}{u:Option Value}(r:RelO o u):o.isSome=u.isSome:=by
 cases o with
 | none=>cases u with
  | none=>rfl
  | some _=>exact(show False from r).elim
 | some _=>cases u with
  | none=>exact(show False from r).elim
  | some _=>rfl
theorem RelO.getD {o:Option V}{u:Option Value}{d:V}{d':Value}(r:RelO o u)(rd:RelV d d'):RelV (o.getD d) (u.getD d'):=by
 cases o with
 | none=>cases u with
  | none=>exact rd
  | some _=>exact(show False from r).elim
 | some _=>cases u with
  | none=>exact(show False from r).elim
  | some _=>exact r
theorem KV.val {kvs:List (κ×V)}{vs:List (κ×Value)}(r:KV kvs vs)(k:κ):RelO (valV kvs k) (valueAt vs k):=by
 unfold KV at r;induction r with
 | nil=>exact True.intro
 | @cons p q ps qs h t ih=>
  obtain⟨h1,h2⟩:=h;by_cases e:p.1=k
  ·have e':q.1=k:=h1.symm.trans e;have b:valueAt (q::qs) k=some q.2:=by simp[valueAt,List.find?_cons,e']
   rw[zgd e,b];exact h2
  ·have e':¬ q.1=k:=λz=>e (h1.trans z);have b:valueAt (q::qs) k=valueAt qs k:=by simp[valueAt,List.find?_cons,e']
   rw[zge e,b];exact ih
theorem KV.any {kvs:List (κ×V)}{vs:List (κ×Value)}(r:KV kvs vs)(k:κ):(kvs.any λkv=>decide (kv.1=k))=vs.any λkv=>decide (kv.1=k):=by
 unfold KV at r;induction r with
 | nil=>rfl
 | cons h t ih=>rw[List.any_cons,List.any_cons,ih,h.1]
theorem KV.repl {kvs:List (κ×V)}{vs:List (κ×Value)}(r:KV kvs vs)(k:κ){y:V}{u:Value}(ry:RelV y u) :
  KV (kvs.map λkv=>if kv.1=k then(kv.1,y) else kv) (vs.map λkv=>if kv.1=k then(kv.1,u) else kv):=by
 unfold KV at r ⊢;induction r with
 | nil=>exact .nil
 | @cons p q ps qs h t ih=>
  rw[List.map_cons,List.map_cons];refine .cons ?_ ih;obtain⟨h1,h2⟩:=h;by_cases e:p.1=k
  ·rw[if_pos e,if_pos (h1.symm.trans e)];exact⟨h1,ry⟩
  ·rw[if_neg e,if_neg (λz=>e (h1.trans z))];exact⟨h1,h2⟩
theorem KV.put {kvs:List (κ×V)}{vs:List (κ×Value)}(r:KV kvs vs)(k:κ){y:V}{u:Value}(ry:RelV y u):KV (putK kvs k y) (stored vs k u):=by
 unfold putK stored;rw[r.any k];by_cases e:(vs.any λkv=>decide (kv.1=k))=true
 ·rw[if_pos e,if_pos e];exact r.repl k ry
 ·rw[if_neg e,if_neg e];exact Paired.snoc r ⟨rfl,ry⟩
theorem KV.length {kvs:List (κ×V)}{vs:List (κ×Value)}(r:KV kvs vs):kvs.length=vs.length:=Paired.length r
end
theorem znj {P:Program}{w:World}{k:Key}{u:Value}(r:RelV (kV k) u):(zay P w).is k u=true:=by
 cases k with
 | inl i=>obtain⟨t,e⟩:=(show ∃t,u=Value.int i t from r);subst e;exact zin P w i t
 | inr x=>obtain⟨t,e⟩:=(show ∃t,u=Value.str x t from r);subst e;exact zio P w x t
theorem zgW {P:Program}{w:World}:∀ {ks:List Key}{us:List Value},Vals (ks.map kV) us->ItemsAre (zay P w) ks us
 | [],_,r=>by rw[List.map_nil]at r;cases r;exact .nil
 | k::ks,_,r=>by
  rw[List.map_cons]at r;cases r with
  | cons h t=>exact .cons (znj h) (zgW t)
noncomputable abbrev KT (H:Hp):List (List Key×V)->List (List Key×Addr×Value)->Prop:=Paired λp q=>p.1=q.1/\H q.2.1=some (.tup (p.1.map kV))/\RelV p.2 q.2.2
theorem KT.val {H:Hp}{kvs:List (List Key×V)}{xs:List (List Key×Addr×Value)}(r:KT H kvs xs)(k:List Key):RelO (valV kvs k) ((atKey xs k).map (·.2)):=by
 induction r with
 | nil=>exact True.intro
 | @cons p q ps qs h t ih=>
  obtain⟨h1,_,h2⟩:=h;by_cases e:p.1=k
  ·have e':q.1=k:=h1.symm.trans e;have b:atKey (q::qs) k=some q.2:=by simp[atKey,List.find?_cons,e']
   rw[zgd e,b];exact h2
  ·have e':¬ q.1=k:=λz=>e (h1.trans z);have b:atKey (q::qs) k=atKey qs k:=by simp[atKey,List.find?_cons,e']
   rw[zge e,b];exact ih
theorem KT.repl {H:Hp}{kvs:List (List Key×V)}{xs:List (List Key×Addr×Value)}(r:KT H kvs xs)(k:List Key){y:V}{u:Value}(ry:RelV y u) :
  KT H (kvs.map λkv=>if kv.1=k then(kv.1,y) else kv) (xs.map (putAt k u)):=by
 induction r with
 | nil=>exact .nil
 | @cons p q ps qs h t ih=>
  rw[List.map_cons,List.map_cons];refine .cons ?_ ih;obtain⟨h1,h2,h3⟩:=h;unfold putAt;by_cases e:p.1=k
  ·rw[if_pos e,if_pos (h1.symm.trans e)];exact⟨h1,h2,ry⟩
  ·rw[if_neg e,if_neg (λz=>e (h1.trans z))];exact⟨h1,h2,h3⟩
theorem KT.put {H:Hp}{kvs:List (List Key×V)}{xs:List (List Key×Addr×Value)}(r:KT H kvs xs)(k:List Key){b:Addr}{y:V}{u:Value}(hb:H b=some (.tup (k.map kV)))(ry:RelV y u) :
  KT H (putK kvs k y) (storedH xs k b u):=by
 have e:(kvs.any λkv=>decide (kv.1=k))=(atKey xs k).isSome:=by
  rw[zjf,(r.val k).zeX,Option.isSome_map]
 unfold putK storedH;rw[e];by_cases q:(atKey xs k).isSome=true
 ·rw[if_pos q,if_pos q];exact r.repl k ry
 ·rw[if_neg q,if_neg q];exact Paired.snoc r ⟨rfl,hb,ry⟩
theorem KT.keeps {H H':Hp}{kvs:List (List Key×V)}{xs:List (List Key×Addr×Value)}(r:KT H kvs xs)(ht:∀b ys,H b=some (.tup ys)->H' b=some (.tup ys)):KT H' kvs xs:=
 Paired.mapP r λ_ _ z=>⟨z.1,ht _ _ z.2.1,z.2.2⟩
section
variable {P:Program}{w:World}{H:Hp}{h:Heap}{a:Addr}
theorem zqT {u:HO}(ok:HOk P w H h)(e:Rd H a u):zaV P w H h a u:=e.ok ok
theorem zfz {kvs:List (Key×V)}(ok:HOk P w H h)(e:Rd H a (.dK kvs)):kvs.length<=sizeLine/\(a == sysModules)=false/\∃vs,KV kvs vs/\h.DictOf (zay P w) a vs:=
 show zaV P w H h a (.dK kvs) from zqT ok e
theorem zsO {kvs:List (Key×V)}(ok:HOk P w H h)(e:H a=some (.dK kvs)):kvs.length<=sizeLine/\(a == sysModules)=false/\∃vs,KV kvs vs/\h.DictOf (zay P w) a vs:=zfz ok (.inl e)
theorem zgX {ks:List Key}(ok:HOk P w H h)(e:H a=some (.tup (ks.map kV))):(tupleKind (zay P w)).is h ks a:=by
 obtain⟨_,its,r,o,h1,h2,⟨n,h3⟩,_⟩:=(show zaV P w H h a (.tup (ks.map kV)) from ok a _ e);exact⟨o,its.toArray,n,h1,h2,h3,by simpa using zgW r⟩
theorem zlb {kvs:List (List Key×V)}(ok:HOk P w H h)(e:Rd H a (.dT kvs)):kvs.length<=sizeLine/\(a == sysModules)=false/\
  ∃xs,KT H kvs xs/\h.DictOfH (tupleKind (zay P w)) a xs:=by
 obtain⟨z,y,xs,r,o,es,ep,h1,h2,h3,h4,h5⟩:=(show zaV P w H h a (.dT kvs) from zqT ok e);refine⟨z,y,xs,r,o,es,ep,h1,h2,h3,h4,λx hx=>?_,h5⟩;have all:∀ {l:List (List Key×V)} {m:List (List Key×Addr×Value)},KT H l m->∀x∈m,(tupleKind (zay P w)).is h x.1 x.2.1:=by
  intro l m q;induction q with
  | nil=>intro x hx;exact nomatch hx
  | @cons p q ps qs hq t ih=>
   intro x hx;rcases List.mem_cons.mp hx with e | hx
   ·subst e;exact zgX ok (by rw[<- hq.1];exact hq.2.1)
   ·exact ih x hx
 exact all r x hx
theorem zqU {kvs:List (List Key×V)}(ok:HOk P w H h)(e:H a=some (.dT kvs)):kvs.length<=sizeLine/\(a == sysModules)=false/\
  ∃xs,KT H kvs xs/\h.DictOfH (tupleKind (zay P w)) a xs:=zlb ok (.inl e)
end
noncomputable def DGet (H:Hp)(a:Addr)(y:V)(r:Option V):Prop:=
 (∃kvs k,Rd H a (.dK kvs)/\y=kV k/\r=valV kvs k)\/∃kvs k b,Rd H a (.dT kvs)/\y=.ref b/\H b=some (.tup (k.map kV))/\r=valV kvs k
noncomputable def DPut (H:Hp)(a:Addr)(y v:V)(H':Hp):Prop:=
 (∃kvs k,H a=some (.dK kvs)/\y=kV k/\kvs.length<sizeLine/\H'=upd H a (.dK (putK kvs k v)))\/
 ∃kvs k b,H a=some (.dT kvs)/\y=.ref b/\H b=some (.tup (k.map kV))/\kvs.length<sizeLine/\H'=upd H a (.dT (putK kvs k v))
theorem DPut.k {H:Hp}{a:Addr}{kvs:List (Key×V)}{k:Key}{v:V}(e:H a=some (.dK kvs))(hl:kvs.length<sizeLine):DPut H a (kV k) v (upd H a (.dK (putK kvs k v))):=.inl ⟨kvs,k,e,rfl,hl,rfl⟩
section
variable {X:Cx}{pins:List (Addr×Obj)}{σ:St}{H:Hp}{s:Shared}{a:Addr}{y v:V}{u r:Value}{o:Option V}{A:Around}{E:Value->Shared->Prop}
theorem Inv.big (I:Inv X pins σ H s):sysModules<s.heap.objs.size:=by
 have h:mainGlobals<s.heap.objs.size:=(I.mod.glob.keeps I.bk).lt;exact Nat.lt_trans (by decide) h
theorem d_in {Q:Value->Shared->Prop}(hu:A.units+1<cLine)(I:Inv X pins σ H s)(g:DGet H a y o)(ry:RelV y u)(h:∀s',Inv X pins σ H s'->Q (.bool o.isSome) s') :
  wpAny (model X.prog X.w) A (compareOp .In u (.ref a)) Q E s:=by
 rcases g with ⟨kvs,k,e,ey,l⟩ | ⟨kvs,k,b,e,ey,eb,l⟩
 ·subst ey;obtain⟨z,hd,vs,rel,dd⟩:=zfz I.hok e;refine wpAny_in_of (znj ry) hd dd.mapOf ?_;rw[<- (rel.val k).zeX,<- l];exact h _ (I.tok _)
 ·subst ey;cases (show u=Value.ref b from ry);obtain⟨z,hd,xs,rel,dd⟩:=zlb I.hok e;refine wpAny_in_heap (tupleKind_room_in1 hu) (zgX I.hok eb) hd dd ?_;have q:=(rel.val k).zeX;rw[Option.isSome_map]at q;rw[<- q,<- l];exact h _ (I.tok _)
theorem ziv {h':Heap}{t':Nat}{ob:HO}(I:Inv X pins σ H s)(mu:Mut (H a))(hs:Heap.SameBut a s.heap h')(he:∃q,h'.get? a=some q)(new:zaV X.prog X.w (upd H a ob) h' a ob) :
  Inv X pins σ (upd H a ob) { s with heap:=h',toks:=t' }:=
 I.write (x:=a) (e:=a) mu (.inl rfl) (λb q hb z=>(hs.2 b hb).trans z) he new
theorem zqV {P:Program}{w:World}{H':Hp}{h':Heap}{kvs:List (Key×V)}{vs:List (Key×Value)}(z:kvs.length<=sizeLine)(hd:(a == sysModules)=false)(rel:KV kvs vs)(dd:h'.DictOf (zay P w) a vs) :
  zaV P w H' h' a (.dK kvs):=⟨z,hd,vs,rel,dd⟩
theorem zlc {H':Hp}{Q:Unit->Shared->Prop}(hu:A.units+1<cLine)(I:Inv X pins σ H s)(g:DPut H a y v H')(ry:RelV y u)(rv:RelV v r)(h:∀s',Inv X pins σ H' s'->Q () s') :
  wpAny (model X.prog X.w) A (setItem (.ref a) u r) Q E s:=by
 rcases g with ⟨kvs,k,e,ey,l,eH⟩ | ⟨kvs,k,b,e,ey,eb,l,eH⟩
 ·subst ey eH;obtain⟨z,hd,vs,rel,dd⟩:=zsO I.hok e;have hz:vs.length<=sizeLine:=by rw[<- rel.length];exact z
  have hl:(putK kvs k v).length<=sizeLine:=by have:=zcY kvs k v;lia
  refine wpAny_setItem_pairs (hsz:=hz) (znj ry) dd λh' dd' hs=>h _ ?_;have he:∃q,h'.get? a=some q:=let ⟨q,_,_,hq,_⟩:=dd';⟨q,hq⟩;exact ziv I (by rw[e];exact True.intro) hs he (zqV hl hd (rel.put k rv) dd')
 ·subst ey eH;cases (show u=Value.ref b from ry);obtain⟨z,hd,xs,rel,dd⟩:=zqU I.hok e;have hz:xs.length<=sizeLine:=by rw[<- Paired.length rel];exact z
  have hl:(putK kvs k v).length<=sizeLine:=by have:=zcY kvs k v;lia
  refine wpAny_setItem_heap (hsz:=hz) (tupleKind_room_in1 hu) (zgX I.hok eb) dd λh' dd' hs=>h _ ?_;obtain⟨q,es,ep,hq,h2,h3,h4,_,h5⟩:=dd';refine ziv I (by rw[e];exact True.intro) hs ⟨q,hq⟩ ⟨hl,hd,_,(rel.put k eb rv).keeps λc ys ec=>?_,q,es,ep,hq,h2,h3,h4,h5⟩;rw[zaf (zqm ec e (λz=>nomatch z))];exact ec
end
section
variable {X:Cx}{pins:List (Addr×Obj)}{σ:St}{H:Hp}{s:Shared}{a:Addr}{kvs:List (Key×V)}{k:Key}{u:Value}{A:Around}{E:Value->Shared->Prop}
theorem zsP {Q:Value->Shared->Prop}(I:Inv X pins σ H s)(e:Rd H a (.dK kvs))(h:∀t s',Inv X pins σ H s'->Q (.int kvs.length t) s'):wpAny (model X.prog X.w) A (call (.builtin "len") [.ref a]) Q E s:=by
 obtain⟨z,hd,vs,rel,dd⟩:=zfz I.hok e;refine call_len_dict hd dd (by rw[<- rel.length];rw[sizeLine_eq]at z;lia) ?_;rw[<- rel.length];exact h _ _ (I.tok _)
end
noncomputable def tDIn (ty td:TE):TE:=λσ H Q=>ty σ H λy H1=>td σ H1 λx H2=>∃a o,x=.ref a/\DGet H2 a y o/\Q (.bl o.isSome) H2
noncomputable def zqW (td ty tv:TE):TS:=λD σ H=>tv σ H λv H1=>td σ H1 λx H2=>ty σ H2 λy H3=>∃a H4,x=.ref a/\DPut H3 a y v H4/\D.nx σ H4
section
variable {X:Cx}{o i e value:Expr}{pos pos' tpos:Pos}{td ty tv:TE}
theorem zqX (hu:X.A.units+1<cLine)(hi:PE X i ty)(ho:PE X o td):PC X .In i o (tDIn ty td):=by
 intro pins s σ H Q I h;refine thn (hi pins s σ H _ I h) λiv s1 ⟨y,H1,I1,ry,q1⟩=>thn (ho pins s1 σ H1 _ I1 q1) λu s2 ⟨x,H2,I2,rx,a,ov,ex,g,q2⟩=>?_;subst ex;obtain rfl:u=Value.ref a:=rx;exact d_in hu I2 g ry λs3 I3=>⟨.bl ov.isSome,H2,I3,rfl,q2⟩
theorem zld (hu:X.A.units+1<cLine)(ho:PE X o td)(hi:PE X i ty)(hv:PE X value tv)(hs:swapsWith value (some (.Subscript o i pos')) pos.line X.env=pure false) :
  PS X (.Assign [.Subscript o i pos'] value pos) (zqW td ty tv):=by
 intro pins s σ H D I h;refine wpAny_Assign_Subscript (thn (hv pins s σ H _ I h) λr s1 ⟨v,H1,I1,rv,q1⟩=>thn (ho pins s1 σ H1 _ I1 q1) λu s2 ⟨x,H2,I2,rx,q2⟩=>thn (hi pins s2 σ H2 _ I2 q2) λiv s3 ⟨y,H3,I3,ry,a,H4,ex,g,q3⟩=>?_) hs;subst ex;obtain rfl:u=Value.ref a:=rx;exact zlc hu I3 g ry rv λs4 I4=>⟨σ,H4,I4,q3⟩
end
theorem znk {P:Program}{w:World}{H:Hp}(h:Heap)(hb:sysModules<h.objs.size):zaV P w H (h.push { cls:=.type "dict",data:=.dict #[] }) h.objs.size (.dK []):=
 ⟨Nat.zero_le _,beq_eq_false_iff_ne.mpr (Ne.symm (Nat.ne_of_lt hb)),[],.nil,Heap.DictOf.new h⟩
theorem znl {P:Program}{w:World}{H:Hp}(h:Heap)(hb:sysModules<h.objs.size):zaV P w H (h.push { cls:=.type "dict",data:=.dict #[] }) h.objs.size (.dT []):=
 ⟨Nat.zero_le _,beq_eq_false_iff_ne.mpr (Ne.symm (Nat.ne_of_lt hb)),[],.nil,_,#[],0,Heap.get?_push_size _ rfl,⟨rfl,rfl,rfl⟩,rfl,rfl,List.nodup_nil⟩
noncomputable def zqY:TE:=λ_ H Q=>∀p,H p=none->Q (.ref p) (upd H p (.dK []))
noncomputable def zqZ:TE:=λ_ H Q=>∀p,H p=none->Q (.ref p) (upd H p (.dT []))
section
variable {X:Cx}{pos:Pos}
theorem zjg:PE X (.Dict [] [] pos) zqY:=λpins s σ H Q I h=>
 wpAny_Dict_empty ⟨.ref s.heap.objs.size,_,I.laid (a:=s.heap.objs.size) (o:=.dK []) (t':=s.toks) (λ_ _ q=>Heap.get?_push_of_some _ q) (Nat.le_refl _) (znk s.heap I.big),rfl,h _ (I.hok.fresh (Nat.le_refl _))⟩
theorem znm:PE X (.Dict [] [] pos) zqZ:=λpins s σ H Q I h=>
 wpAny_Dict_empty ⟨.ref s.heap.objs.size,_,I.laid (a:=s.heap.objs.size) (o:=.dT []) (t':=s.toks) (λ_ _ q=>Heap.get?_push_of_some _ q) (Nat.le_refl _) (znl s.heap I.big),rfl,h _ (I.hok.fresh (Nat.le_refl _))⟩
end
structure M1 (X:Cx)(o:Expr)(m:Str)(apos:Pos)(e:Expr)(cpos:Pos):Prop where
 base:attributeBase o m X.env (eval o X.env)=eval o X.env
 few:((backTo cpos (starEach [e] X.env)).all (λx=>!x.1)&&(backToKw cpos (keywordEach [] X.env)).all (λx=>x.1.isSome)
  && decide (([e]:List Expr).length+([]:List Keyword).length+(if ([]:List Keyword).isEmpty then 0 else 1)<30))=true
 line:(apos.endLine == cpos.line)=true
 trees:backTo cpos (starEach [e] X.env)=[(false,eval e X.env)]
structure M2 (X:Cx)(o:Expr)(m:Str)(apos:Pos)(e f:Expr)(cpos:Pos):Prop where
 base:attributeBase o m X.env (eval o X.env)=eval o X.env
 few:((backTo cpos (starEach [e,f] X.env)).all (λx=>!x.1)&&(backToKw cpos (keywordEach [] X.env)).all (λx=>x.1.isSome)
  && decide (([e,f]:List Expr).length+([]:List Keyword).length+(if ([]:List Keyword).isEmpty then 0 else 1)<30))=true
 line:(apos.endLine == cpos.line)=true
 trees:backTo cpos (starEach [e,f] X.env)=[(false,eval e X.env),(false,eval f X.env)]
noncomputable def IsD (H:Hp)(a:Addr):Prop:=(∃kvs,Rd H a (.dK kvs))\/∃kvs,Rd H a (.dT kvs)
theorem zov {X:Cx}{pins:List (Addr×Obj)}{σ:St}{H:Hp}{s:Shared}{a:Addr}(I:Inv X pins σ H s)(d:IsD H a) :
  s.TypeIs (.ref a) "dict"/\(∀b,Value.ref a=.ref b->∃ob,s.heap.get? b=some ob/\ob.dict=none)/\(a == sysModules)=false:=by
 rcases d with ⟨kvs,e⟩ | ⟨kvs,e⟩
 ·obtain⟨_,hd,vs,_,dd⟩:=zfz I.hok e;refine⟨dd.typeIs,λb q=>?_,hd⟩;cases q;obtain⟨ob,_,_,h1,h2,_⟩:=dd;exact⟨ob,h1,h2.2.1⟩
 ·obtain⟨_,hd,xs,_,dd⟩:=zlb I.hok e;refine⟨dd.typeIs,λb q=>?_,hd⟩;cases q;obtain⟨ob,_,_,h1,h2,_⟩:=dd;exact⟨ob,h1,h2.2.1⟩
section
variable {X:Cx}{pins:List (Addr×Obj)}{σ:St}{H:Hp}{s:Shared}{a:Addr}{y d:V}{u r:Value}{o:Option V}{A:Around}{E:Value->Shared->Prop}
theorem zra {Q:Value->Shared->Prop}(hu:A.units+1<cLine)(I:Inv X pins σ H s)(g:DGet H a y o)(ry:RelV y u)(rd:RelV d r)(h:∀w' s',Inv X pins σ H s'->RelV (o.getD d) w'->Q w' s') :
  wpAny (model X.prog X.w) A (call (.builtin "dict.get") [.ref a,u,r]) Q E s:=by
 rcases g with ⟨kvs,k,e,ey,l⟩ | ⟨kvs,k,b,e,ey,eb,l⟩
 ·subst ey;obtain⟨z,hd,vs,rel,dd⟩:=zfz I.hok e;refine call_meetsIn PySem.F.slot_dict_get dd.typeIs PySem.F.entry_dict_get (PySem.F.args_dict_get_3 _ _ _) (meets_dict_get_default (zay X.prog X.w) a (znj ry) hd r) ⟨_,dd.mapOf,h _ _ (I.tok _) ?_⟩;rw[l];exact(rel.val k).getD rd
 ·subst ey;cases (show u=Value.ref b from ry);obtain⟨z,hd,xs,rel,dd⟩:=zlb I.hok e;refine call_meetsIn PySem.F.slot_dict_get dd.typeIs PySem.F.entry_dict_get (PySem.F.args_dict_get_3 _ _ _) (meetsH_dict_get_default (tupleKind (zay X.prog X.w)) a b hd r) ⟨tupleKind_room_in1 hu,k,xs,zgX I.hok eb,dd,h _ _ (I.tok _) ?_⟩;rw[l];exact(rel.val k).getD rd
end
noncomputable def zrb (td ty tx:TE):TE:=λσ H Q=>td σ H λx H1=>∃a,x=.ref a/\IsD H1 a/\ty σ H1 λy H2=>tx σ H2 λz H3=>∃o,DGet H3 a y o/\Q (o.getD z) H3
section
variable {X:Cx}{o e f:Expr}{apos cpos:Pos}{td ty tx:TE}
theorem znn (hu:X.A.units+1<cLine)(ho:PE X o td)(he:PE X e ty)(hf:PE X f tx)(m:M2 X o "get" apos e f cpos):PE X (.Call (.Attribute o "get" apos) [e,f] [] cpos) (zrb td ty tx):=by
 intro pins s σ H Q I h;refine wpAny_Call_method m.base m.few m.line PySem.F.plainAttrs_dict PySem.F.slot_dict_get PySem.F.type_dict_get (thn (ho pins s σ H _ I h) λu s1 ⟨x,H1,I1,rx,a,ex,d,q1⟩=>?_);subst ex;obtain rfl:u=Value.ref a:=rx;obtain⟨t1,t2,_⟩:=zov I1 d;refine⟨t1,t2,?_⟩;rw[m.trees];refine Calls.callWith_builtin rfl (Calls.evalArgs_plain (Calls.spliced_cons (thn (he pins s1 σ H1 _ I1 q1) λiv s2 ⟨y,H2,I2,ry,q2⟩=>
  Calls.spliced_cons (thn (hf pins s2 σ H2 _ I2 q2) λfv s3 ⟨z,H3,I3,rz,ov,g,q3⟩=>Calls.spliced_nil ?_))))
 exact zra hu I3 g ry rz λw' s4 I4 rw'=>⟨_,H3,I4,rw',q3⟩
end
end L2
namespace Att
open PySem PySem.W PySem.Calls PyProof.Rows
theorem zeY {P:Params}{h:Heap}:∀(ns:List Int)(vs:List Value),WellAll P h vs (ns.map WData.int)->IntsAre vs ns:=by
 intro ns;induction ns with
 | nil=>
  intro vs w;rw[List.map_nil]at w;cases w;exact .nil
 | cons n ns ih=>
  intro vs w;rw[List.map_cons]at w;cases w with
  | cons a b=>
   cases a;exact .cons _ _ (ih _ b)
theorem zle {l:OpenLaw}{n:Nat}(hn:l.most=some n){P:Params}{h:Heap}{args:List WData}{vals:List Value}
  (hpre:l.row.toRowW.claim.pre args=true) (hwl:WellAll P h vals args) :
  ∃a vs ns,vals=[Value.ref a]/\args=[WData.list (ns.map WData.int)]/\h.get? a=some { cls:=.type "list",data:=.seq vs.toArray }/\IntsAre vs ns/\ns.length<=n:=by
 have hsh:WShape.hasAll [] args [.list .int]=true:=(pre_splitW hpre).1;have hc:l.pre.holds [] { args:=args }=true:=(pre_splitW hpre).2;obtain⟨d,r,rfl,h1,h2⟩:=hasAllW_cons hsh;obtain rfl:=hasAllW_nil h2;obtain⟨xs,rfl,h3⟩:=hasW_list h1;obtain⟨ns,rfl⟩:=items_int h3;have hlen:ns.length<=n:=by
  unfold OpenLaw.pre at hc;have h4:(WTm.not (.lt (.lit (.int (n:Int))) (.len (.arg 0)))).holds [] { args:=[.list (ns.map .int)] }=true:=by
   have h4:=(holds_andW hc).1;rw[hn]at h4;exact h4
  have h5:=condW_of h4 (w_not (w_lt w_lit (w_len_list (w_arg rfl))));rw[List.length_map]at h5;refine Nat.le_of_not_lt λq=>?_;have q':(n:Int)<((ns.length:Nat):Int):=by lia
  first
   | (rw[decide_eq_true q']at h5;exact absurd h5 (by decide))
   | (simp at h5;lia)
 cases hwl with
 | cons w1 w2=>
  cases w2;cases w1 with
  | list ho hall=>exact⟨_,_,ns,rfl,rfl,ho,zeY ns _ hall,hlen⟩
theorem zlf (l:OpenLaw)(args:List WData):l.row.toRowW.claim.post args (.bool true) args=true:=
 postW_of (r:=l.row.toRowW) (X:=(true == true))
  (show WShape.has [] (.bool true) .bool=true by first | rfl | decide | simp[WShape.has,WShape.arms,WShape.armsAll])
  (show(WTm.eq .res (.lit (.bool true))).value [] { args:=args,res:=some (.bool true),after:=args }=some (.bool (true == true)) from w_eq_bool (w_res rfl) w_lit) rfl
theorem ziw {l:OpenLaw}{n:Nat}{q:Program}{loose:List Str}{XP:(Str->Option Value)->Heap->Prop}{YP:World->Heap->Prop}{d:DefRec}
  (hn:l.most=some n) (hdf:d.params.defaults=[])
  (call:∀(w:World) (s₀ s₁:Shared) (mg mb:Str->Option Value) (fa:Addr) (o:Obj) (pm cd doc:Value) (a:Addr) (vs:List Value) (ns:List Int),
   Ground q loose [] XP w s₀ mg mb s₁.heap->YP w s₁.heap->
   s₁.heap.get? fa=some o->o.data=.func (docDef d.name d.params d.body d.scope pm cd doc)->s₁.heap.CodeRec cd d.name->mg d.name=some (.ref fa)->
   s₁.heap.get? a=some { cls:=.type "list",data:=.seq vs.toArray }->IntsAre vs ns->ns.length<=n->s₁.gens = #[]->
   codeAny (model l.prog w) callerA (.call (.ref fa) ⟨[.ref a],[]⟩) (λr s'=>r=.ok (.ret (.bool true))/\OldK s₁.heap s'.heap/\s'.os=s₁.os/\AllBare s'.gens) s₁) :
  WalkO q loose XP YP l.row.toRowW d [] (λf vs=>PySem.call f vs):=by
 intro w s₀ s₁ mg mb G Y fa o pm cd doc dV kV ho hd hcd hD hmg hg args vals as hpre hlay hrd hwl hlo;obtain rfl:dV=.none:=Dflts.none hD hdf;obtain rfl:kV=.none:=Dflts.noKw hD;obtain⟨a,vs,ns,rfl,rfl,hobj,hints,hlen⟩:=zle hn hpre hwl;refine enter_call (codeAny_mono (call w s₀ s₁ mg mb fa o pm cd doc a vs ns G Y ho (fd_plain hd) hcd hmg hobj hints hlen hg) λr s' hq=>?_);obtain⟨rfl,h2,h3,h4⟩:=hq;exact⟨.inl ⟨.bool true,.bool true,[],rfl,λ_=>rfl,.bool true,zlf l _,λ_=>⟨List.Pairwise.nil,λ_ hm=>(nomatch hm)⟩⟩,h2,h3,h4⟩
end Att
namespace L2
open PySem PySem.Spec PyProof.Rows
theorem zgY:∀ {vs:List Value}{ns:List Int},IntsAre vs ns->Vals (ns.map V.int) vs
 | _,_,.nil=>.nil
 | _,_,.cons n t h=>.cons ⟨t,rfl⟩ (zgY h)
noncomputable def Only (H:Hp):Prop:=∀b,H b=none\/∃o xs,H b=some (.frz o (.lst xs))
noncomputable abbrev KOf {K:PySem.W.Frag}{h:Heap}(_:K.In h):PySem.W.Frag:=K
noncomputable def zaz (s:Stmt):Arguments:=match s with
 | .FunctionDef _ a _ _ _ _ _ _ _ _=>a
 | _=>{ posonlyargs:=[],args:=[],vararg:=none,kwonlyargs:=[],kw_defaults:=[],kwarg:=none,defaults:=[] }
noncomputable def zas (s:Stmt):List Stmt:=match s with
 | .FunctionDef _ _ b _ _ _ _ _ _ _=>b
 | _=>[]
noncomputable def zac (s:Stmt):Scope:=match s with
 | .FunctionDef _ _ _ _ _ _ sc _ _ _=>sc
 | _=>{ kind:=.function,names:=[],isGenerator:=false,isCoroutine:=false }
noncomputable abbrev CX0:CXT:=λ_ _ _ _ _ _=>False
noncomputable abbrev E0:XK:=λ_ _ _=>False
theorem zsQ {X:Cx}:zkX CX0 X E0:=λ_ _ _ _ _ _ _ h=>h.elim
structure Fun (K:PySem.W.Frag)(x qual:Str)(st:Stmt)(f:Addr)(fd:FuncData):Prop where
 ex:∃(oc:Value) (od:Option Addr) (kV doc pm:Value) (an:Option Addr) (cdv ct:Value) (osl:Array (Option Value)),
  fd=PySem.W.fnOf x qual (zaz st) (zas st) (zac st) .none kV doc pm an cdv ct/\K.lookup f=some ⟨oc,od,.func fd,osl⟩/\PySem.W.codeIn K cdv qual=true
 kp:PySem.W.keepIn K (.ref f)=true
section
variable {P:Program}{w:World}{K:PySem.W.Frag}{mg:Str->Option Value}{base:Heap}
theorem Fun.ok {x qual:Str}{st:Stmt}{f:Addr}{fd:FuncData}{N ps:List Str}{k:Nat}{sp:Sp}(F:Fun K x qual st f fd)(S:zaC N ps (zac st))(len:∀vs H Q E,sp vs H Q E->vs.length=ps.length)
  (hbody:∀(cdv:Value) (A:Around) (outer:List Env) (s:Shared) (H:Hp) (vs:List V) (Q:VK) (E:XK),Room k (A.deeper (envOfC qual (zac st) s.heap.objs.size f cdv))->sp vs H Q E->
   ∃t,PSs (cxOf CX0 P w K mg base N qual (zac st) f cdv A outer s H E).nox (zas st) t/\t { nx:=λ_ H'=>Q .non H',rt:=Q } (start N vs) H):FnOk P w K mg base CX0 (k+1) f fd ps sp:=by
 obtain⟨oc,od,kV,doc,pm,an,cdv,ct,osl,rfl,lk,hcd⟩:=F.ex;refine zsL lk hcd S len λA outer s H vs Q E hr hsp=>?_;obtain⟨t,h,q⟩:=hbody cdv A outer s H vs Q E hr hsp;exact⟨t,h.nox,q⟩
theorem Fun.binds {x qual:Str}{st:Stmt}{f:Addr}{fd:FuncData}{ps:List Str}(F:Fun K x qual st f fd)
  (h:∀(kV doc pm:Value) (an:Option Addr) (cdv ct:Value) (us:List Value),us.length=ps.length->bindArgs (PySem.W.fnOf x qual (zaz st) (zas st) (zac st) .none kV doc pm an cdv ct) ⟨us,[]⟩=pure (ps.zip us)):Binds K fd ps []:=by
 obtain⟨oc,od,kV,doc,pm,an,cdv,ct,osl,rfl,lk,hcd⟩:=F.ex;exact .all (h kV doc pm an cdv ct)
theorem zbt {x qual:Str}{st:Stmt}{f:Addr}{oc:Value}{od an:Option Addr}{osl:Array (Option Value)}{kV doc pm cdv ct:Value}(l:K.lookup f=some ⟨oc,od,.func (PySem.W.fnOf x qual (zaz st) (zas st) (zac st) .none kV doc pm an cdv ct),osl⟩)
  (c:PySem.W.codeIn K cdv qual=true) (k:PySem.W.keepIn K (.ref f)=true):Fun K x qual st f (PySem.W.fnOf x qual (zaz st) (zas st) (zac st) .none kV doc pm an cdv ct):=⟨⟨oc,od,kV,doc,pm,an,cdv,ct,osl,rfl,l,c⟩,k⟩
end
theorem iteF {A B:Prop}(h:B):if false=true then A else B:=by
 rw[if_neg Bool.false_ne_true];exact h
theorem iteT {A B:Prop}(h:A):if true=true then A else B:=by
 rw[if_pos rfl];exact h
theorem ite2 {c A B:Prop} [Decidable c] (h1:c->A)(h2:¬ c->B):if c then A else B:=by
 by_cases h:c
 ·rw[if_pos h];exact h1 h
 ·rw[if_neg h];exact h2 h
noncomputable def Same (H H':Hp):Prop:=∀b o,H b=some o->H' b=some o
theorem Same.refl (H:Hp):Same H H:=λ_ _ h=>h
theorem Same.trans {H H1 H2:Hp}(a:Same H H1)(b:Same H1 H2):Same H H2:=λc o h=>b c o (a c o h)
theorem Same.free {H H':Hp}(e:Same H H'){l:Addr}(h:H' l=Option.none):H l=Option.none:=by
 cases q:H l with
 | none=>rfl
 | some o=>
  rw[e l o q]at h;cases h
theorem Same.seq {K:PySem.W.Frag}{H H':Hp}{a:Addr}{xs:List V}(e:Same H H')(h:SqL K H a xs):SqL K H' a xs:=by
 rcases h with (h | ⟨o,h⟩) | h
 ·exact .inl (.inl (e _ _ h))
 ·exact .inl (.inr ⟨o,e _ _ h⟩)
 ·exact .inr h
noncomputable def zaX (env:Env):List (Str×NameKind)->List (Str×Addr)->List (Str×Addr)
 | [],acc=>acc
 | (n,k)::r,acc=>zaX env r (if k == .free then(n,(env.cells.lookup n).getD 0)::acc else acc)
theorem zjh {env:Env}(f:Str×NameKind->List (Str×Addr)->Sem (ForInStep (List (Str×Addr))))
  (hf:∀n k cs,f (n,k) cs=if k == .free then(do let a <- cellOf env n;pure (.yield ((n,a)::cs))) else pure (.yield cs)) :
  ∀(l:List (Str×NameKind)) (acc:List (Str×Addr)),(∀n,(n,NameKind.free)∈l->∃c,env.cells.lookup n=some c)->forIn l acc f=pure (zaX env l acc)
 | [],acc,_=>by rw[List.forIn_nil];rfl
 | (n,k)::r,acc,h=>by
  have ih:=zjh f hf r;have hr:∀m,(m,NameKind.free)∈r->∃c,env.cells.lookup m=some c:=λm hm=>h m (List.mem_cons_of_mem _ hm);rw[List.forIn_cons,hf];unfold zaX;by_cases hk:(k == NameKind.free)=true
  ·have hk':k=NameKind.free:=by simpa using hk
   subst hk';obtain⟨c,hc⟩:=h n List.mem_cons_self;have e:cellOf env n=pure c:=by unfold cellOf;rw[hc]
   rw[if_pos hk,if_pos hk,e,hc];simp only[pure_bind,Option.getD_some];exact ih _ hr
  ·rw[if_neg hk,if_neg hk];simp only[pure_bind];exact ih _ hr
theorem zlg {scope:Scope}{env:Env}(h:∀n,(n,NameKind.free)∈scope.names->∃c,env.cells.lookup n=some c):closureFor scope env=pure (zaX env scope.names []):=by
 simp only[closureFor];rw[zjh (env:=env) _ (λn k cs=>by cases hk:(k == NameKind.free)<;>simp[hk]) scope.names [] h];simp
theorem zfF {env:Env}:∀(l:List (Str×NameKind))(acc:List (Str×Addr)),(∀n,(n,NameKind.free)∈l->∃c,env.cells.lookup n=some c)->(∀n c,(n,c)∈acc->env.cells.lookup n=some c)->
  ∀n c,(n,c)∈zaX env l acc->env.cells.lookup n=some c
 | [],_,_,ha,n,c,hm=>ha n c hm
 | (x,k)::r,acc,h,ha,n,c,hm=>by
  have hr:∀m,(m,NameKind.free)∈r->∃c,env.cells.lookup m=some c:=λm hm=>h m (List.mem_cons_of_mem _ hm);unfold zaX at hm;refine zfF r _ hr (λm d hd=>?_) n c hm;by_cases hk:(k == NameKind.free)=true
  ·have hk':k=NameKind.free:=by simpa using hk
   subst hk';rw[if_pos hk]at hd;rcases List.mem_cons.mp hd with e | hd
   ·obtain⟨c',hc'⟩:=h x List.mem_cons_self;cases e;rw[hc'];rfl
   ·exact ha m d hd
  ·rw[if_neg hk]at hd;exact ha m d hd
theorem zdT {env:Env}:∀(l:List (Str×NameKind))(acc:List (Str×Addr))(n:Str),((n,NameKind.free)∈l\/(acc.lookup n).isSome=true)->((zaX env l acc).lookup n).isSome=true
 | [],_,_,h=>h.elim (λz=>nomatch z) id
 | (x,k)::r,acc,n,h=>by
  unfold zaX;refine zdT r _ n ?_;have up:(acc.lookup n).isSome=true->((if (k == NameKind.free)=true then(x,(env.cells.lookup x).getD 0)::acc else acc).lookup n).isSome=true:=λz=>by
   by_cases hk:(k == NameKind.free)=true
   ·rw[if_pos hk,List.lookup_cons];cases n == x<;>simp[z]
   ·rw[if_neg hk];exact z
  rcases h with h | h
  ·rcases List.mem_cons.mp h with e | h
   ·right;cases e;rw[if_pos (by rfl),List.lookup_cons];simp
   ·exact .inl h
  ·exact .inr (up h)
theorem zba:∀(names:List (Str×NameKind))(n:Nat)(acc:List (Str×Addr)),cellsFrom n names acc=cellsFrom n names []++acc
 | [],_,_=>rfl
 | (x,k)::r,n,acc=>by
  unfold cellsFrom;by_cases hk:(k == NameKind.cell)=true
  ·rw[if_pos hk,if_pos hk,zba r (n+1) ((x,n)::acc),zba r (n+1) [(x,n)],List.append_assoc];rfl
  ·rw[if_neg hk,if_neg hk];exact zba r n acc
theorem zcb:∀(names:List (Str×NameKind))(n:Nat)(acc:List (Str×Addr))(x:Str)(c:Addr),(x,c)∈cellsFrom n names acc->(x,c)∈acc\/(x,NameKind.cell)∈names
 | [],_,_,_,_,h=>.inl h
 | (y,k)::r,n,acc,x,c,h=>by
  unfold cellsFrom at h;by_cases hk:(k == NameKind.cell)=true
  ·have hk':k=NameKind.cell:=by simpa using hk
   subst hk';rw[if_pos hk]at h;rcases zcb r _ _ x c h with h | h
   ·rcases List.mem_cons.mp h with e | h
    ·cases e;exact .inr List.mem_cons_self
    ·exact .inl h
   ·exact .inr (List.mem_cons_of_mem _ h)
  ·rw[if_neg hk]at h;rcases zcb r _ _ x c h with h | h
   ·exact .inl h
   ·exact .inr (List.mem_cons_of_mem _ h)
noncomputable def zex (sc sup:Scope):Scope:=
 {sc with names:=sc.names.map λ(n,k)=>if (k == .free&&sup.kind == .function&&sup.names.lookup n == some .cell) then(n,.cell) else(n,k) }
noncomputable def cpOk (sup:Scope)(XN N:List Str)(k:Nat)(js:List Nat)(sc:Scope):Bool:=
 sc.kind == .function&&decide N.Nodup&&decide (sc.names.map (·.1)).Nodup&&(sc.names.all λp=>p.2 != .free||(sup.names.lookup p.1 == some .cell||sup.names.lookup p.1 == some .free)) &&
  N.length == k+js.length&&((N.drop k).zip js).all λp=>sc.names.lookup p.1 == some .free&&XN[p.2]? == some p.1
structure zcr (X:Cx)(N:List Str)(k:Nat)(js:List Nat)(sc:Scope):Prop where
 kind:sc.kind=.function
 nd:N.Nodup
 nm:(sc.names.map (·.1)).Nodup
 fr:∀n,(n,NameKind.free)∈sc.names->X.env.kindOf n=some .cell\/X.env.kindOf n=some .free
 len:N.length=k+js.length
 at':∀(i:Nat) (x:Str),N[k+i]? = some x->sc.names.lookup x=some .free/\∃j,js[i]? = some j/\X.N[j]? = some x
theorem zcD {X:Cx}{sup:Scope}{XN N:List Str}{k:Nat}{js:List Nat}{sc:Scope}(hs:X.env.scope=sup)(hn:X.N=XN)(h:cpOk sup XN N k js sc=true):zcr X N k js sc:=by
 subst hs hn;unfold cpOk at h;simp only[Bool.and_eq_true,decide_eq_true_eq,beq_iff_eq,List.all_eq_true]at h;obtain⟨⟨⟨⟨⟨h1,h2⟩,h3⟩,h4⟩,h5⟩,h6⟩:=h;refine⟨h1,h2,h3,λn hn=>?_,h5,λi x hi=>?_⟩
 ·have q:=h4 _ hn;simp only[bne_self_eq_false,Bool.false_or,Bool.or_eq_true,beq_iff_eq]at q;exact q
 ·have hi':(N.drop k)[i]? = some x:=by rw[List.getElem?_drop];exact hi
  have hl:k+i<N.length:=(List.getElem?_eq_some_iff.mp hi).1;have hj:i<js.length:=by lia
  have hm:(x,js[i])∈(N.drop k).zip js:=by
   refine List.mem_iff_getElem?.mpr ⟨i,?_⟩;rw[List.getElem?_zip_eq_some];exact⟨hi',by simp[hj]⟩
  have q:=h6 _ hm;exact⟨q.1,js[i],by simp[hj],q.2⟩
theorem zcs {α:Type}:∀ {l:List (Str×α)}{x:Str}{v:α},(l.map (·.1)).Nodup->(x,v)∈l->l.lookup x=some v
 | (y,u)::r,x,v,nd,h=>by
  rw[List.map_cons,List.nodup_cons]at nd;rw[List.lookup_cons];rcases List.mem_cons.mp h with e | h
  ·cases e;simp
  ·have ne:x≠y:=λz=>nd.1 (List.mem_map.mpr ⟨(x,v),h,z⟩);have hb:(x == y)=false:=by simpa using ne
   rw[hb];exact zcs nd.2 h
noncomputable def zdk (k:Nat)(js:List Nat)(σ:St):St:=List.replicate k none++js.map λj=>(σ[j]?).getD none
noncomputable def cxB (X:Cx)(N:List Str)(sc:Scope)(C:Addr)(cells:List (Str×Addr))(fp:List Addr)(s:Shared)(H:Hp):Cx where
 prog:=X.prog
 w:=X.w
 K:=X.K
 mg:=X.mg
 base:=X.base
 A:=X.A
 N:=N
 s₀:=s
 H₀:=H
 env:={ scope:=zex sc X.env.scope,locals:=C,globals:=X.env.globals,cells:=cells,qual:=X.env.qual,func:=none,code:=X.env.code,frame:=X.env.frame,builtins:=X.env.builtins }
 outer:=X.stack
 stack:=X.stack
 ex:=fp
 fn:=λx=>sc.names.lookup x == some .cell
 calm:=X.calm
 pn:=[]
 xe:=λ_ _=>False
section
variable {X:Cx}{pins:List (Addr×Obj)}{σ:St}{H:Hp}{s:Shared}
theorem zdl {sc sup:Scope}{x:Str}{k:NameKind}(h:(zex sc sup).names.lookup x=some k):sc.names.lookup x=some k\/(sc.names.lookup x=some .free/\k=.cell):=by
 unfold zex at h;dsimp only at h;generalize sc.names=l at h ⊢;induction l with
 | nil=>simp at h
 | cons p r ih=>
  obtain⟨n,kd⟩:=p;rw[List.map_cons,List.lookup_cons]at h;rw[List.lookup_cons];dsimp only at h;by_cases hc:(kd == NameKind.free&&sup.kind == ScopeKind.function&&sup.names.lookup n == some NameKind.cell)=true
  ·rw[if_pos hc]at h;dsimp only at h;cases hx:x == n with
   | true=>
    rw[hx]at h;simp only[Bool.and_eq_true,beq_iff_eq]at hc;right;exact⟨by rw[hc.1.1],(Option.some.inj h).symm⟩
   | false=>rw[hx]at h;exact ih h
  ·rw[if_neg hc]at h;dsimp only at h;cases hx:x == n with
   | true=>rw[hx]at h;left;exact h
   | false=>rw[hx]at h;exact ih h
theorem zdm {sc sup:Scope}{x:Str}(h:sc.names.lookup x=some .free):(zex sc sup).names.lookup x=some .cell\/(zex sc sup).names.lookup x=some .free:=by
 unfold zex;dsimp only;generalize sc.names=l at h ⊢;induction l with
 | nil=>simp at h
 | cons p r ih=>
  obtain⟨n,kd⟩:=p;rw[List.lookup_cons]at h;rw[List.map_cons];dsimp only;by_cases hc:(kd == NameKind.free&&sup.kind == ScopeKind.function&&sup.names.lookup n == some NameKind.cell)=true
  ·rw[if_pos hc,List.lookup_cons];cases hx:x == n with
   | true=>left;rfl
   | false=>rw[hx]at h;exact ih h
  ·rw[if_neg hc,List.lookup_cons];cases hx:x == n with
   | true=>rw[hx]at h;right;exact h
   | false=>rw[hx]at h;exact ih h
theorem Inv.block {N:List Str}{k:Nat}{js:List Nat}{sc:Scope}{fp:List Addr}(I:Inv X pins σ H s)(S:zcr X N k js sc)(hf:∀b∈fp,FpOk X pins H b)(hfs:∀b∈fp,b<s.heap.objs.size) :
  Inv (cxB X N sc s.heap.objs.size (cellsFrom (s.heap.objs.size+1) sc.names (zaX X.env sc.names [])) fp s H) [] (zdk k js σ) H
   {s with heap:=pushCells (s.heap.push { cls:=.type "dict",data:=.dict #[] }) sc.names }:=by
 have hz:(s.heap.push { cls:=.type "dict",data:=.dict #[] }).objs.size=s.heap.objs.size+1:=Heap.size_push ..;have kp:∀b o,s.heap.get? b=some o->(pushCells (s.heap.push { cls:=.type "dict",data:=.dict #[] }) sc.names).get? b=some o:=λb o e=>pushCells_keeps _ _ b o (Heap.get?_push_of_some _ e);have cok:=cellsFrom_ok sc.names (s.heap.push { cls:=.type "dict",data:=.dict #[] }) (s.heap.objs.size+1) [] ⟨λ_ _ hm=>(nomatch hm),List.Pairwise.nil⟩ (by rw[hz];exact Nat.le_refl _);rw[hz]at cok;have frs':∀n,(n,NameKind.free)∈sc.names->∃c,X.env.cells.lookup n=some c:=λn hn=>I.ok.has n (S.fr n hn);have csub:=zfF (env:=X.env) sc.names [] frs' (λ_ _ z=>nomatch z);have cases_:∀x c,(cellsFrom (s.heap.objs.size+1) sc.names (zaX X.env sc.names [])).lookup x=some c->
   ((cellsFrom (s.heap.objs.size+1) sc.names []).lookup x=some c)\/((cellsFrom (s.heap.objs.size+1) sc.names []).lookup x=none/\(zaX X.env sc.names []).lookup x=some c):=λx c h=>by
  rw[zba,List.lookup_append]at h;cases q:(cellsFrom (s.heap.objs.size+1) sc.names []).lookup x with
  | some d=>rw[q]at h;left;simpa using h
  | none=>rw[q]at h;right;exact⟨rfl,by simpa using h⟩
 have old:∀x c,(zaX X.env sc.names []).lookup x=some c->X.env.cells.lookup x=some c:=λx c h=>csub x c (PySem.mem_of_lookup h);have oldlt:∀x c,X.env.cells.lookup x=some c->c<s.heap.objs.size:=λx c h=>let ⟨_,q⟩:=I.cell x c h;q.lt;have ownge:∀x c,(cellsFrom (s.heap.objs.size+1) sc.names []).lookup x=some c->s.heap.objs.size+1<=c:=λx c h=>(cok.empty x c (PySem.mem_of_lookup h)).2;refine⟨⟨I.ok.mod,S.kind,I.ok.glob,I.ok.blt,Nat.le_refl _,?inj,?has,?cab,I.ok.hd,I.ok.frames,.inl rfl,?exf,I.bs,Nat.le_trans I.ok.bsz I.sz,?noex,?exfs,I.stack,I.zkQ⟩,rfl,I.bare,Un.kept kp,?loc,?cell,I.hok.fresh (Nat.le_refl _),?freeC,λp hp=>absurd (show p∈([]:List (Addr×Obj)) from hp) (by simp),I.hok.kept kp,?len⟩
 case inj=>
  intro x y c hx hy;rcases cases_ x c hx with h1 | ⟨_,h1⟩<;>rcases cases_ y c hy with h2 | ⟨_,h2⟩
  ·exact name_of_addr cok.apart (PySem.mem_of_lookup h1) (PySem.mem_of_lookup h2)
  ·exact absurd (Nat.lt_of_lt_of_le (oldlt y c (old y c h2)) (Nat.le_of_succ_le (ownge x c h1))) (Nat.lt_irrefl _)
  ·exact absurd (Nat.lt_of_lt_of_le (oldlt x c (old x c h1)) (Nat.le_of_succ_le (ownge y c h2))) (Nat.lt_irrefl _)
  ·exact I.ok.inj x y c (old x c h1) (old y c h2)
 case has=>
  intro x hx;have hx':(zex sc X.env.scope).names.lookup x=some .cell\/(zex sc X.env.scope).names.lookup x=some .free:=hx;have q:sc.names.lookup x=some .cell\/sc.names.lookup x=some .free:=by
   rcases hx' with h | h
   ·rcases zdl h with h | ⟨h,_⟩
    ·exact .inl h
    ·exact .inr h
   ·rcases zdl h with h | ⟨h,_⟩
    ·exact .inr h
    ·exact .inr h
  refine Option.isSome_iff_exists.mp (PySem.W.cellsFrom_some sc.names _ _ ?_);rcases q with q | q
  ·exact .inl q
  ·exact .inr (zdT _ _ _ (.inl (PySem.mem_of_lookup q)))
 case cab=>
  intro x c hfn hx;have hc:sc.names.lookup x=some .cell:=by simpa[cxB]using hfn
  rcases cases_ x c hx with h | ⟨h,_⟩
  ·have:=ownge x c h;show s.heap.objs.size<=c;lia
  ·have q:=PySem.W.cellsFrom_some sc.names (s.heap.objs.size+1) [] (.inl hc);rw[h]at q;cases q
 case exf=>
  intro b hb;have hlt:=hfs b hb;refine⟨Nat.ne_of_lt hlt,λx c hx=>?_⟩;rcases cases_ x c hx with h | ⟨_,h⟩
  ·exact λz=>absurd (Nat.lt_of_lt_of_le (show c<s.heap.objs.size by rw[z];exact hlt) (Nat.le_of_succ_le (ownge x c h))) (Nat.lt_irrefl _)
  ·exact(hf b hb).2.2.2.2.1 x c (old x c h)
 case noex=>
  intro b o e hb;rcases(hf b hb).2.2.2.1 with z | z
  ·exact I.ok.noex b o e z
  ·exact absurd (Nat.lt_of_lt_of_le (Heap.lt_size (I.ok.bs b o e).1) z) (Nat.lt_irrefl _)
 case exfs=>
  intro b hb hbf;rcases List.mem_cons.mp (I.zkP b hbf)with z | z
  ·exact(hf b hb).2.1 z
  ·exact(hf b hb).2.2.1 z
 case loc=>
  refine⟨_,(Heap.Ns.new s.heap (.type "dict")).keeps (pushCells_keeps _ _),λi x v e1 e2 e3=>?_⟩;have hik:k<=i:=by
   unfold zdk at e2;by_cases hik:k<=i
   ·exact hik
   ·rw[List.getElem?_append_left (by simp;lia),List.getElem?_replicate]at e2;split at e2<;>cases e2
  obtain⟨i',rfl⟩:∃i',i=k+i':=⟨i-k,by lia⟩;obtain⟨hfree,j,hj,hX⟩:=S.at' i' x e1;have e2':(σ[j]?).getD none=some v:=by
   unfold zdk at e2;rw[List.getElem?_append_right (by simp)]at e2;rw[List.length_replicate,show k+i'-k=i' by lia,List.getElem?_map,hj]at e2;exact Option.some.inj e2
  have hσ:σ[j]? = some (some v):=by
   cases q:σ[j]? with
   | none=>rw[q]at e2';cases e2'
   | some o=>rw[q]at e2';exact congrArg some e2'
  have hk:=S.fr x (PySem.mem_of_lookup hfree);obtain⟨m,hn,hl⟩:=I.loc;obtain⟨u,r,l⟩:=hl j x v hX hσ (by rcases hk with h | h;exact .inr (.inl h);exact .inr (.inr h))
  rcases l with ⟨hloc,_⟩ | ⟨_,c,hc,hcell⟩
  ·rcases hk with h | h<;>(rw[h]at hloc;cases hloc)
  ·refine⟨u,r,.inr ⟨zdm hfree,c,?_,hcell.keeps kp⟩⟩;show(cellsFrom (s.heap.objs.size+1) sc.names (zaX X.env sc.names [])).lookup x=some c;have hno:(cellsFrom (s.heap.objs.size+1) sc.names []).lookup x=none:=by
    cases q:(cellsFrom (s.heap.objs.size+1) sc.names []).lookup x with
    | none=>rfl
    | some d=>
     rcases zcb _ _ _ x d (PySem.mem_of_lookup q)with z | z
     ·cases z
     ·have:=zcs S.nm z;rw[hfree]at this;cases this
   obtain⟨d,hd⟩:=Option.isSome_iff_exists.mp (zdT (env:=X.env) sc.names [] x (.inl (PySem.mem_of_lookup hfree)));have hdc:d=c:=by
    have:=old x d hd;rw[hc]at this;exact(Option.some.inj this).symm
   rw[zba,List.lookup_append,hno,hd,hdc];rfl
 case cell=>
  intro x c hx;rcases cases_ x c hx with h | ⟨_,h⟩
  ·exact⟨none,(cok.empty x c (PySem.mem_of_lookup h)).1⟩
  ·obtain⟨v,q⟩:=I.cell x c (old x c h);exact⟨v,q.keeps kp⟩
 case freeC=>
  intro x c hx;rcases cases_ x c hx with h | ⟨_,h⟩
  ·exact I.hok.fresh (by have:=ownge x c h;lia)
  ·exact I.freeC x c (old x c h)
 case len=>
  show(zdk k js σ).length=N.length;unfold zdk;rw[List.length_append,List.length_replicate,List.length_map];exact S.len.symm
end
theorem zlh {prog:Program}{w:World}{A:Around}{R:Result->Shared->Prop}{s:Shared}{elt tg iter:Expr}{ifs:List Expr}{scope:Scope}{pos:Pos}{it acc:Value}{env:Env}(J:Nat->Shared->Prop)
  (turn:∀n s,J n s->wpAny (model prog w) A (pyNext it) (λr s1=>match r with
   | none=>R (.ok .next) s1
   | some v=>wpAny (model prog w) A (letOwnedTupleGo tg it v) (λ_ s2=>wpAny (model prog w) A (assign tg env v) (λ_ s3=>
     wpAny (model prog w) A (forIn ifs true λc r=>if r=true then do let ok <- isTrue c env (eval c env);pure (ForInStep.yield ok) else pure (ForInStep.yield r)) (λok s4=>
      if ok=true then wpAny (model prog w) A (eval elt env) (λx s5=>wpAny (model prog w) A (call (.builtin "list.append") [acc,x]) (λ_ s6=>∃m,m<n/\J m s6) (λ_ _=>False) s5) (λ_ _=>False) s4
      else ∃m,m<n/\J m s4) (λ_ _=>False) s3) (λ_ _=>False) s2) (λ_ _=>False) s1) (λ_ _=>False) s)
  (n:Nat) (h:J n s):codeAny (model prog w) A (.compLoop (.ListComp elt [⟨tg,iter,ifs,0⟩] scope pos) 0 it acc env) R s:=by
 refine codeAny_loop rfl J (λn s hI=>wpAny_noted (wpAny_noRaise ?_)) n h;rw[compTurn_list];refine wpAny_bind (wpAny_standAt (wpAny_bind (thn (turn n s hI) λr s1 h1=>?_)));cases r with
 | none=>exact wpAny_pure h1
 | some v=>
  refine wpAny_bind (thn h1 λ_ s2 h2=>wpAny_bind (thn h2 λ_ s3 h3=>wpAny_bind (thn h3 λok s4 h4=>?_)));cases ok with
  | false=>exact wpAny_pure ⟨rfl,by simpa using h4⟩
  | true=>
   rw[if_pos rfl]at h4;exact wpAny_bind (wpAny_bind (thn h4 λx s5 h5=>wpAny_bind (thn h5 λ_ s6 h6=>wpAny_pure (wpAny_pure ⟨rfl,h6⟩))))
theorem zli {M:Model}{A:Around}{E:Value->Shared->Prop}{s:Shared}{sc:Scope}{globals:Addr}{clo:List (Str×Addr)}{qual:Str}{out:Env}{Q:Env->Shared->Prop}
  (h:Q { scope:=sc,locals:=s.heap.objs.size,globals:=globals,cells:=cellsFrom (s.heap.objs.size+1) sc.names clo,qual:=qual,func:=none,code:=out.code,frame:=out.frame,builtins:=out.builtins }
   {s with heap:=pushCells (s.heap.push { cls:=.type "dict",data:=.dict #[] }) sc.names }) :
  wpAny M A (newFunctionEnv sc globals clo [] qual none .none (some out)) Q E s:=by
 unfold newFunctionEnv;simp only[Option.isSome_some,if_true];refine wpAny_bind (wpAny_alloc (wpAny_bind (wpAny_layCells _ (λname kind cells=>by cases hkc:kind == NameKind.cell<;>simp[hkc]) _ _ _ _ ?_)));rw[show({ s with heap:=s.heap.push { cls:=.type "dict",data:=.dict #[] } }:Shared).heap.objs.size=s.heap.objs.size+1 from Heap.size_push ..];simp only[List.forIn_nil];exact wpAny_bind (wpAny_pure (wpAny_pure h))
noncomputable def PTs (X:Cx)(ifs:List Expr)(t:TT):Prop:=
 ∀(pins:List (Addr×Obj)) (s:Shared) (σ:St) (H:Hp) (Q:Bool->Hp->Prop),Inv X pins σ H s->t σ H Q->
  wpAny (model X.prog X.w) X.A (forIn ifs true λc r=>if r=true then do let ok <- isTrue c X.env (eval c X.env);pure (ForInStep.yield ok) else pure (ForInStep.yield r)) (TP X pins σ Q) X.xe s
noncomputable def zlj:TT:=λ_ H Q=>Q true H
theorem zlk {X:Cx}:PTs X [] zlj:=λpins s σ H Q I h=>wpAny_tests_nil ⟨H,I,h⟩
theorem zpd {X:Cx}{c:Expr}{t:TT}(h:PT X c t):PTs X [c] t:=λpins s σ H Q I q=>wpAny_tests_one (h pins s σ H Q I q)
noncomputable def zll (J:It)(g:TG)(tt:TT)(te:TE)(l:Addr)(σb:St)(H1:Hp)(R:Hp->Prop):Prop:=
 ∃W:Nat->Nat->St->Hp->Prop,(∃m,W 0 m σb (upd H1 l (.lst [])))/\∀i m σ' H',W i m σ' H'->
  (J.stop i H'/\R H')\/(J.go i H'/\∀x H2,J.yld i H' x H2->g x σ' H2 λσ2 H3=>tt σ2 H3 λb H4=>if b=true
   then te σ2 H4 λv H5=>∃ys,H5 l=some (.lst ys)/\ys.length<sizeLine/\∃m',m'<m/\W (i+1) m' σ2 (upd H5 l (.lst (ys++[v])))
   else ∃m',m'<m/\W (i+1) m' σ2 H4)
noncomputable def zpe (k:Nat)(js:List Nat)(wi:TI)(g:TG)(tt:TT)(te:TE):TE:=λσ H Q=>wi σ H λJ H1=>∀l,H1 l=none->zll J g tt te l (zdk k js σ) H1 λH'=>Q (.ref l) H'
section
variable {X:Cx}{elt tg iter:Expr}{ifs:List Expr}{sc:Scope}{pos:Pos}{N:List Str}{k:Nat}{js:List Nat}{wi:TI}{g:TG}{tt:TT}{te:TE}
structure Blk (X:Cx)(N:List Str)(sc:Scope)(tg:Expr)(ifs:List Expr)(elt:Expr)(g:TG)(tt:TT)(te:TE):Prop where
 tgt:∀C cells fp s H,PG (cxB X N sc C cells fp s H) tg g
 tst:∀C cells fp s H,PTs (cxB X N sc C cells fp s H) ifs tt
 val:∀C cells fp s H,PE (cxB X N sc C cells fp s H) elt te
noncomputable def After (X:Cx)(pins:List (Addr×Obj))(σ:St)(R:Addr->Hp->Prop)(acc:Value)(C:Addr)(s':Shared):Prop:=
 ∃(l:Addr) (H':Hp) (m:Str->Option Value),acc=.ref l/\Inv X pins σ H' s'/\s'.heap.Ns C m/\FpOk X pins H' C/\R l H'
theorem zji {pins:List (Addr×Obj)}{σ:St}{H:Hp}{s:Shared}{R:Addr->Hp->Prop}(hc:X.calm=true)(S:zcr X N k js sc)(hi:PI X tg iter wi)(B:Blk X N sc tg ifs elt g tt te)(I:Inv X pins σ H s)
  (h:wi σ H λJ H1=>∀l,H1 l=none->zll J g tt te l (zdk k js σ) H1 (R l)) :
  wpAny (model X.prog X.w) X.A (eval iter X.env) (λx s1=>wpAny (model X.prog X.w) X.A (pyIter x) (λit s2=>wpAny (model X.prog X.w) X.A (newList []) (λacc s3=>
   wpAny (model X.prog X.w) X.A (newFunctionEnv sc X.env.globals (zaX X.env sc.names []) [] X.env.qual none .none (some X.env)) (λcenv s4=>
    codeAny (model X.prog X.w) X.A (.compStart (.ListComp elt [⟨tg,iter,ifs,0⟩] sc pos) 0 it acc { cenv with scope:=relabel sc X.env })
     (λr s'=>match r with | .ok _=>After X pins σ R acc cenv.locals s' | .error _=>False) s4) X.xe s3) X.xe s2) X.xe s1) X.xe s:=by
 refine thn (hi pins s σ H _ I h) λv s1 h1=>thn h1 λitv s2 h2=>?_;obtain⟨it,fp,tn,J,H2,e,I2,T,st2,f2,hq⟩:=h2;subst e;have hl:H2 s2.heap.objs.size=none:=I2.fresh;have fplt:∀b∈fp,b<s2.heap.objs.size:=λb hb=>by
  obtain⟨o,e,_⟩:=T.obj 0 _ st2 b hb;exact Heap.lt_size e
 obtain⟨W,⟨m0,w0⟩,turn⟩:=hq _ hl;refine wpAny_newList ?_;have I3:Inv X pins σ (upd H2 s2.heap.objs.size (.lst [])) { s2 with heap:=s2.heap.push { cls:=.type "list",data:=.seq ([]:List Value).toArray } }:=I2.lnew (its:=[]) (t':=s2.toks) .nil (Nat.zero_le _);have u3:Un (frs X.stack) fp H2 (upd H2 s2.heap.objs.size (.lst [])) s2.heap (s2.heap.push { cls:=.type "list",data:=.seq ([]:List Value).toArray }):=Un.laid (λb o e=>Heap.get?_push_of_some _ e) (Nat.le_refl _) hl;have hz3:(s2.heap.push { cls:=.type "list",data:=.seq ([]:List Value).toArray }).objs.size=s2.heap.objs.size+1:=Heap.size_push ..;have kp3:∀b o,s2.heap.get? b=some o->(s2.heap.push { cls:=.type "list",data:=.seq ([]:List Value).toArray }).get? b=some o:=λb o e=>Heap.get?_push_of_some _ e;have fpn:∀b∈fp,upd H2 s2.heap.objs.size (.lst []) b=none:=λb hb=>by
  rw[zaf (Nat.ne_of_lt (fplt b hb))];exact(f2 b hb).1
 generalize hl0:s2.heap.objs.size=l at hl I3 u3 hz3 kp3 fpn w0 turn ⊢;rw[hl0]at fplt;generalize s2.heap.push { cls:=.type "list",data:=.seq ([]:List Value).toArray }=h3 at I3 u3 hz3 kp3 ⊢;generalize upd H2 l (.lst [])=H3 at I3 u3 fpn w0;have f3:∀b∈fp,FpOk X pins H3 b:=λb hb=>⟨fpn b hb,(f2 b hb).2⟩;have I4:=I3.block S f3 (λb hb=>by show b<h3.objs.size;rw[hz3];exact Nat.lt_succ_of_lt (fplt b hb));have kp4:∀b o,s2.heap.get? b=some o->(pushCells (h3.push { cls:=.type "dict",data:=.dict #[] }) sc.names).get? b=some o:=λb o e=>pushCells_keeps _ _ b o (Heap.get?_push_of_some _ (kp3 b o e));refine zli ?_;have st4:tn 0 (pushCells (h3.push { cls:=.type "dict",data:=.dict #[] }) sc.names):=T.keep 0 _ _ st2 λb _ o e=>kp4 b o e;have stat:∀ {H':Hp},(∀b∈fp,H' b=none)->∀b∈fp,FpOk (cxB X N sc h3.objs.size (cellsFrom (h3.objs.size+1) sc.names (zaX X.env sc.names [])) fp { s2 with heap:=h3 } H3) [] H' b:=λhn b hb=>
  ⟨hn b hb,(I4.ok.exf b hb).1,I4.ok.exfs b hb,.inl hb,(I4.ok.exf b hb).2,λp hp=>absurd (show p∈([]:List (Addr×Obj)) from hp) (by simp)⟩
 generalize hY:cxB X N sc h3.objs.size (cellsFrom (h3.objs.size+1) sc.names (zaX X.env sc.names [])) fp { s2 with heap:=h3 } H3=Y at I4 stat;have loop:codeAny (model X.prog X.w) X.A (.compLoop (.ListComp elt [⟨tg,iter,ifs,0⟩] sc pos) 0 (.ref it) (.ref l) Y.env)
   (λr s'=>match r with | .ok _=>After X pins σ R (.ref l) h3.objs.size s' | .error _=>False) { s2 with heap:=pushCells (h3.push { cls:=.type "dict",data:=.dict #[] }) sc.names }:=by
  subst hY;refine zlh (λn s'=>∃i σ' H',Inv (cxB X N sc h3.objs.size (cellsFrom (h3.objs.size+1) sc.names (zaX X.env sc.names [])) fp { s2 with heap:=h3 } H3) [] σ' H' s'/\tn i s'.heap/\(∀b∈fp,H' b=none)/\W i n σ' H') ?_ m0
   ⟨0,zdk k js σ,H3,I4,st4,fpn,w0⟩
  rintro n s5 ⟨i,σ5,H5,I5,st5,fr5,w5⟩;rcases turn i n σ5 H5 w5 with ⟨stop,qn⟩ | ⟨go,step⟩
  ·refine thn (T.done (cxB X N sc h3.objs.size (cellsFrom (h3.objs.size+1) sc.names (zaX X.env sc.names [])) fp { s2 with heap:=h3 } H3) rfl rfl rfl hc i [] s5 σ5 H5 (λ_ _=>False) I5 (stat fr5) st5 stop) λr s6 ⟨hr,I6⟩=>?_;subst hr;obtain⟨m6,hn6,_⟩:=id I6.loc;have IX:Inv X pins σ H5 s6:=I2.call' (ch:=fp) I6.os (u3.trans I6.base) I6.hok I6.bare λb hb=>⟨(f2 b hb).2.2.2.1,(f2 b hb).2.1,(f2 b hb).2.2.2.2.1,(f2 b hb).2.2.2.2.2⟩;exact⟨l,H5,m6,rfl,IX,hn6,I2.fpOk (by show s2.heap.objs.size<=h3.objs.size;rw[hz3,hl0];exact Nat.le_succ _) I6.free,qn⟩
  ·refine thn (T.item (cxB X N sc h3.objs.size (cellsFrom (h3.objs.size+1) sc.names (zaX X.env sc.names [])) fp { s2 with heap:=h3 } H3) rfl rfl rfl hc i [] s5 σ5 H5 (λ_ _=>False) I5 (stat fr5) st5 go) λr s6 ⟨u,hr,h6⟩=>?_;subst hr;refine thn h6 λ_ s7 ⟨x,H7,I7,r7,y7,st7,fr7⟩=>?_;have I7':=I7.pinned (stat fr7) (T.obj _ _ st7);refine thn (B.tgt _ _ _ _ _ _ s7 σ5 H7 x u _ I7' r7 (step x H7 y7)) λ_ s8 ⟨σ8,H8,I8,q8⟩=>?_;refine thn (B.tst _ _ _ _ _ _ s8 σ8 H8 _ I8 q8) λok s9 ⟨H9,I9,q9⟩=>?_;have kept:∀ {σ':St} {H':Hp} {s':Shared},Inv (cxB X N sc h3.objs.size (cellsFrom (h3.objs.size+1) sc.names (zaX X.env sc.names [])) fp { s2 with heap:=h3 } H3) ([]++zgN fp s7.heap) σ' H' s'->tn (i+1) s'.heap/\∀b∈fp,H' b=none:=λ{σ' H' s'} I'=>
    ⟨T.keep _ _ _ st7 λb hb o e=>(I'.pin (b,o) (List.mem_append_right _ (List.mem_append_right _ (zcL hb e)))).1,λb hb=>by
     obtain⟨o,e,_⟩:=T.obj _ _ st7 b hb;exact(I'.pin (b,o) (List.mem_append_right _ (List.mem_append_right _ (zcL hb e)))).2.1⟩
   cases ok with
   | false=>
    rw[if_neg Bool.false_ne_true]at q9;rw[if_neg Bool.false_ne_true];obtain⟨m',hm,w9⟩:=q9;exact⟨m',hm,i+1,σ8,H9,I9.zdh,(kept I9).1,(kept I9).2,w9⟩
   | true=>
    rw[if_pos rfl]at q9;rw[if_pos rfl];refine thn (B.val _ _ _ _ _ _ s9 σ8 H9 _ I9 q9) λu10 s10 ⟨y,H10,I10,r10,ys,hys,hlen,m',hm,w10⟩=>?_;refine thn (zdj _ s10 σ8 H10 (.ref l) [y] (.ref l) [u10] (λ_ H'=>H'=upd H10 l (.lst (ys++[y]))) I10 rfl (.cons r10 .nil) ⟨l,ys,y,rfl,rfl,hys,hlen,rfl⟩) λ_ s11 ⟨_,H11,I11,_,e11⟩=>?_;subst e11;exact⟨m',hm,i+1,σ8,_,I11.zdh,(kept I11).1,(kept I11).2,w10⟩
 subst hY;exact codeAny_compStart_list loop (T.self X.A 0 _ _ _ st4 loop)
theorem zfG {X:Cx}(S:zcr X N k js sc):∀x∈sc.names,x.2=.local->sc.names.lookup x.1=some .local:=λx hx hl=>zcs S.nm (by rw[<- hl];exact hx)
theorem zpf (hc:X.calm=true)(S:zcr X N k js sc)(hi:PI X tg iter wi)(B:Blk X N sc tg ifs elt g tt te)(hs:∀x,foldedSetIterable iter X.env x=pure x:=by intro _;rfl) :
  PE X (.ListComp elt [⟨tg,iter,ifs,0⟩] sc pos) (zpe k js wi g tt te):=by
 intro pins s σ H Q I h;rw[eval_ListComp];refine wpAny_comprehension_free (use:=none) rfl hs (zlg λn hn=>I.ok.has n (S.fr n hn)) S.kind (zfG S) ?_;refine thn (zji (pos:=pos) (R:=λl H'=>Q (.ref l) H') hc S hi B I h) λx s1 h1=>thn h1 λit s2 h2=>thn h2 λacc s3 h3=>thn h3 λcenv s4 h4=>codeAny_mono h4 λr s' hr=>?_;cases r with
 | error e=>exact False.elim hr
 | ok f=>
  obtain⟨l,H',m,rfl,I',hn,⟨f0,f1,f2,f3,f4,f5⟩,q⟩:=hr;exact⟨m,hn,λh' sb=>⟨.ref l,H',I'.turned (t':=s'.toks) (λb o hb e=>sb.extBut b o hb e) f0 f1 f3 f4 f5,rfl,q⟩⟩
theorem zlm {i:Nat}{x:Str}{pos' pos2:Pos}(hc:X.calm=true)(S:zcr X N k js sc)(hi:PI X tg iter wi)(B:Blk X N sc tg ifs elt g tt te)(hN:X.N.Nodup)(hx:X.N[i]? = some x)(hk:X.env.scope.names.lookup x=some .local)
  (hsw:swapsWith (.ListComp elt [⟨tg,iter,ifs,0⟩] sc pos) (some (.Name x pos')) pos2.line X.env=pure true:=by rfl) (hs:∀x,foldedSetIterable iter X.env x=pure x:=by intro _;rfl) :
  PS X (.Assign [.Name x pos'] (.ListComp elt [⟨tg,iter,ifs,0⟩] sc pos) pos2) (tAsg (zpe k js wi g tt te) (zkn i)):=by
 intro pins s σ H D I h;rw[exec_Assign_Name_used _ _ _ _ hsw];refine wpAny_bind (wpAny_standAt (wpAny_bind ?_));show wpAny _ X.A (do let _ <- comprehension (.ListComp elt [⟨tg,iter,ifs,0⟩] sc pos) sc X.env _ (newList []) false (eval iter X.env) (some (assign (.Name x pos') X.env))) _ _ s
 refine wpAny_bind (thn (wpAny_comprehension_free (use:=some (assign (.Name x pos') X.env)) (Q:=λ_ s'=>SP X pins D .next s') rfl hs (zlg λn hn=>I.ok.has n (S.fr n hn)) S.kind (zfG S) ?_) λ_ s' hq=>wpAny_pure (wpAny_pure hq))
 refine thn (zji (pos:=pos) (R:=λl H'=>D.nx (σ.set i (some (.ref l))) H') hc S hi B I h) λy s1 h1=>thn h1 λit s2 h2=>thn h2 λacc s3 h3=>thn h3 λcenv s4 h4=>codeAny_mono h4 λr s' hr=>?_;cases r with
 | error e=>exact False.elim hr
 | ok f=>
  obtain⟨l,H',m,rfl,I',hn,⟨f0,f1,f2,f3,f4,f5⟩,q⟩:=hr;refine wpAny_assign_Name (zgL I' hN hx (.inl hk) (show RelV (.ref l) (.ref l) from rfl) (λs'' I'' ⟨a,sb,ha⟩=>?_) (.inr hk));have ne:cenv.locals≠a:=by
   rcases ha with z | z
   ·rw[z];exact f1
   ·exact λw=>f4 x a z w.symm
  exact⟨m,hn.sameBut sb ne,λh' sb'=>⟨_,H',I''.turned (t':=s''.toks) (λb o hb e=>sb'.extBut b o hb e) f0 f1 f3 f4 f5,q⟩⟩
end
end L2
namespace JS
open PySem
theorem zdU {α:Type}:∀ {l:List α}{i:Nat}(h:i<l.length),(l[i]::l.eraseIdx i).Perm l
 | _::_,0,_=>List.Perm.refl _
 | x::r,i+1,h=>by
  have ih:=zdU (l:=r) (i:=i) (by simpa using h);rw[List.eraseIdx_cons_succ];exact(List.Perm.swap x _ _).trans (ih.cons x)
section
variable {M:Model}{A:Around}{E:Value->Shared->Prop}{s:Shared}
theorem zkt {src:Source}{n:Nat}{Q:Nat->Shared->Prop}(hn:n≠0)(h:∀i,i<n->Q i { s with drawn:=s.drawn.bump src }):wpAny M A (choose src n) Q E s:=
 λ_ _ _=>⟨hn,h _ (Nat.mod_lt _ (Nat.pos_of_ne_zero hn))⟩
theorem zjj {α:Type}:∀(n:Nat)(xs:List α)(s:Shared)(Q:List α->Shared->Prop),xs.length<=n->(∀ys d,ys.Perm xs->Q ys { s with drawn:=d })->wpAny M A (drawOrder n xs) Q E s
 | 0,xs,s,Q,h,hq=>by
  have e:xs=[]:=List.length_eq_zero_iff.mp (by lia);subst e;exact wpAny_pure (hq [] s.drawn (List.Perm.refl _))
 | n+1,[],s,Q,_,hq=>wpAny_pure (hq [] s.drawn (List.Perm.refl _))
 | n+1,x::r,s,Q,h,hq=>by
  show wpAny M A (choose .order (x::r).length >>= λi=>match (x::r)[i]? with
   | some y=>drawOrder n ((x::r).eraseIdx i) >>= λys=>pure (y::ys)
   | none=>unsupported "internal:drawOrder") Q E s
  refine wpAny_bind (zkt (by simp) λi hi=>?_);have e:(x::r)[i]? = some (x::r)[i]:=by simp[hi]
  rw[e];refine wpAny_bind (zjj n ((x::r).eraseIdx i) _ _ (by rw[List.length_eraseIdx_of_lt hi];simp at h ⊢;lia) λys d hp=>wpAny_pure (hq _ d ?_));exact(hp.cons _).trans (zdU hi)
end
theorem zln {α:Type}(next:Nat->Nat):∀(fuel k:Nat)(left:List α)(out:Array α),left.length=fuel->(pickOrder.go next fuel k left out).toList.Perm (out.toList++left)
 | 0,k,left,out,h=>by
  have e:left=[]:=List.length_eq_zero_iff.mp h;subst e;simp[pickOrder.go]
 | fuel+1,k,left,out,h=>by
  unfold pickOrder.go;have hi:next k % left.length<left.length:=Nat.mod_lt _ (by lia)
  have e:left[next k % left.length]? = some left[next k % left.length]:=by simp[hi]
  rw[e];dsimp only;refine(zln next fuel (k+1) _ _ (by rw[List.length_eraseIdx_of_lt hi];lia)).trans ?_
  rw[Array.toList_push,List.append_assoc];exact List.Perm.append_left _ (zdU hi)
theorem zgZ {α:Type}(next:Nat->Nat)(xs:Array α):(pickOrder next xs).toList.Perm xs.toList:=by
 unfold pickOrder;have h:=zln next xs.size 0 xs.toList #[] (by simp)
 simpa using h
noncomputable def Asc (xs:Array Nat):Prop:=xs.toList.Pairwise (· < ·)
theorem Asc.lt {xs:Array Nat}(h:Asc xs){i j:Nat}(hij:i<j)(hj:j<xs.size):xs.getD i 0<xs.getD j 0:=by
 have q:=List.pairwise_iff_getElem.mp h i j (by simp;lia) (by simpa using hj) hij;simpa[Array.getD,hj,show i<xs.size by lia]using q
theorem zdn (n:Nat):Asc (Array.range n):=by
 unfold Asc;rw[Array.toList_range];exact List.pairwise_lt_range
theorem zgf (xs:Array Nat)(j:Nat):∀(fuel lo hi:Nat),Asc xs->lo<=hi->hi<=xs.size->hi-lo<=fuel->(∀i,i<lo->xs.getD i 0<j)->(∀i,hi<=i->i<xs.size->¬ xs.getD i 0<j)->
  SetTable.below.go xs j fuel lo hi<=xs.size/\(∀i,i<SetTable.below.go xs j fuel lo hi->xs.getD i 0<j)/\∀i,SetTable.below.go xs j fuel lo hi<=i->i<xs.size->¬ xs.getD i 0<j
 | 0,lo,hi,ha,h1,h2,h3,h4,h5=>by
  have:lo=hi:=by lia
  subst this;exact⟨h2,h4,h5⟩
 | fuel+1,lo,hi,ha,h1,h2,h3,h4,h5=>by
  unfold SetTable.below.go;by_cases h:lo<hi
  ·rw[if_pos h];dsimp only;have hm:(lo+hi) / 2<xs.size:=by lia
   have e:xs.getD ((lo+hi) / 2) j=xs.getD ((lo+hi) / 2) 0:=by simp[Array.getD,hm]
   rw[e];by_cases hc:xs.getD ((lo+hi) / 2) 0<j
   ·rw[if_pos hc];refine zgf xs j fuel _ _ ha (by lia) h2 (by lia) (λi hi'=>?_) h5;rcases Nat.lt_or_ge i ((lo+hi) / 2)with z | z
    ·exact Nat.lt_trans (ha.lt z hm) hc
    ·have:i=(lo+hi) / 2:=by lia
     rw[this];exact hc
   ·rw[if_neg hc];refine zgf xs j fuel _ _ ha (by lia) (by lia) (by lia) h4 λi hi' hs z=>hc ?_;rcases Nat.lt_or_ge ((lo+hi) / 2) i with y | y
    ·exact Nat.lt_trans (ha.lt y hs) z
    ·have:i=(lo+hi) / 2:=by lia
     rw[<- this];exact z
  ·rw[if_neg h];have:lo=hi:=by lia
   subst this;exact⟨h2,h4,h5⟩
theorem zjk {xs:Array Nat}(ha:Asc xs)(j:Nat):SetTable.below xs j<=xs.size/\(∀i,i<SetTable.below xs j->xs.getD i 0<j)/\∀i,SetTable.below xs j<=i->i<xs.size->¬ xs.getD i 0<j:=
 zgf xs j xs.size 0 xs.size ha (Nat.zero_le _) (Nat.le_refl _) (by lia) (λi h=>by lia) (λi h1 h2=>by lia)
theorem below_at {xs:Array Nat}(ha:Asc xs){i:Nat}(hi:i<=xs.size):SetTable.below xs (if i=0 then 0 else xs.getD (i-1) 0+1)=i:=by
 obtain⟨h1,h2,h3⟩:=zjk ha (if i=0 then 0 else xs.getD (i-1) 0+1)
 generalize SetTable.below xs (if i=0 then 0 else xs.getD (i-1) 0+1)=r at h1 h2 h3
 by_cases e:i=0
 ·subst e;rw[if_pos rfl]at h2;rcases Nat.eq_zero_or_pos r with z | z
  ·exact z
  ·exact absurd (h2 0 z) (by lia)
 ·rw[if_neg e]at h2 h3;rcases Nat.lt_trichotomy r i with z | z | z
  ·have q:=h3 (i-1) (by lia) (by lia);lia
  ·exact z
  ·have q1:=h2 i z;have q2:=ha.lt (show i-1<i by lia) (show i<xs.size by lia);lia
structure Rec (w:World)(h:Heap)(a:Addr)(es:Array (Int×Value))(ep:Nat)(t:SetTable):Prop where
 obj:∃o,h.get? a=some o/\o.ExactSet/\o.data=.set es ep t
 fits:t.fits es.size=true
 led:t.led=true\/w.params.followText "set-order" = true
 asc:Asc t.place
 dm:t.dummies = #[]
 sz:es.size<scanBound
theorem Rec.keep {w:World}{h h':Heap}{a:Addr}{es:Array (Int×Value)}{ep:Nat}{t:SetTable}(r:Rec w h a es ep t)(k:∀o,h.get? a=some o->h'.get? a=some o):Rec w h' a es ep t:=
 ⟨let ⟨o,e,x⟩:=r.obj;⟨o,k o e,x⟩,r.fits,r.led,r.asc,r.dm,r.sz⟩
theorem Rec.type {w:World}{s:Shared}{a:Addr}{es:Array (Int×Value)}{ep:Nat}{t:SetTable}(r:Rec w s.heap a es ep t):s.TypeIs (.ref a) "set":=
 let ⟨o,e,x,_⟩:=r.obj;⟨o,e,x.1⟩
namespace F
theorem slot_next:Slot "set_iterator" "__next__" "set_iterator.__next__":=.of (owner:="set_iterator") (n:="__next__") (by rw[typeLookup_type,builtinLookup_eq_fast];kernel_rfl) (by decide +kernel) (by decide +kernel) (by decide +kernel) (by first | exact .inl (by decide +kernel) | exact .inr (by decide +kernel)) (by rw[isSubtype_type];kernel_rfl)
theorem entry_next:entryFor table "set_iterator.__next__" = some Builtin.«set_iterator.__next__»:=entryFor_of_tree (by kernel_rfl)
theorem args_next (a:Value):argsOk "set_iterator.__next__" ⟨[a],[]⟩:=by unfold argsOk;kernel_rfl
theorem zha:Slot "set_iterator" "__iter__" "set_iterator.__iter__":=.of (owner:="set_iterator") (n:="__iter__") (by rw[typeLookup_type,builtinLookup_eq_fast];kernel_rfl) (by decide +kernel) (by decide +kernel) (by decide +kernel) (by first | exact .inl (by decide +kernel) | exact .inr (by decide +kernel)) (by rw[isSubtype_type];kernel_rfl)
theorem zku:entryFor table "set_iterator.__iter__" = some Builtin.«dict_keyiterator.__iter__»:=entryFor_alias (id':="dict_keyiterator.__iter__") (by kernel_rfl) rfl (by decide +kernel) (by kernel_rfl)
theorem zlo (a:Value):argsOk "set_iterator.__iter__" ⟨[a],[]⟩:=by unfold argsOk;kernel_rfl
theorem zfA:entryFor table "set.__iter__" = some Builtin.«frozenset.__iter__»:=entryFor_alias (id':="frozenset.__iter__") (by kernel_rfl) rfl (by decide +kernel) (by kernel_rfl)
end F
noncomputable abbrev byText (w:World):Bool:=w.params.followText "set-order"
noncomputable abbrev zeG (first:Value)(i n ep:Nat)(a:Addr):Obj:={ cls:=.type "set_iterator",data:=.fields #[first,.int i 0,.ref a,.int n 0,.int ep 0] }
inductive At (w:World) (h:Heap) (it a:Addr) (es:Array (Int×Value)) (ep:Nat) (t:SetTable):List Addr->List Value->Nat->Prop where
 | drawn (tp:Addr) (ps:List Nat) (i:Nat):(tp≠it)->h.get? it=some (zeG (.ref tp) i es.size ep a)->h.IsTuple tp (ps.map λ(p:Nat)=>Value.int (p:Int) 0).toArray->ps.Perm (List.range es.size)->At w h it a es ep t [tp] (ps.map λp=>(es.getD p (0,.none)).2) i
 | text (slot i:Nat):byText w=true->h.get? it=some (zeG (.int slot 0) i es.size ep a)->At w h it a es ep t [] ((pickOrder (w.params.setOrder a ep) es).toList.map (·.2)) i
 | one (slot i:Nat):byText w=false->t.led=true->(t.plain=true\/es.size<=1)->h.get? it=some (zeG (.int slot 0) i es.size ep a)->(slot=if i=0 then 0 else t.place.getD (i-1) 0+1)->At w h it a es ep t [] (es.toList.map (·.2)) i
section
variable {prog:Program}{w:World}{A:Around}{E:Value->Shared->Prop}{s:Shared}{a it:Addr}{es:Array (Int×Value)}{ep:Nat}{t:SetTable}
theorem zbb {Q:(Array (Int×Value)×Nat×SetTable)->Shared->Prop}(r:Rec w s.heap a es ep t)(h:Q (es,ep,t) s):wpAny (model prog w) A (setState a) Q E s:=by
 obtain⟨o,e,_,d⟩:=r.obj;exact wpAny_setState_of e d r.fits h
theorem zeL {slot i n:Nat}{P:PySem.Fin->Shared->Prop}{F:Value->Shared->Prop}(r:Rec w s.heap a es ep t)(ho:s.heap.get? it=some (zeG (.int slot 0) i es.size ep a))
  (h:wpAny (model prog w) A (setNext a slot i ep >>= λm=>match m with
     | some (x,next)=>setField (.ref it) 0 (rawInt next) >>= λ_=>setField (.ref it) 1 (rawInt ((i:Int)+1)) >>= λ_=>ret x
     | none=>setField (.ref it) 2 .none >>= λ_=>newExc (.type "StopIteration") [] >>= λe=>raiseNew e) P F s) :
  wpAny (model prog w) A (Builtin.«set_iterator.__next__» ⟨[.ref it],[]⟩) P F s:=by
 unfold Builtin.«set_iterator.__next__» slotArgs;simp only[List.isEmpty_nil,Bool.not_true,Bool.false_eq_true,if_false,List.length_nil,bne_self_eq_false];refine wpAny_bind (wpAny_pure (wpAny_bind (wpAny_fieldsOf ho rfl ?_)));dsimp only;unfold setEntries;refine wpAny_bind (wpAny_bind (zbb r (wpAny_pure ?_)));simp only[bne_self_eq_false,Bool.false_eq_true,if_false,Int.toNat_natCast];exact h
theorem zjl {tp i n:Nat}{items:Array Value}{P:PySem.Fin->Shared->Prop}{F:Value->Shared->Prop}(r:Rec w s.heap a es ep t)(ho:s.heap.get? it=some (zeG (.ref tp) i es.size ep a))(ht:s.heap.IsTuple tp items)
  (h:wpAny (model prog w) A (match items[i]? with
      | some (.int place _)=>setNextDrawn a place.toNat ep >>= λx=>setField (.ref it) 1 (rawInt ((i:Int)+1)) >>= λ_=>ret x
      | some _=>unsupported "internal:set_iterator"
      | none=>setField (.ref it) 0 (rawInt 0) >>= λ_=>setField (.ref it) 2 .none >>= λ_=>newExc (.type "StopIteration") [] >>= λe=>raiseNew e) P F s) :
  wpAny (model prog w) A (Builtin.«set_iterator.__next__» ⟨[.ref it],[]⟩) P F s:=by
 unfold Builtin.«set_iterator.__next__» slotArgs;simp only[List.isEmpty_nil,Bool.not_true,Bool.false_eq_true,if_false,List.length_nil,bne_self_eq_false];refine wpAny_bind (wpAny_pure (wpAny_bind (wpAny_fieldsOf ho rfl ?_)));dsimp only;unfold setEntries;refine wpAny_bind (wpAny_bind (zbb r (wpAny_pure ?_)));simp only[bne_self_eq_false,Bool.false_eq_true,if_false,Int.toNat_natCast];obtain⟨o,ho',_,n',hd⟩:=ht;exact wpAny_bind (wpAny_seqItems ho' hd h)
theorem zey {i:Nat}{slot:Nat}{Q:Option (Value×Nat)->Shared->Prop}(r:Rec w s.heap a es ep t)(hb:byText w=true)
  (h:Q (((pickOrder (w.params.setOrder a ep) es)[i]?).map λe=>(e.2,slot)) s):wpAny (model prog w) A (setNext a slot i ep) Q E s:=by
 have hb':w.params.followText "set-order" = true:=hb;unfold setNext setsByText;refine wpAny_bind (zbb r ?_);refine wpAny_bind (wpAny_bind (wpAny_askSetting (wpAny_pure ?_)));simp only[model,hb',if_true,bne_self_eq_false,Bool.false_eq_true,if_false];unfold setWalk setsByText;refine wpAny_bind (wpAny_bind (zbb r ?_));refine wpAny_bind (wpAny_bind (wpAny_askSetting (wpAny_pure ?_)));simp only[model,hb',if_true];exact wpAny_bind (wpAny_askSetting (wpAny_pure (wpAny_pure h)))
theorem zeZ {i:Nat}{slot:Nat}{Q:Option (Value×Nat)->Shared->Prop}(r:Rec w s.heap a es ep t)(hb:byText w=false)(hl:t.led=true)(h1:t.plain=true\/es.size<=1)
  (h:Q (match es[SetTable.below t.place slot]?,t.place[SetTable.below t.place slot]? with | some (_,x),some j=>some (x,j+1) | _,_=>none) s):wpAny (model prog w) A (setNext a slot i ep) Q E s:=by
 have hb':w.params.followText "set-order" = false:=hb;unfold setNext setsByText;refine wpAny_bind (zbb r ?_);refine wpAny_bind (wpAny_bind (wpAny_askSetting (wpAny_pure ?_)));simp only[model,hb',Bool.false_eq_true,if_false];have hd:(!t.plain&&decide (es.size > 1))=false:=by
  rcases h1 with z | z
  ·rw[z];rfl
  ·rw[decide_eq_false (by lia),Bool.and_false]
 have hm:(!t.led&&!es.isEmpty)=false:=by rw[hl];rfl
 show wpAny (model prog w) A (if (!t.plain&&decide (es.size > 1))=true then _ else((if (!t.led&&!es.isEmpty)=true then unsupported "set:maker-not-led" else pure ()) >>= λ_=>pure _)) Q E s
 rw[hd,hm];exact wpAny_bind (wpAny_pure (wpAny_pure h))
theorem zkv {p:Nat}{x:Value}{hx:Int}{Q:Value->Shared->Prop}(r:Rec w s.heap a es ep t)(hp:es[p]? = some (hx,x))(h:Q x s):wpAny (model prog w) A (setNextDrawn a p ep) Q E s:=by
 unfold setNextDrawn;refine wpAny_bind (zbb r ?_);simp only[bne_self_eq_false,Bool.false_eq_true,if_false,hp];exact wpAny_pure h
theorem zlp (hh:A.handled=none){R:Option Value->Shared->Prop}(hR:∀h',(∀b o,s.heap.get? b=some o->h'.get? b=some o)->R none { s with heap:=h' }) :
  wpAny (model prog w) A.in1 (newExc (.type "StopIteration") [] >>= λe=>(raiseNew e:Sem PySem.Fin)) (λ_ _=>False)
   (λe s'=>wpAny (model prog w) A (isInstance e (.type "StopIteration") >>= λb=>if b=true then pure none else throw e) R E s') s:=by
 refine wpAny_bind ?_;simp only[newExc,newTuple];refine wpAny_bind (wpAny_newObj_type (wpAny_bind (m:=firstArgMember _ _) (wpAny_of_eq (a:=Value.none) (by first | rfl | (simp only[firstArgMember];rfl)) (wpAny_newObj_type ?_ (by size_fits)))) (by size_fits))
 simp only[raiseNew];refine wpAny_bind (wpAny_handled ?_);rw[show A.in1.handled=none from hh];refine wpAny_bind (wpAny_pure (wpAny_throw ?_));refine wpAny_bind (wpAny_isInstance (T:="StopIteration") (b:=true) ⟨_,Heap.get?_push_size _ rfl,rfl⟩ isSubtype_stop ?_);exact wpAny_pure (hR _ λb o e=>Heap.get?_push_of_some _ (Heap.get?_push_of_some _ e))
theorem zcf {first:Value}{i n:Nat}{Q:Option Value->Shared->Prop}(ho:s.heap.get? it=some (zeG first i n ep a))
  (h:wpAny (model prog w) A.in1 (Builtin.«set_iterator.__next__» ⟨[.ref it],[]⟩) (λfin s'=>∃u,fin=.done (.ret u)/\Q (some u) s')
   (λe s'=>wpAny (model prog w) A (isInstance e (.type "StopIteration") >>= λb=>if b=true then pure none else throw e) Q E s') s):wpAny (model prog w) A (pyNext (.ref it)) Q E s:=by
 have hT:s.TypeIs (.ref it) "set_iterator":=⟨_,ho,rfl⟩;unfold pyNext;refine wpAny_bind (wpAny_attempt (wpAny_callSpecial?_slot (name:=Str.ofString "__next__") hT F.slot_next (wpAny_call_entry F.slot_next hT F.entry_next ?_ (F.args_next _))));exact wpAny_mono h (λfin s' ⟨u,e,q⟩=>⟨u,e,wpAny_pure q⟩) λ_ _ z=>z
theorem next_item {tq:List Addr}{order:List Value}{i:Nat}{v:Value}{Q:Option Value->Shared->Prop}(r:Rec w s.heap a es ep t)(x:At w s.heap it a es ep t tq order i)(hv:order[i]? = some v)
  (hQ:∀h',At w h' it a es ep t tq order (i+1)->Heap.SameBut it s.heap h'->Q (some v) { s with heap:=h' }):wpAny (model prog w) A (pyNext (.ref it)) Q E s:=by
 have hc:((i:Int)+1)=((i+1:Nat):Int):=by lia
 cases x with
 | drawn tp ps _ hne ho ht hp=>
  refine zcf ho (zjl (n:=0) r ho ht ?_);rw[List.getElem?_map]at hv;cases hpi:ps[i]? with
  | none=>rw[hpi]at hv;cases hv
  | some p=>
   rw[hpi]at hv;have hlt:p<es.size:=List.mem_range.mp (hp.mem_iff.mp (List.mem_of_getElem? hpi));have e1:(ps.map λ(p:Nat)=>Value.int (p:Int) 0).toArray[i]? = some (Value.int (p:Int) 0):=by simp[hpi]
   rw[e1];dsimp only;have e2:es[p]? = some (es[p].1,es[p].2):=by simp[hlt]
   have e3:v=es[p].2:=by
    have q:=Option.some.inj hv;rw[<- q];simp[Array.getD,hlt]
   rw[Int.toNat_natCast];refine wpAny_bind (zkv r e2 (wpAny_bind (wpAny_setField ho rfl (by show 1<5;decide) (wpAny_pure ⟨_,rfl,?_⟩))));rw[<- e3];refine hQ _ (.drawn tp ps (i+1) hne ?_ ?_ hp) (Heap.SameBut.update ..)
   ·rw[hc];exact Heap.get?_update_self _ ho rfl
   ·obtain⟨o,q,c⟩:=ht;exact⟨o,(Heap.get?_update_other _ _ (Ne.symm hne)).trans q,c⟩
 | text slot _ hb ho=>
  refine zcf ho (zeL (n:=0) r ho (wpAny_bind (zey r hb ?_)));rw[List.getElem?_map]at hv;cases hpi:(pickOrder (w.params.setOrder a ep) es).toList[i]? with
  | none=>rw[hpi]at hv;cases hv
  | some p=>
   rw[hpi]at hv;have e1:(pickOrder (w.params.setOrder a ep) es)[i]? = some p:=by rw[<- Array.getElem?_toList];exact hpi
   have e3:p.2=v:=Option.some.inj hv;rw[e1];dsimp only[Option.map];rw[e3];have ho1:(s.heap.update it (Obj.mapFields (·.setIfInBounds 0 (rawInt slot)))).get? it=some (zeG (.int slot 0) i es.size ep a):=Heap.get?_update_self _ ho rfl;refine wpAny_bind (wpAny_setField ho rfl (by show 0<5;decide) (wpAny_bind (wpAny_setField ho1 rfl (by show 1<5;decide) (wpAny_pure ⟨_,rfl,?_⟩))));refine hQ _ (.text slot (i+1) hb ?_) ((Heap.SameBut.update ..).trans (Heap.SameBut.update ..));rw[hc];exact Heap.get?_update_self _ ho1 rfl
 | one slot _ hb hl h1 ho h0=>
  refine zcf ho (zeL (n:=0) r ho (wpAny_bind (zeZ r hb hl h1 ?_)));have hi:i<es.size:=by
   have q:=(List.getElem?_eq_some_iff.mp hv).1;simpa using q
  have hps:t.place.size=es.size:=by
   have q:=r.fits;simp only[SetTable.fits,Bool.and_eq_true,beq_iff_eq]at q;exact q.1
  have e0:SetTable.below t.place slot=i:=by rw[h0];exact below_at r.asc (by lia)
  have e1:es[i]? = some (es[i].1,es[i].2):=by simp[hi]
  have e3:es[i].2=v:=by
   rw[List.getElem?_map]at hv;have q:es.toList[i]? = some es[i]:=by simp[hi]
   rw[q]at hv;exact Option.some.inj hv
  have hip:i<t.place.size:=by lia
  obtain⟨pl,hpl⟩:∃pl,t.place[i]? = some pl:=⟨t.place[i],getElem?_pos t.place i hip⟩;have hpd:t.place.getD i 0=pl:=by
   rw[getElem?_pos t.place i hip]at hpl;simp only[Array.getD,hip,dif_pos];exact Option.some.inj hpl
  rw[e0,e1,hpl];dsimp only;rw[e3];have ho1:(s.heap.update it (Obj.mapFields (·.setIfInBounds 0 (rawInt ((pl+1:Nat):Int))))).get? it=some (zeG (.int ((pl+1:Nat):Int) 0) i es.size ep a):=Heap.get?_update_self _ ho rfl;refine wpAny_bind (wpAny_setField ho rfl (by show 0<5;decide) (wpAny_bind (wpAny_setField ho1 rfl (by show 1<5;decide) (wpAny_pure ⟨_,rfl,?_⟩))));refine hQ _ (.one (pl+1) (i+1) hb hl h1 ?_ (by rw[if_neg (by lia),Nat.add_sub_cancel,hpd])) ((Heap.SameBut.update ..).trans (Heap.SameBut.update ..));rw[hc];exact Heap.get?_update_self _ ho1 rfl
theorem zlq {tq:List Addr}{order:List Value}{Q:Option Value->Shared->Prop}(hh:A.handled=none)(r:Rec w s.heap a es ep t)(x:At w s.heap it a es ep t tq order es.size)
  (hQ:∀h',(∀b o,b≠it->s.heap.get? b=some o->h'.get? b=some o)->Q none { s with heap:=h' }):wpAny (model prog w) A (pyNext (.ref it)) Q E s:=by
 have up:∀(k:Nat) (y:Value) (h:Heap) (b:Addr) (o:Obj),b≠it->h.get? b=some o->(h.update it (Obj.mapFields (·.setIfInBounds k y))).get? b=some o:=λk y h b o hb e=>(Heap.get?_update_other _ _ (Ne.symm hb)).trans e;have two:∀(slot i:Nat),s.heap.get? it=some (zeG (.int slot 0) i es.size ep a)->wpAny (model prog w) A.in1 (setField (.ref it) 2 .none >>= λ_=>newExc (.type "StopIteration") [] >>= λe=>(raiseNew e:Sem PySem.Fin))
   (λfin s'=>∃u,fin=.done (.ret u)/\Q (some u) s') (λe s'=>wpAny (model prog w) A (isInstance e (.type "StopIteration") >>= λb=>if b=true then pure none else throw e) Q E s') s:=λslot i ho=>by
  refine wpAny_bind (wpAny_setField ho rfl (by show 2<5;decide) ?_);exact wpAny_mono (zlp (E:=E) (R:=Q) hh λh' k=>hQ h' λb o hb e=>k b o (up _ _ _ b o hb e)) (λ_ _ z=>z.elim) λ_ _ z=>z
 cases x with
 | drawn tp ps _ hne ho ht hp=>
  refine zcf ho (zjl (n:=0) r ho ht ?_);have e1:(ps.map λ(p:Nat)=>Value.int (p:Int) 0).toArray[es.size]? = none:=by
   have q:=hp.length_eq;rw[List.length_range]at q;simp[q]
  rw[e1];dsimp only;have ho1:(s.heap.update it (Obj.mapFields (·.setIfInBounds 0 (rawInt 0)))).get? it=some (zeG (.int ((0:Nat):Int) 0) es.size es.size ep a):=Heap.get?_update_self _ ho rfl;refine wpAny_bind (wpAny_setField ho rfl (by show 0<5;decide) (wpAny_bind (wpAny_setField ho1 rfl (by show 2<5;decide) ?_)));exact wpAny_mono (zlp (E:=E) (R:=Q) hh λh' k=>hQ h' λb o hb e=>k b o (up _ _ _ b o hb (up _ _ _ b o hb e))) (λ_ _ z=>z.elim) λ_ _ z=>z
 | text slot _ hb ho=>
  refine zcf ho (zeL (n:=0) r ho (wpAny_bind (zey r hb ?_)));have q:=(zgZ (w.params.setOrder a ep) es).length_eq;have e1:(pickOrder (w.params.setOrder a ep) es)[es.size]? = none:=by
   simp only[Array.length_toList]at q;simp[q]
  rw[e1];dsimp only[Option.map];exact two slot _ ho
 | one slot _ hb hl h1 ho h0=>
  refine zcf ho (zeL (n:=0) r ho (wpAny_bind (zeZ r hb hl h1 ?_)));have hps:t.place.size=es.size:=by
   have q:=r.fits;simp only[SetTable.fits,Bool.and_eq_true,beq_iff_eq]at q;exact q.1
  have e0:es[SetTable.below t.place slot]? = none:=by
   rw[h0,below_at r.asc (by lia)];simp
  rw[e0];dsimp only;exact two slot _ ho
theorem zlr {Q:Bool->Shared->Prop}(r:Rec w s.heap a es ep t)(h:Q (!byText w&&(!t.plain&&decide (es.size > 1))) s):wpAny (model prog w) A (setDrawn a) Q E s:=by
 unfold setDrawn setsByText;refine wpAny_bind (zbb r ?_);exact wpAny_bind (wpAny_bind (wpAny_askSetting (wpAny_pure (wpAny_pure h))))
theorem At.keep {h h':Heap}{tq:List Addr}{order:List Value}{i:Nat}(x:At w h it a es ep t tq order i)(k:∀b∈it::tq,∀o,h.get? b=some o->h'.get? b=some o):At w h' it a es ep t tq order i:=by
 cases x with
 | drawn tp ps _ hne ho ht hp=>
  obtain⟨o,q,c⟩:=ht;exact .drawn tp ps i hne (k it (by simp) _ ho) ⟨o,k tp (by simp) o q,c⟩ hp
 | text slot _ hb ho=>exact .text slot i hb (k it (by simp) _ ho)
 | one slot _ hb hl h1 ho h0=>exact .one slot i hb hl h1 (k it (by simp) _ ho) h0
theorem At.len {h:Heap}{tq:List Addr}{order:List Value}{i:Nat}(x:At w h it a es ep t tq order i):order.Perm (es.toList.map (·.2)):=by
 cases x with
 | drawn tp ps _ hne ho ht hp=>
  have e:(List.range es.size).map (λp=>(es.getD p (0,Value.none)).2)=es.toList.map (·.2):=by
   apply List.ext_getElem
   ·simp
   ·intro j h1 h2;simp at h1;simp[Array.getD,h1]
  rw[<- e];exact hp.map _
 | text slot _ hb ho=>exact(zgZ _ _).map _
 | one slot _ hb hl h1 ho h0=>exact List.Perm.refl _
theorem zno {Q:Value->Shared->Prop}(r:Rec w s.heap a es ep t)
  (h:∀(h':Heap) (d:Drawn) (it:Addr) (tq:List Addr) (order:List Value),(∀b o,s.heap.get? b=some o->h'.get? b=some o)->s.heap.objs.size<=it->(∀b∈it::tq,s.heap.objs.size<=b/\b<h'.objs.size)->At w h' it a es ep t tq order 0->
   Q (.ref it) { s with heap:=h',drawn:=d }):wpAny (model prog w) A (pyIter (.ref a)) Q E s:=by
 refine wpAny_pyIter_slot r.type PySem.F.slot_set_iter (wpAny_call_entry PySem.F.slot_set_iter r.type F.zfA ?_ (PySem.F.args_set_iter_1 _));unfold Builtin.«frozenset.__iter__» Builtin.Frozenset.slot0 slotArgs;simp only[List.isEmpty_nil,Bool.not_true,Bool.false_eq_true,if_false,List.length_nil,bne_self_eq_false,bind_assoc];unfold Builtin.Frozenset.addrOf Builtin.Frozenset.sizeOf setEntries setEpoch;refine wpAny_bind (wpAny_pure ?_);dsimp only;refine wpAny_bind (wpAny_pure ?_);simp only[bind_assoc];refine wpAny_bind (zbb r (wpAny_bind (wpAny_pure (wpAny_bind (wpAny_pure (wpAny_bind (zlr r ?_)))))));cases hd:(!byText w&&(!t.plain&&decide (es.size > 1)))with
 | true=>
  simp only[Bool.and_eq_true,Bool.not_eq_true',decide_eq_true_eq]at hd;simp only[if_true,bind_assoc];refine wpAny_bind (zjj es.size (List.range es.size) _ _ (by simp) λps d hp=>?_);refine wpAny_bind (wpAny_newTuple ?_ (by rw[List.length_map,hp.length_eq,List.length_range];exact fits_of_scanBound r.sz));dsimp only;have hz:(s.heap.push { cls:=.type "tuple",data:=.seq (ps.map λ(i:Nat)=>rawInt (i:Int)).toArray }).objs.size=s.heap.objs.size+1:=Heap.size_push ..;have r1:Rec w (s.heap.push { cls:=.type "tuple",data:=.seq (ps.map λ(i:Nat)=>rawInt (i:Int)).toArray }) a es ep t:=r.keep λo e=>Heap.get?_push_of_some _ e;refine wpAny_bind (zbb (s:={ s with heap:=s.heap.push { cls:=.type "tuple",data:=.seq (ps.map λ(i:Nat)=>rawInt (i:Int)).toArray },drawn:=d }) r1 (wpAny_bind (wpAny_pure (wpAny_bind (wpAny_newObj_type (wpAny_pure ?_))))));refine⟨_,rfl,"set_iterator",_,⟨_,Heap.get?_push_size _ rfl,rfl⟩,F.slot_next.lookup,?_⟩;refine h _ d _ [s.heap.objs.size] _ (λb o e=>Heap.get?_push_of_some _ (Heap.get?_push_of_some _ e)) (by rw[hz];exact Nat.le_succ _) (λb hb=>?_)
   (.drawn s.heap.objs.size ps 0 (by rw[hz];exact Nat.ne_of_lt (Nat.lt_succ_self _)) (Heap.get?_push_size _ rfl) ⟨_,Heap.get?_push_of_some _ (Heap.get?_push_size _ rfl),rfl,_,rfl⟩ hp)
  rw[Heap.size_push,hz];rcases List.mem_cons.mp hb with e | hb
  ·rw[hz]at e;rw[e];exact⟨Nat.le_succ _,Nat.lt_succ_self _⟩
  ·have e:=List.mem_singleton.mp hb;rw[e];exact⟨Nat.le_refl _,Nat.lt_succ_of_lt (Nat.lt_succ_self _)⟩
 | false=>
  simp only[Bool.false_eq_true,if_false];refine wpAny_bind (wpAny_pure (wpAny_bind (zbb r (wpAny_bind (wpAny_pure (wpAny_bind (wpAny_newObj_type (wpAny_pure ?_))))))));refine⟨_,rfl,"set_iterator",_,⟨_,Heap.get?_push_size _ rfl,rfl⟩,F.slot_next.lookup,?_⟩;have fin:∀order,At w (s.heap.push (zeG (.int ((0:Nat):Int) 0) 0 es.size ep a)) s.heap.objs.size a es ep t [] order 0->Q (.ref s.heap.objs.size) { s with heap:=s.heap.push (zeG (.int ((0:Nat):Int) 0) 0 es.size ep a) }:=λorder x=>
   h _ s.drawn _ [] order (λb o e=>Heap.get?_push_of_some _ e) (Nat.le_refl _) (λb hb=>by
    have e:b=s.heap.objs.size:=by simpa using hb
    subst e;rw[Heap.size_push];exact⟨Nat.le_refl _,Nat.lt_succ_self _⟩) x
  cases hb:byText w with
  | true=>exact fin _ (.text 0 0 hb (Heap.get?_push_size _ rfl))
  | false=>
   rw[hb]at hd;have hl:t.led=true:=by
    rcases r.led with z | z
    ·exact z
    ·have z':byText w=true:=z;rw[hb]at z';cases z'
   have h1:t.plain=true\/es.size<=1:=by
    cases hp:t.plain with
    | true=>exact .inl rfl
    | false=>
     rw[hp]at hd;simp only[Bool.not_false,Bool.true_and,decide_eq_false_iff_not]at hd;exact .inr (by lia)
   exact fin _ (.one 0 0 hb hl h1 (Heap.get?_push_size _ rfl) rfl)
theorem walks {tq:List Addr}{order:List Value}(hh:A.handled=none)(hta:a∉it::tq)(h0:order.length=es.size) :
  WalksS prog w A it (it::a::tq) [it] (λx y=>y=x) es.size (λi v=>order[i]? = some v) (λi s=>Rec w s.heap a es ep t/\At w s.heap it a es ep t tq order i) where
 sub:=λb hb=>by
  have e:b=it:=by simpa using hb
  subst e;exact List.mem_cons_self
 grefl:=λ_=>rfl
 gtrans:=λ_ _ _ h1 h2=>h2.trans h1
 frame:=λi s h' tk st _ k=>⟨st.1.keep λo e=>k a (by simp) o e,st.2.keep λb hb o e=>k b (by
  rcases List.mem_cons.mp hb with z | z
  ·subst z;exact List.mem_cons_self
  ·exact List.mem_cons_of_mem _ (List.mem_cons_of_mem _ z)) o e⟩
 item:=λi s Q E hi st hQ=>by
  have hv:order[i]? = some (order[i]'(by lia)):=by simp
  refine next_item st.1 st.2 hv λh' x sb=>?_;have ne:a≠it:=λz=>hta (by rw[z];exact List.mem_cons_self);exact hQ _ _ hv ⟨st.1.keep λo e=>(sb.2 a ne).trans e,x⟩ ⟨λb o hb e=>(sb.2 b (λz=>hb (by simp[z]))).trans e,rfl,rfl,rfl,Nat.le_refl _⟩
 done:=λs Q E st hQ=>zlq hh st.1 st.2 λh' k=>hQ _ ⟨λb o hb e=>k b o (λz=>hb (by simp[z])) e,rfl,rfl,rfl,Nat.le_refl _⟩
 self:=λi s Q E st hQ=>by
  have hT:s.TypeIs (.ref it) "set_iterator":=by
   rcases st.2 with ⟨tp,ps,_,_,ho,_⟩ | ⟨slot,_,_,ho⟩ | ⟨slot,_,_,_,_,ho,_⟩
   ·exact⟨_,ho,rfl⟩
   ·exact⟨_,ho,rfl⟩
   ·exact⟨_,ho,rfl⟩
  refine wpAny_pyIter_slot hT F.zha (wpAny_call_entry F.zha hT F.zku ?_ (F.zlo _));show wpAny _ _ (ret (.ref it)) _ _ s;exact wpAny_pure ⟨_,rfl,"set_iterator",_,hT,F.slot_next.lookup,hQ⟩
theorem zfa {Q:List Value->Shared->Prop}(hh:A.handled=none)(r:Rec w s.heap a es ep t)
  (h:∀(h':Heap) (d:Drawn) (tk:Nat) (order:List Value),order.Perm (es.toList.map (·.2))->(∀b o,s.heap.get? b=some o->h'.get? b=some o)->Q order { s with heap:=h',drawn:=d,toks:=tk }):wpAny (model prog w) A (collect (.ref a)) Q E s:=by
 unfold collect;refine wpAny_bind (wpAny_runValue (codeAny_builtin PySem.F.entry_proto_collect ?_));rw[Around.under_plainId PySem.F.plain_proto_collect _];show wpAny _ A.in1 (newList [] >>= λl=>again (.builtin "list.__iadd__" ⟨[l,.ref a],[]⟩)) _ _ s;refine wpAny_bind (wpAny_newList (wpAny_pure ⟨plainId_quiet PySem.F.plain_list_iadd _,codeAny_builtin PySem.F.entry_list_iadd ?_⟩));rw[Around.under_plainId PySem.F.plain_list_iadd _];have hS0:(s.heap.push { cls:=.type "list",data:=.seq ([]:List Value).toArray }).get? s.heap.objs.size=some { cls:=.type "list",data:=.seq ([]:List Value).toArray }:=Heap.get?_push_size _ rfl;have hz0:(s.heap.push { cls:=.type "list",data:=.seq ([]:List Value).toArray }).objs.size=s.heap.objs.size+1:=Heap.size_push ..;have r0:Rec w (s.heap.push { cls:=.type "list",data:=.seq ([]:List Value).toArray }) a es ep t:=r.keep λo e=>Heap.get?_push_of_some _ e;have haS:a<s.heap.objs.size:=by obtain⟨o,e,_⟩:=r.obj;exact Heap.lt_size e
 show wpAny _ A.in1 (Builtin.List.listExtendWith (.ref s.heap.objs.size) (.ref a) (.ref s.heap.objs.size)) _ _ { s with heap:=s.heap.push { cls:=.type "list",data:=.seq ([]:List Value).toArray } };unfold Builtin.List.listExtendWith;refine wpAny_bind (wpAny_typeOf (T:="set") r0.type ?_);have h1:Builtin.List.listSameRef (.ref s.heap.objs.size) (.ref a)=false:=by simp[Builtin.List.listSameRef,Nat.ne_of_gt haS]
 have h2:(Value.type "set" == Value.type "list")=false:=by decide
 have h3:(Value.type "set" == Value.type "tuple")=false:=by decide
 simp only[h1,h2,h3,Bool.or_false,Bool.false_eq_true,if_false];refine wpAny_bind (zno (s:={ s with heap:=s.heap.push { cls:=.type "list",data:=.seq ([]:List Value).toArray } }) r0 λh' d it tq order kp hit hfp x=>?_);have rT:Shared.TypeIs { s with heap:=h',drawn:=d } (.ref a) "set":=(r0.keep λo e=>kp a o e).type;have room:∀ {Q':Bool->Shared->Prop} {A':Around} {E':Value->Shared->Prop},Q' false { s with heap:=h',drawn:=d }->wpAny (model prog w) A' (Builtin.List.listLengthHint (.ref a)) Q' E' { s with heap:=h',drawn:=d }:=λ{Q' A' E'} hq=>by
  unfold Builtin.List.listLengthHint;refine wpAny_bind (wpAny_specialOf rT PySem.F.slot_set_len.lookup ?_);generalize hid:("set.__len__" : String)=id0;wp_delta;rw[show splitId id0=some ("set","__len__") from by subst hid;decide +kernel];subst hid;refine wpAny_bind (wpAny_isInstance (T:="set") (b:=true) rT (by rw[isSubtype_type];kernel_rfl) ?_);refine wpAny_ite_split (λhab=>absurd hab (by decide)) (λ_=>wpAny_ite_split (λ_=>?_) (λhab=>absurd (by decide +kernel) hab));exact wpAny_bind (wpAny_typeOf rT (wpAny_pure hq))
 refine wpAny_bind (wpAny_holding (room ?_));show wpAny _ A.in1 (rule "list.extend.makes-room" >>= λ_=>Builtin.List.listTouch (.ref s.heap.objs.size) >>= λ_=>again (.builtin "list.extend.loop" ⟨[.ref s.heap.objs.size,.ref it,.ref s.heap.objs.size],[]⟩)) _ _ { s with heap:=h',drawn:=d };refine wpAny_bind (wpAny_rule ?_);have hS1:h'.get? s.heap.objs.size=some { cls:=.type "list",data:=.seq ([]:List Value).toArray }:=kp _ _ hS0;refine wpAny_bind ?_;show wpAny _ A.in1 (updateSeq s.heap.objs.size (·.push .none) >>= λ_=>updateSeq s.heap.objs.size (·.pop)) _ _ { s with heap:=h',drawn:=d };refine wpAny_bind (wpAny_updateSeq hS1 rfl ?_);have hS2:=Heap.get?_update_self (Obj.mapSeq (·.push Value.none)) hS1 rfl;refine wpAny_updateSeq hS2 rfl ?_;have hS3:=Heap.get?_update_self (Obj.mapSeq (·.pop)) hS2 rfl;have oth:∀b o,b≠s.heap.objs.size->h'.get? b=some o->((h'.update s.heap.objs.size (Obj.mapSeq (·.push Value.none))).update s.heap.objs.size (Obj.mapSeq (·.pop))).get? b=some o:=
  λb o hb e=>(Heap.get?_update_other _ _ (Ne.symm hb)).trans ((Heap.get?_update_other _ _ (Ne.symm hb)).trans e)
 have hlow:∀b∈it::tq,s.heap.objs.size<b:=λb hb=>by
  have q:=(hfp b hb).1;dsimp only at q;rw[hz0]at q;exact q
 have hta:a∉it::tq:=λz=>Nat.lt_asymm haS (hlow a z);have hSf:s.heap.objs.size∉it::a::tq:=λz=>by
  rcases List.mem_cons.mp z with e | z
  ·exact absurd (hlow it List.mem_cons_self) (by rw[<- e];exact Nat.lt_irrefl _)
  ·rcases List.mem_cons.mp z with e | z
   ·exact absurd haS (by rw[<- e];exact Nat.lt_irrefl _)
   ·exact absurd (hlow _ (List.mem_cons_of_mem _ z)) (Nat.lt_irrefl _)
 have W:=walks (prog:=prog) (w:=w) (A:=A.in1) (it:=it) (a:=a) (es:=es) (ep:=ep) (t:=t) (tq:=tq) (order:=order) (by simpa using hh) hta (by rw[x.len.length_eq];simp);refine wpAny_pure ⟨plainId_quiet PySem.F.plain_extend_loop _,codeAny_extend_loopS W (fits_of_scanBound r.sz) _ hSf _ es.size 0 _ _ _ rfl (Nat.zero_le _) ⟨(r0.keep λo e=>kp a o e).keep λo e=>oth a o (Nat.ne_of_lt haS) e,x.keep λb hb o e=>oth b o (Nat.ne_of_gt (hlow b hb)) e⟩ hS3 (ItemsOf.nil _) λs' acc' c' hm hS' hacc=>?_⟩;show wpAny _ A (load s.heap.objs.size >>= _) _ _ s';refine wpAny_bind (wpAny_load hS' (wpAny_pure ?_));have eacc:acc'.toList=order:=by
  apply List.ext_getElem?;intro j;by_cases hj:j<es.size
  ·have q1:acc'[j]? = some (acc'[j]'(by rw[hacc.1];exact hj)):=by simp[hacc.1,hj]
   have q2:=hacc.2 j _ q1;rw[q2,<- q1];simp
  ·have q1:acc'.toList[j]? = none:=by simp[hacc.1];lia
   have q3:order.length=es.size:=by rw[x.len.length_eq];simp
   have q2:order[j]? = none:=by simp[q3];lia
   rw[q1,q2]
 rw[eacc];obtain⟨h2',g2,d2,t2,o2⟩:=s';have e1:g2=s.gens:=hm.gens;have e2:d2=d:=hm.drawn;have e3:o2=s.os:=hm.os;subst e1 e2 e3;refine h h2' d2 t2 order x.len λb o e=>?_;have hb:b<s.heap.objs.size:=Heap.lt_size e;refine hm.heap b o (λz=>?_) (oth b o (Nat.ne_of_lt hb) (kp b o (Heap.get?_push_of_some _ e)));rcases List.mem_cons.mp z with q | q
 ·exact Nat.ne_of_lt hb q
 ·have q':b=it:=by simpa using q
  exact absurd (hlow it List.mem_cons_self) (by rw[<- q'];exact Nat.lt_asymm hb)
end
open PySem PySem.Spec PyProof.Rows
noncomputable def sOf:Value->Str
 | .str x _=>x
 | _=>Str.empty
theorem zfH {t t':SetTable}{hs:Array Int}{n:Nat}{o:Array Nat}(h:t.relaid hs n=some (t',o)):t'.led=t.led/\t'.plain=t.plain:=by
 unfold SetTable.relaid SetTable.laid at h;cases e:SetTable.layClean (SetTable.sizeAbove n-1) hs with
 | none=>rw[e]at h;cases h
 | some ow=>
  rw[e]at h;have q:=Option.some.inj h;rw[<- (Prod.mk.inj q).1];exact⟨rfl,rfl⟩
theorem zkw (t:SetTable)(es:Array (Int×Value))(h:Int)(x:Value):(layNew t es h x).2.1.led=t.led/\(t.plain=false->(layNew t es h x).2.1.plain=false):=by
 unfold layNew;cases e:t.freeSlot h with
 | none=>exact⟨rfl,λ_=>rfl⟩
 | some p=>
  obtain⟨slot,dm⟩:=p;dsimp only;unfold SetTable.orStandIn;split
  ·exact⟨rfl,λz=>z⟩
  ·exact⟨rfl,λ_=>rfl⟩
theorem zls (t:SetTable)(es:Array (Int×Value))(n:Nat):(relayAll t es n).2.1.led=t.led/\(t.plain=false->(relayAll t es n).2.1.plain=false):=by
 unfold relayAll;cases e:t.relaid (es.map (·.1)) n with
 | none=>exact⟨rfl,λ_=>rfl⟩
 | some p=>
  obtain⟨t',o⟩:=p;dsimp only;split
  ·exact⟨(zfH e).1,λz=>(zfH e).2.trans z⟩
  ·exact⟨rfl,λ_=>rfl⟩
theorem zkx {xs:Array Nat}(ha:Asc xs){j:Nat}(hn:¬ (xs[SetTable.below xs j]? == some j)=true):Asc (SetTable.insertAt xs (SetTable.below xs j) j):=by
 obtain⟨h1,h2,h3⟩:=zjk ha j;generalize SetTable.below xs j=r at h1 h2 h3 hn;have hnot:∀i,r<=i->i<xs.size->j<xs.getD i 0:=λi g1 g2=>by
  have q:=h3 r (Nat.le_refl _) (by lia);have q2:xs.getD r 0≠j:=λe=>by
   have hr:r<xs.size:=by lia
   have e2:xs[r]=j:=by simpa[Array.getD,hr]using e
   exact hn (by rw[getElem?_pos xs r hr,e2];simp)
  rcases Nat.lt_or_ge r i with z | z
  ·have:=ha.lt z g2;lia
  ·have:i=r:=by lia
   subst this;lia
 have hl:(SetTable.insertAt xs r j).toList=xs.toList.take r++[j]++xs.toList.drop r:=by
  unfold SetTable.insertAt;simp[Array.toList_extract,List.extract_eq_drop_take,List.take_of_length_le]
 unfold Asc;rw[hl,List.pairwise_append,List.pairwise_append];refine⟨⟨List.Pairwise.sublist (List.take_sublist _ _) ha,by simp,λa hm b hb=>?_⟩,List.Pairwise.sublist (List.drop_sublist _ _) ha,λa hm b hb=>?_⟩
 ·rw[List.mem_singleton.mp hb];obtain⟨i,hi,rfl⟩:=List.mem_iff_getElem.mp hm;rw[List.length_take]at hi;rw[List.getElem_take];have q:=h2 i (by lia);simpa[Array.getD,show i<xs.size by lia]using q
 ·obtain⟨i,hi,rfl⟩:=List.mem_iff_getElem.mp hb;rw[List.length_drop,Array.length_toList]at hi;rw[List.getElem_drop];have q:=hnot (r+i) (by lia) (by lia);have q:j<xs.toList[r+i]'(by simp;lia):=by simpa[Array.getD,show r+i<xs.size by lia]using q
  rcases List.mem_append.mp hm with hm | hm
  ·obtain⟨k,hk,rfl⟩:=List.mem_iff_getElem.mp hm;rw[List.length_take]at hk;rw[List.getElem_take];have q2:=h2 k (by lia);have q2:xs.toList[k]'(by simp;lia)<j:=by simpa[Array.getD,show k<xs.size by lia]using q2
   lia
  ·rw[List.mem_singleton.mp hm];exact q
theorem zjm (t:SetTable)(hd:t.dummies = #[])(g:Nat->Int)(h:Int):∀(fuel:Nat)(p:SetTable.Probe)(j:Nat)(d:Option Nat),p.dummy=none->SetTable.probe.go t g h fuel p=some (.empty j d)->d=none/\t.slot j=.empty
 | 0,p,j,d,hp,e=>by unfold SetTable.probe.go at e;cases e
 | fuel+1,p,j,d,hp,e=>by
  have hadv:(t.advance p).dummy=none:=by unfold SetTable.advance;split<;>exact hp
  have hh:SetTable.has t.dummies p.j=false:=by rw[hd];unfold SetTable.has;simp
  have hno:t.slot p.j≠.dummy:=λz=>by
   unfold SetTable.slot at z;dsimp only at z;rw[hh]at z;simp only[Bool.false_eq_true,if_false]at z;split at z<;>cases z
  unfold SetTable.probe.go at e;cases hs:t.slot p.j with
  | empty=>rw[hs]at e;cases e;exact⟨hp,hs⟩
  | dummy=>exact absurd hs hno
  | live i=>
   rw[hs]at e;dsimp only at e;split at e
   ·cases e
   ·exact zjm t hd g h fuel _ j d hadv e
theorem zky {t:SetTable}(ha:Asc t.place)(hd:t.dummies = #[])(es:Array (Int×Value))(h:Int)(x:Value):Asc (layNew t es h x).2.1.place/\(layNew t es h x).2.1.dummies = #[]:=by
 unfold layNew;cases e:t.freeSlot h with
 | none=>exact⟨zdn _,rfl⟩
 | some p=>
  obtain⟨slot,dm⟩:=p;dsimp only;unfold SetTable.orStandIn;split
  ·unfold SetTable.freeSlot at e;have hs:t.slot slot=.empty:=by
    cases hp:t.probe (λ_=>h+1) h (t.probeStart h)with
    | none=>rw[hp]at e;cases e
    | some m=>
     rw[hp]at e;cases m with
     | candidate j i n=>cases e
     | empty j d=>
      obtain⟨q1,q2⟩:=zjm t hd _ _ _ _ _ _ rfl hp;subst q1;cases e;exact q2
   unfold SetTable.put;dsimp only;have hnh:SetTable.has t.dummies slot=false:=by rw[hd];unfold SetTable.has;simp
   rw[hnh];refine⟨zkx ha λz=>?_,hd⟩;unfold SetTable.slot at hs;rw[if_pos z]at hs;cases hs
  ·exact⟨zdn _,rfl⟩
theorem zkz {t t':SetTable}{hs:Array Int}{n:Nat}{o:Array Nat}(h:t.relaid hs n=some (t',o)):Asc t'.place/\t'.dummies = #[]:=by
 unfold SetTable.relaid SetTable.laid at h;cases e:SetTable.layClean (SetTable.sizeAbove n-1) hs with
 | none=>rw[e]at h;cases h
 | some ow=>
  rw[e]at h;have q:=Option.some.inj h;rw[<- (Prod.mk.inj q).1];refine⟨?_,rfl⟩;unfold Asc;dsimp only;rw[List.pairwise_map,List.pairwise_filterMap];refine List.pairwise_lt_range.imp λ{a b} hab p hp q hq=>?_;cases ha:ow.getD a none with
  | none=>rw[ha]at hp;cases hp
  | some x=>
   cases hb:ow.getD b none with
   | none=>rw[hb]at hq;cases hq
   | some y=>rw[ha]at hp;rw[hb]at hq;cases hp;cases hq;exact hab
theorem zlt {t:SetTable}(es:Array (Int×Value))(n:Nat):Asc (relayAll t es n).2.1.place/\(relayAll t es n).2.1.dummies = #[]:=by
 unfold relayAll;cases e:t.relaid (es.map (·.1)) n with
 | none=>exact⟨zdn _,rfl⟩
 | some p=>
  obtain⟨t',o⟩:=p;dsimp only;split
  ·exact zkz e
  ·exact⟨zdn _,rfl⟩
noncomputable def KSet {α:Type} [DecidableEq α] {prog:Program}{w:World}(knd:PySem.KeyKind prog w α)(of:Value->α)(h:Heap)(a:Addr)(xs:List α):Prop:=
 ∃es ep t,Rec w h a es ep t/\ElemsOf knd es.toList/\(es.toList.map λe=>of e.2).Perm xs/\xs.Nodup
noncomputable def addS {α:Type} [DecidableEq α] (xs:List α)(y:α):List α:=if y∈xs then xs else y::xs
noncomputable abbrev zlu (prog:Program)(w:World):Heap->Addr->List Str->Prop:=KSet (PySem.strKind prog w) sOf
noncomputable abbrev zlv (prog:Program)(w:World):Heap->Addr->List Int->Prop:=KSet (PySem.intKind prog w) numOf
section
variable {α:Type} [DecidableEq α] {prog:Program}{w:World}{A:Around}{E:Value->Shared->Prop}{s:Shared}{a:Addr}{knd:PySem.KeyKind prog w α}{of:Value->α}
theorem KSet.keep {h h':Heap}{xs:List α}(S:KSet knd of h a xs)(k:∀o,h.get? a=some o->h'.get? a=some o):KSet knd of h' a xs:=
 let ⟨es,ep,t,r,q⟩:=S;⟨es,ep,t,r.keep k,q⟩
theorem zlw {h:Heap}{es es':Array (Int×Value)}{ep:Nat}{t t':SetTable}(r:Rec w h a es ep t)(hf:t'.fits es'.size=true)(hl:t'.led=t.led)(hp:Asc t'.place/\t'.dummies = #[])(hz:es'.size<scanBound) :
  Rec w (h.update a (Obj.putSet es' t')) a es' (ep+1) t':=by
 obtain⟨o,ho,hex,hd⟩:=r.obj;have hg:(h.update a (Obj.putSet es' t')).get? a=some { o with data:=.set es' (ep+1) t' }:=by
  have q:=Heap.get?_update_self (Obj.putSet es' t') ho (by rw[putSet_of es' t' hd];rfl)
  rwa [putSet_of es' t' hd]at q
 exact⟨⟨_,hg,hex,rfl⟩,hf,by rw[hl];exact r.led,hp.1,hp.2,hz⟩
theorem zhb {es es':Array (Int×Value)}{ep:Nat}{t t':SetTable}{Q:Unit->Shared->Prop}(r:Rec w s.heap a es ep t)(hz:es'.size<scanBound)(h:Q () { s with heap:=s.heap.update a (Obj.putSet es' t') }):wpAny (model prog w) A (storeSet a es' t') Q E s:=by
 obtain⟨o,ho,_,hd⟩:=r.obj;exact wpAny_storeSet_of ho hd h (fits_of_scanBound hz)
theorem zrc {es:List (Int×Value)}{y:α}(hof:∀k v,knd.is k v=true->of v=k)(hel:ElemsOf knd es):(∃e∈es,knd.is y e.2=true)↔y∈es.map λe=>of e.2:=by
 constructor
 ·rintro⟨e,he,hi⟩;exact List.mem_map.mpr ⟨e,he,hof _ _ hi⟩
 ·intro hm;obtain⟨e,he,q⟩:=List.mem_map.mp hm;obtain⟨⟨k,hk,_⟩,_⟩:=hel e he;refine⟨e,he,?_⟩;rw[hof _ _ hk]at q;rw[<- q];exact hk
theorem zrd {xs:List α}{y:α}{x:Value}{Q:Bool->Shared->Prop}(hof:∀k v,knd.is k v=true->of v=k)(hkey:knd.is y x=true)(hsc:x.scannable=true)(S:KSet knd of s.heap a xs)(hroom:xs.length+1<scanBound)
  (h:∀h' b,Heap.SameBut a s.heap h'->KSet knd of h' a (addS xs y)->Q b { s with heap:=h' }):wpAny (model prog w) A (setAddHashed a x (knd.hash y)) Q E s:=by
 obtain⟨es,ep,t,r,hel,hp,nd⟩:=S;obtain⟨o,ho,hex,hd⟩:=r.obj;have hsz:es.size=xs.length:=by rw[<- hp.length_eq];simp
 have hmem:(∃e∈es.toList,knd.is y e.2=true)↔y∈xs:=(zrc hof hel).trans hp.mem_iff;unfold setAddHashed setAddHashedIn;refine wpAny_holding (wpAny_bind (zbb r ?_));dsimp only;rw[byScan_of hsc r.sz hel];simp only[if_true];unfold setAddByScan;refine wpAny_bind (wpAny_bind (wpAny_rule (wpAny_bind (wpAny_setScan_of (knd:=knd) hkey ho hd r.fits hel ?_))));cases hr:List.findIdx? (λe=>knd.is y e.2) es.toList with
 | some j=>
  obtain⟨hj,hpj,_⟩:=List.findIdx?_eq_some_iff_getElem.mp hr;have hy:y∈xs:=hmem.mp ⟨_,List.getElem_mem hj,hpj⟩;have q:=h s.heap false (Heap.SameBut.refl a s.heap) (by unfold addS;rw[if_pos hy];exact⟨es,ep,t,r,hel,hp,nd⟩);exact wpAny_pure (wpAny_pure q)
 | none=>
  have hy:y∉xs:=λz=>by
   obtain⟨e,he,hpe⟩:=hmem.mpr z;have q:=List.findIdx?_eq_none_iff.mp hr e he;rw[hpe]at q;cases q
  dsimp only;have hgw:∀(b:Bool) {s₁:Shared} {Q':Unit->Shared->Prop},Q' () s₁->wpAny (model prog w) A (match b with | true=>rule "set.scan.the-table-gave-way" | false=>pure ()) Q' E s₁:=λb s₁ Q' hq=>by
   cases b
   ·exact wpAny_pure hq
   ·exact wpAny_rule hq
  have p1:=layNew_perm t es (knd.hash y) x;have f1:=layNew_fits t es (knd.hash y) x;have l1:=zkw t es (knd.hash y) x;have g1:=zky r.asc r.dm es (knd.hash y) x;generalize hL:layNew t es (knd.hash y) x=L at p1 f1 l1 g1 ⊢;obtain⟨es1,t1,dm,gave⟩:=L;dsimp only at p1 f1 l1 g1 ⊢;rw[Array.toList_push]at p1;have hel1:ElemsOf knd es1.toList:=(hel.push hkey hsc).perm p1;have z1:es1.size=xs.length+1:=by rw[<- Array.length_toList,p1.length_eq,List.length_append,Array.length_toList,hsz];rfl
  have b1:es1.size<scanBound:=by rw[z1];exact hroom
  have m1:(es1.toList.map λe=>of e.2).Perm (y::xs):=by
   refine(p1.map _).trans ?_;rw[List.map_append];refine(List.perm_append_comm).trans ?_;show(of x::es.toList.map λe=>of e.2).Perm _;rw[hof _ _ hkey];exact hp.cons y
  have nd1:(y::xs).Nodup:=List.nodup_cons.mpr ⟨hy,nd⟩;have eadd:addS xs y=y::xs:=by unfold addS;rw[if_neg hy]
  rw[eadd]at h;refine wpAny_bind (hgw gave ?_);have tail:∀t2:SetTable,t2.fits es1.size=true->t2.led=t.led->(Asc t2.place/\t2.dummies = #[])->wpAny (model prog w) A (do
    storeSet a es1 t2
    if (!dm&&t2.tooFull)=true then do
     (match (relayAll t2 es1 (SetTable.grown es1.size)).2.2 with | true=>rule "set.scan.the-table-gave-way" | false=>pure ())
     storeSet a (relayAll t2 es1 (SetTable.grown es1.size)).1 (relayAll t2 es1 (SetTable.grown es1.size)).2.1
     pure (some true)
    else pure (some true)) (λr s'=>wpAny (model prog w) A (match r with | some added=>pure added | none=>setAddHashedIn a x (knd.hash y) 99999) Q E s') E s:=λt2 f2 l2 p2=>by
   have r2:=zlw (w:=w) r f2 l2 p2 b1;have sb1:=Heap.SameBut.update s.heap a (Obj.putSet es1 t2);refine wpAny_bind (zhb r b1 ?_);split
   ·have p3:=relayAll_perm t2 es1 (SetTable.grown es1.size);have f3:=relayAll_fits t2 es1 (SetTable.grown es1.size);have l3:=zls t2 es1 (SetTable.grown es1.size);have g3:=zlt (t:=t2) es1 (SetTable.grown es1.size);generalize hR:relayAll t2 es1 (SetTable.grown es1.size)=R at p3 f3 l3 g3 ⊢;obtain⟨es2,t3,gave2⟩:=R;dsimp only at p3 f3 l3 g3 ⊢;have z2:es2.size=es1.size:=by rw[<- Array.length_toList,p3.length_eq,Array.length_toList]
    refine wpAny_bind (hgw gave2 (wpAny_bind (zhb (s:={ s with heap:=s.heap.update a (Obj.putSet es1 t2) }) r2 (by rw[z2];exact b1) (wpAny_pure (wpAny_pure ?_)))));exact h _ true (sb1.trans (Heap.SameBut.update _ a _)) ⟨es2,_,t3,zlw r2 f3 l3.1 g3 (by rw[z2];exact b1),hel1.perm p3,(p3.map _).trans m1,nd1⟩
   ·exact wpAny_pure (wpAny_pure (h _ true sb1 ⟨es1,_,t2,r2,hel1,m1,nd1⟩))
  cases hpl:t1.plain with
  | true=>
   simp only[if_true];rw[hashByValue_scannable 8 (x:=x) hsc];refine wpAny_bind (wpAny_pure ?_);cases plainKind x with
   | true=>exact tail t1 f1 l1.1 g1
   | false=>exact tail { t1 with plain:=false } (SetTable.fits_plain_off f1) l1.1 g1
  | false=>
   simp only[Bool.false_eq_true,if_false];refine wpAny_bind (wpAny_pure ?_);exact tail t1 f1 l1.1 g1
end
section
variable {α:Type} [DecidableEq α]
theorem znp {xs:List α}{y x:α}:x∈addS xs y↔x=y\/x∈xs:=by
 unfold addS;split
 ·rename_i h
  constructor
  ·exact .inr
  ·rintro(rfl | h')
   ·exact h
   ·exact h'
 ·exact List.mem_cons
theorem znq (xs:List α)(y:α):(addS xs y).length<=xs.length+1:=by
 unfold addS;split
 ·lia
 ·simp
theorem zdo:∀(ys xs:List α)(x:α),x∈ys.foldl addS xs↔x∈xs\/x∈ys
 | [],xs,x=>by simp
 | y::ys,xs,x=>by
  rw[List.foldl_cons,zdo ys (addS xs y) x,znp,List.mem_cons];constructor
  ·rintro((h | h) | h)
   ·exact .inr (.inl h)
   ·exact .inl h
   ·exact .inr (.inr h)
  ·rintro(h | h | h)
   ·exact .inl (.inr h)
   ·exact .inl (.inl h)
   ·exact .inr h
theorem zcE:∀(ys xs:List α),(ys.foldl addS xs).length<=xs.length+ys.length
 | [],xs=>by simp
 | y::ys,xs=>by
  rw[List.foldl_cons];have h1:=zcE ys (addS xs y);have h2:=znq xs y;rw[List.length_cons];lia
end
section
variable {α:Type} [DecidableEq α] {prog:Program}{w:World}{A:Around}{R:Result->Shared->Prop}{I:Addr}{fp wr:List Addr}{G:Array GenState->Array GenState->Prop}{n:Nat}{P:Nat->Value->Prop}{St:Nat->Shared->Prop}{knd:PySem.KeyKind prog w α}{of:Value->α}
theorem zix (W:WalksS prog w A.in1 I fp wr G n P St)(S:Addr)(hSf:S∉fp)(ys:List α)(hn:ys.length=n)(hof:∀k v,knd.is k v=true->of v=k)(hval:∀i v,P i v->∃y,ys[i]? = some y/\knd.is y v=true/\v.scannable=true)(hb:n+1<scanBound) :
  ∀(k i:Nat) (s:Shared),n-i=k->i<=n->St i s->KSet knd of s.heap S ((ys.take i).foldl addS [])->
   (∀s',Moved (S::wr) G s s'->KSet knd of s'.heap S (ys.foldl addS [])->R (.ok (.ret .none)) s')->
   codeAny (model prog w) A (.builtin "set.update.loop" ⟨[.ref S,.ref I],[]⟩) R s:=by
 have hSw:S∉wr:=λh=>hSf (W.sub _ h);intro k;induction k with
 | zero=>
  intro i s hk hi hst hS hR;have hin:i=n:=by lia
  subst hin;refine codeAny_builtin PyProof.Rows.F.entry_set_update_loop ?_;rw[Around.under_plainId PyProof.Rows.F.plain_set_update_loop _];show wpAny _ A.in1 (pyNext (.ref I) >>= _) _ _ s;refine wpAny_bind (W.done s _ _ hst λs' hm=>wpAny_pure (hR s' (hm.mono λb hb=>List.mem_cons_of_mem _ hb) ?_));rw[List.take_of_length_le (by lia)]at hS;exact hS.keep λo e=>hm.heap S o hSw e
 | succ k ih=>
  intro i s hk hi hst hS hR;have hlt:i<n:=by lia
  refine codeAny_builtin PyProof.Rows.F.entry_set_update_loop ?_;rw[Around.under_plainId PyProof.Rows.F.plain_set_update_loop _];show wpAny _ A.in1 (pyNext (.ref I) >>= _) _ _ s;refine wpAny_bind (W.item i s _ _ hlt hst λv s' hP hst' hm=>?_);obtain⟨y,hy,hkey,hsc⟩:=hval i v hP;have hS':=hS.keep λo e=>hm.heap S o hSw e;show wpAny _ A.in1 (holding [v] (setAdd S v) >>= _) _ _ s';refine wpAny_bind (wpAny_holding ?_);unfold setAdd;refine wpAny_holding (wpAny_bind (knd.pyHash (k:=y) hkey ?_));have hroom:((ys.take i).foldl addS []).length+1<scanBound:=by
   have q:=zcE (ys.take i) [];rw[List.length_take]at q;simp at q;lia
  refine zrd (s:=_) hof hkey hsc hS' hroom λh' b hsb hS2=>?_;have hSi:KSet knd of h' S ((ys.take (i+1)).foldl addS []):=by
   rw[List.take_add_one,hy,List.foldl_append];exact hS2
  refine wpAny_pure ⟨plainId_quiet PyProof.Rows.F.plain_set_update_loop _,ih (i+1) _ (by lia) hlt (W.frame _ s' _ _ hst' (by first | exact Nat.le_refl _ | exact Nat.le_succ _) λb hb o e=>?_) hSi λs'' hm'' hS''=>?_⟩
  ·rw[hsb.2 b (λh:b=S=>hSf (by rw[<- h];exact hb))];exact e
  ·refine hR s'' (Moved.trans W.gtrans ((hm.mono λb hb=>List.mem_cons_of_mem _ hb).then_heap (by first | exact Nat.le_refl _ | exact Nat.le_succ _) λb o hb e=>?_) hm'') hS''
   rw[hsb.2 b (λh:b=S=>hb (by rw[h];exact List.mem_cons_self))];exact e
end
noncomputable abbrev zbN (w:World):Obj:={ cls:=.type "set",dict:=none,data:=.set #[] 0 (.fresh 0 0 (!byText w)) }
theorem znr {α:Type} [DecidableEq α] {prog:Program}{w:World}{knd:PySem.KeyKind prog w α}{of:Value->α}{h:Heap}{a:Addr}(e:h.get? a=some (zbN w)):KSet knd of h a []:=by
 refine⟨#[],0,_,⟨⟨_,e,⟨rfl,rfl,rfl⟩,rfl⟩,by rfl,?_,List.Pairwise.nil,rfl,by decide⟩,λz hz=>by simp at hz,by simp,List.nodup_nil⟩;show(!byText w)=true\/byText w=true;cases byText w
 ·exact .inl rfl
 ·exact .inr rfl
section
variable {prog:Program}{w:World}{A:Around}{E:Value->Shared->Prop}{s:Shared}
theorem zpg (x:Value){Q₁:Value->Shared->Prop}(h:Q₁ (.ref s.heap.objs.size) { s with heap:=s.heap.push (zbN w) }) :
  codeAny (model prog w) A (.call (.builtin "set.__new__") ⟨[.type "set",x],[]⟩) (wants Q₁ E) s:=by
 refine codeAny_of_tree ?_;show wpAny _ A.in1 (do checkBuiltinCall "set.__new__" ⟨[.type "set",x],[]⟩;again (.builtin "set.__new__" ⟨[.type "set",x],[]⟩)) _ _ s
 refine wpAny_bind (wpAny_of_eq (PySem.F.newCall_set_1 x) (wpAny_pure ⟨plainId_quiet PySem.F.plain_set_new _,codeAny_builtin PySem.F.entry_set_new ?_⟩));rw[Around.under_plainId PySem.F.plain_set_new _];unfold Builtin.«set.__new__» Builtin.Frozenset.newClass;have hsub:=sub_set_self;obtain⟨hp,g,d,tk,os⟩:=s;dsimp only
 wp_walk
 refine wpAny_askSetting (wpAny_pure ?_);dsimp only;simp only[newObj];exact wpAny_bind (wpAny_alloc (wpAny_pure (wpAny_pure h)))
theorem zhc {α:Type} [DecidableEq α] {knd:PySem.KeyKind prog w α}{of:Value->α}{l:Addr}{items:Array Value}{ys:List α}{Q:Value->Shared->Prop}(hof:∀k v,knd.is k v=true->of v=k)(hh:A.handled=none)(hl:s.heap.IsList l items)(hi:∀(i:Nat) v,items[i]? = some v->∃y,ys[i]? = some y/\knd.is y v=true/\v.scannable=true)(hy:ys.length=items.size)(hb:items.size+1<scanBound)
  (h:∀(h':Heap) (tk:Nat),KSet knd of h' s.heap.objs.size (ys.foldl addS [])->(∀b o,s.heap.get? b=some o->h'.get? b=some o)->Q (.ref s.heap.objs.size) { s with heap:=h',toks:=tk }) :
  wpAny (model prog w) A (call (.type "set") [.ref l]) Q E s:=by
 obtain⟨c,tl,hmro⟩:=PySem.F.called_set.mro;have hmade:=PySem.F.called_set.made;have hsub:=PySem.F.called_set.sub;refine wpAny_call (codeAny_of_tree ?_);show wpAny _ _ (callAny (.type "set") _) _ _ _;refine wpAny_pure ⟨Code.quiet_builtin _ (by decide +kernel),codeAny_builtin PySem.F.entry_type_call ?_⟩;rw[Around.under_plain (weight_type_call_type "set" [.ref l] []) rfl];have h1:=PySem.F.called_set.notType;have h2:=PySem.F.called_set.canCreate;have hct:=PySem.F.typeCall_set_1 (.ref l)
 repeat (any_goals (first | assumption | wp_step))
 refine codeAny_mono (zpg (.ref l) (E:=E) (Q₁:=λob s1=>ob=.ref s.heap.objs.size/\s1={ s with heap:=s.heap.push (zbN w) }) ⟨rfl,rfl⟩) λr s1 hr=>?_;cases r with
 | error e=>exact hr
 | ok fl=>
  cases fl with
  | ret ob=>
   obtain⟨rfl,rfl⟩:=hr;have hS:(s.heap.push (zbN w)).get? s.heap.objs.size=some (zbN w):=Heap.get?_push_size _ rfl;have hT:Shared.TypeIs { s with heap:=s.heap.push (zbN w) } (.ref s.heap.objs.size) "set":=⟨_,hS,rfl⟩;have hli:=PySem.F.called_set.init.lookup;have hbi:=PySem.F.called_set.init.bind (.ref s.heap.objs.size)
   repeat (any_goals (first | assumption | wp_step))
   refine codeAny_mono (codeAny_call_builtin (R:=wants (λr s2=>r=.none/\∃h' tk,s2={ s with heap:=h',toks:=tk }/\KSet knd of h' s.heap.objs.size (ys.foldl addS [])/\∀b o,s.heap.get? b=some o->h'.get? b=some o) E)
    PySem.F.called_set.init.plain PySem.F.entry_set_init (check_set_init_1 hT ?_)) λr₂ s₂ hr₂=>?_
   ·obtain⟨⟨ocls,odict,odata,oslots⟩,hol,hcl,nl,hdl⟩:=hl;simp only at hcl hdl;subst hcl;subst hdl;have hol':(s.heap.push (zbN w)).get? l=some { cls:=.type "list",dict:=odict,data:=.seq items nl,slots:=oslots }:=Heap.get?_push_of_some _ hol;have hsls:=PySem.F.sub_list_set;have hslf:=PySem.F.sub_list_frozenset;have hne:(Value.type "list" == Value.type "dict")=false:=by decide
    have hl1:(s.heap.push (zbN w)).IsList l items:=⟨_,hol',rfl,nl,rfl⟩;unfold Builtin.«set.__init__» noKeywords Builtin.Frozenset.updateFrom;generalize hPI:pyIter=PI
    wp_walk
    subst hPI;refine wpAny_pyIter_list hl1 (wpAny_bind (wpAny_runValue ?_));have hlS:l<s.heap.objs.size:=Heap.lt_size hol;have hz1:(s.heap.push (zbN w)).objs.size=s.heap.objs.size+1:=Heap.size_push ..;have hneI:l≠(s.heap.push (zbN w)).objs.size:=by rw[hz1];exact Nat.ne_of_lt (Nat.lt_succ_of_lt hlS)
    have hSf:s.heap.objs.size∉[(s.heap.push (zbN w)).objs.size,l]:=by
     rw[hz1];intro z;rcases List.mem_cons.mp z with e | e
     ·exact absurd e (Nat.ne_of_lt (Nat.lt_succ_self _))
     ·exact absurd (List.mem_singleton.mp e) (Nat.ne_of_gt hlS)
    refine zix ((Walks.list (by simp[hh]) _ l hneI items).toS) s.heap.objs.size hSf ys hy hof (λi v hv=>hi i v hv) hb (items.size-0) 0 _ (by lia) (Nat.zero_le _) ⟨⟨_,Heap.get?_push_size _ rfl,rfl,rfl⟩,hl1.push _⟩ (znr (Heap.get?_push_of_some _ hS)) λs' hm hS'=>?_;obtain⟨h',g',d',tk',os'⟩:=s';have eg:g'=s.gens:=hm.gens;have ed:d'=s.drawn:=hm.drawn;have eo:os'=s.os:=hm.os;subst eg;subst ed;subst eo;refine wpAny_pure (wpAny_pure ⟨rfl,h',tk',rfl,hS',λb o e=>?_⟩);have hb':b<s.heap.objs.size:=Heap.lt_size e;refine hm.heap b o (λz=>?_) (Heap.get?_push_of_some _ (Heap.get?_push_of_some _ e));rcases List.mem_cons.mp z with q | q
    ·exact Nat.ne_of_lt hb' q
    ·have q':=List.mem_singleton.mp q;rw[hz1]at q';exact absurd q' (Nat.ne_of_lt (Nat.lt_succ_of_lt hb'))
   ·cases r₂ with
    | error e=>exact hr₂
    | ok fl₂=>
     cases fl₂ with
     | ret r=>
      obtain⟨rfl,h',tk,rfl,hS',hk'⟩:=hr₂
      repeat (any_goals (first | assumption | wp_step))
      exact h _ _ hS' hk'
     | _=>exact hr₂.elim
  | _=>exact hr.elim
theorem zns {l:Addr}{items:Array Value}{ys:List Str}{Q:Value->Shared->Prop}(hh:A.handled=none)(hl:s.heap.IsList l items)(hi:∀(i:Nat) v,items[i]? = some v->∃y t,ys[i]? = some y/\v=.str y t)(hy:ys.length=items.size)(hb:items.size+1<scanBound)
  (h:∀(h':Heap) (tk:Nat),zlu prog w h' s.heap.objs.size (ys.foldl addS [])->(∀b o,s.heap.get? b=some o->h'.get? b=some o)->Q (.ref s.heap.objs.size) { s with heap:=h',toks:=tk }) :
  wpAny (model prog w) A (call (.type "set") [.ref l]) Q E s:=
 zhc (knd:=PySem.strKind prog w) (of:=sOf) (λk v hk=>by obtain⟨t,rfl⟩:=Value.isStrOf_shape (show Value.isStrOf k v=true from hk);rfl) hh hl (λi v hv=>by obtain⟨y,t,e1,rfl⟩:=hi i v hv;exact⟨y,e1,by simp[PySem.strKind,Value.isStrOf],rfl⟩) hy hb h
theorem zfb {l:Addr}{items:Array Value}{ys:List Int}{Q:Value->Shared->Prop}(hh:A.handled=none)(hl:s.heap.IsList l items)(hi:∀(i:Nat) v,items[i]? = some v->∃y t,ys[i]? = some y/\v=.int y t)(hy:ys.length=items.size)(hb:items.size+1<scanBound)
  (h:∀(h':Heap) (tk:Nat),zlv prog w h' s.heap.objs.size (ys.foldl addS [])->(∀b o,s.heap.get? b=some o->h'.get? b=some o)->Q (.ref s.heap.objs.size) { s with heap:=h',toks:=tk }) :
  wpAny (model prog w) A (call (.type "set") [.ref l]) Q E s:=
 zhc (knd:=PySem.intKind prog w) (of:=numOf) (λk v hk=>by obtain⟨t,rfl⟩:=Value.isInt_shape (show Value.isInt k v=true from hk);rfl) hh hl (λi v hv=>by obtain⟨y,t,e1,rfl⟩:=hi i v hv;exact⟨y,e1,by simp[PySem.intKind,Value.isInt],rfl⟩) hy hb h
end
section
variable {prog:Program}{w:World}{A:Around}{E:Value->Shared->Prop}{s:Shared}{a:Addr}
theorem zjn {vs:List Value}{ss:List Str}{Q:Value->Shared->Prop}(hS:StrsAre vs ss)(h64:vs.length<64)
  (h:∀(h':Heap) (out:List Value) (zs:List Str) (e:Nat),StrsAre out zs->zs.Perm ss->sortedS zs=true->(∀b o,s.heap.get? b=some o->h'.get? b=some o)->h'.get? s.heap.objs.size=some { cls:=.type "list",data:=.seq out.toArray e }->Q (.ref s.heap.objs.size) { s with heap:=h' }) :
  wpAny (model prog w) A (newList vs >>= λl=>holding [l] (call (.builtin "list.sort") [l] []) >>= λ_=>ret l) (λfin s'=>∃r,fin=.done (.ret r)/\Q r s') E s:=by
 refine wpAny_bind (wpAny_newList ?_);have hoL:(s.heap.push (seqObj "list" vs.toArray 0)).get? s.heap.objs.size=some (seqObj "list" vs.toArray 0):=Heap.get?_push_size _ rfl;refine wpAny_bind (wpAny_holding (wpAny_call_entry slot_list_sort ⟨_,hoL,rfl⟩ entry_list_sort (list_sort_treeK strKind_oneLt hoL hS.keysOf (λv1 v2 rest e=>keyKind_strs (by rw[<- e];exact hS)) h64 λst' a1 a2=>⟨_,rfl,?_⟩) (args_list_sort _)));obtain⟨zs,q1,q2,q3⟩:=sorted_out_str hS a1 a2;obtain⟨e,he⟩:=sortedHeap_at (out:=(arrOf st').map (·.2)) hoL;refine wpAny_pure ⟨_,rfl,h _ ((arrOf st').map (·.2)).toList zs e q1 q2 q3 (λb o hb=>?_) (by rw[Array.toArray_toList];exact he)⟩;have hlt:b<s.heap.objs.size:=Heap.lt_size hb;rw[sortedHeap_old (Nat.ne_of_lt hlt) (by rw[size_push'];exact Nat.lt_succ_of_lt hlt)];exact Heap.get?_push_of_some _ hb
theorem zkA {xs:List Str}{Q:Value->Shared->Prop}(hh:A.handled=none)(S:zlu prog w s.heap a xs)(h64:xs.length<64)
  (h:∀(h1 h':Heap) (d:Drawn) (tk:Nat) (out:List Value) (zs:List Str) (e:Nat),StrsAre out zs->zs.Perm xs->sortedS zs=true->(∀b o,s.heap.get? b=some o->h1.get? b=some o)->(∀b o,h1.get? b=some o->h'.get? b=some o)->h'.get? h1.objs.size=some { cls:=.type "list",data:=.seq out.toArray e }->
   Q (.ref h1.objs.size) { s with heap:=h',drawn:=d,toks:=tk }):wpAny (model prog w) A (call (.builtin "sorted") [.ref a]) Q E s:=by
 refine Calls.call_function_entry kind_sorted plain_sorted entry_sorted (args_sorted1 _) ?_;unfold Builtin.«sorted»;refine wpAny_bind (m:=checkCount "sorted" 1 1 _) (wpAny_pure ?_);obtain⟨es,ep,t,r,hel,hp,nd⟩:=S;refine wpAny_bind (zfa (by simpa using hh) r λh1 d tk order ho kp=>?_);have hst:∀v∈order,∃x t,v=Value.str x t:=λv hv=>by
  obtain⟨e,he,q⟩:=List.mem_map.mp (ho.mem_iff.mp hv);obtain⟨⟨k,hk,_⟩,_⟩:=hel e he;obtain⟨t,q'⟩:=Value.isStrOf_shape (show Value.isStrOf k e.2=true from hk);exact⟨k,t,by rw[<- q];exact q'⟩
 have hS:=strsAre_map order hst;have hperm:(order.map strOf).Perm xs:=by
  refine(ho.map strOf).trans ?_;rw[List.map_map];have e:es.toList.map (strOf ∘ λx=>x.2)=es.toList.map λe=>sOf e.2:=List.map_congr_left λe he=>by
   obtain⟨⟨k,hk,_⟩,_⟩:=hel e he;obtain⟨t,q'⟩:=Value.isStrOf_shape (show Value.isStrOf k e.2=true from hk);show strOf e.2=sOf e.2;rw[q'];rfl
  rw[e];exact hp
 have hlen:order.length<64:=by
  have q:=hperm.length_eq;rw[List.length_map]at q;lia
 refine zjn (s:={ s with heap:=h1,drawn:=d,toks:=tk }) hS hlen λh' out zs e q1 q2 q3 kp' he=>?_;exact h h1 h' d tk out zs e q1 (q2.trans hperm) q3 kp kp' he
theorem zlx {vs:List Value}{ns:List Int}{Q:Value->Shared->Prop}(hS:IntsAre vs ns)(h64:vs.length<64)
  (h:∀(h':Heap) (out:List Value) (zs:List Int) (e:Nat),IntsAre out zs->zs.Perm ns->zs.Pairwise (·<=·)->(∀b o,s.heap.get? b=some o->h'.get? b=some o)->h'.get? s.heap.objs.size=some { cls:=.type "list",data:=.seq out.toArray e }->Q (.ref s.heap.objs.size) { s with heap:=h' }) :
  wpAny (model prog w) A (newList vs >>= λl=>holding [l] (call (.builtin "list.sort") [l] []) >>= λ_=>ret l) (λfin s'=>∃r,fin=.done (.ret r)/\Q r s') E s:=by
 refine wpAny_bind (wpAny_newList ?_);have hoL:(s.heap.push (seqObj "list" vs.toArray 0)).get? s.heap.objs.size=some (seqObj "list" vs.toArray 0):=Heap.get?_push_size _ rfl;refine wpAny_bind (wpAny_holding (wpAny_call_entry slot_list_sort ⟨_,hoL,rfl⟩ entry_list_sort (list_sort_tree hoL hS h64 λout zs q1 q2 q3=>⟨_,rfl,?_⟩) (args_list_sort _)));obtain⟨e,he⟩:=sortedHeap_at (out:=out) hoL;refine wpAny_pure ⟨_,rfl,h _ out.toList zs e q1 q2 q3 (λb o hb=>?_) (by rw[Array.toArray_toList];exact he)⟩;have hlt:b<s.heap.objs.size:=Heap.lt_size hb;rw[sortedHeap_old (Nat.ne_of_lt hlt) (by rw[size_push'];exact Nat.lt_succ_of_lt hlt)];exact Heap.get?_push_of_some _ hb
theorem ziy {xs:List Int}{Q:Value->Shared->Prop}(hh:A.handled=none)(S:zlv prog w s.heap a xs)(h64:xs.length<64)
  (h:∀(h1 h':Heap) (d:Drawn) (tk:Nat) (out:List Value) (zs:List Int) (e:Nat),IntsAre out zs->zs.Perm xs->zs.Pairwise (·<=·)->(∀b o,s.heap.get? b=some o->h1.get? b=some o)->(∀b o,h1.get? b=some o->h'.get? b=some o)->h'.get? h1.objs.size=some { cls:=.type "list",data:=.seq out.toArray e }->
   Q (.ref h1.objs.size) { s with heap:=h',drawn:=d,toks:=tk }):wpAny (model prog w) A (call (.builtin "sorted") [.ref a]) Q E s:=by
 refine Calls.call_function_entry kind_sorted plain_sorted entry_sorted (args_sorted1 _) ?_;unfold Builtin.«sorted»;refine wpAny_bind (m:=checkCount "sorted" 1 1 _) (wpAny_pure ?_);obtain⟨es,ep,t,r,hel,hp,nd⟩:=S;refine wpAny_bind (zfa (by simpa using hh) r λh1 d tk order ho kp=>?_);have hst:∀v∈order,∃x t,v=Value.int x t:=λv hv=>by
  obtain⟨e,he,q⟩:=List.mem_map.mp (ho.mem_iff.mp hv);obtain⟨⟨k,hk,_⟩,_⟩:=hel e he;obtain⟨t,q'⟩:=Value.isInt_shape (show Value.isInt k e.2=true from hk);exact⟨k,t,by rw[<- q];exact q'⟩
 have hS:=intsAre_map order hst;have hperm:(order.map numOf).Perm xs:=by
  refine(ho.map numOf).trans ?_;rw[List.map_map];exact hp
 have hlen:order.length<64:=by
  have q:=hperm.length_eq;rw[List.length_map]at q;lia
 refine zlx (s:={ s with heap:=h1,drawn:=d,toks:=tk }) hS hlen λh' out zs e q1 q2 q3 kp' he=>?_;exact h h1 h' d tk out zs e q1 (q2.trans hperm) q3 kp kp' he
end
end JS
namespace L2
open PySem PySem.Spec PyProof.Rows
inductive D where
 | non | int (i:Int) | str (x:Str) | tup (ds:List D)
noncomputable instance:DecidableEq D:=λ_ _=>Classical.propDecidable _
mutual
noncomputable def Den (H:Hp):D->V->Prop
 | .non,v=>v=.non
 | .int i,v=>v=.int i
 | .str x,v=>v=.str x
 | .tup ds,v=>∃a xs,v=.ref a/\H a=some (.tup xs)/\DenL H ds xs
noncomputable def DenL (H:Hp):List D->List V->Prop
 | [],xs=>xs=[]
 | d::ds,xs=>∃v r,xs=v::r/\Den H d v/\DenL H ds r
end
noncomputable def zre (H H':Hp):Prop:=∀b xs,H b=some (.tup xs)->H' b=some (.tup xs)
mutual
theorem Den.mono {H H':Hp}(s:zre H H'):∀(d:D)(v:V),Den H d v->Den H' d v
 | .non,v,h=>by unfold Den at h ⊢;exact h
 | .int i,v,h=>by unfold Den at h ⊢;exact h
 | .str x,v,h=>by unfold Den at h ⊢;exact h
 | .tup ds,v,h=>by
  unfold Den at h ⊢;obtain⟨a,xs,e,h1,h2⟩:=h;exact⟨a,xs,e,s a xs h1,DenL.mono s ds xs h2⟩
theorem DenL.mono {H H':Hp}(s:zre H H'):∀(ds:List D)(xs:List V),DenL H ds xs->DenL H' ds xs
 | [],xs,h=>by unfold DenL at h ⊢;exact h
 | d::ds,xs,h=>by
  unfold DenL at h ⊢;obtain⟨v,r,e,h1,h2⟩:=h;exact⟨v,r,e,Den.mono s d v h1,DenL.mono s ds r h2⟩
end
mutual
theorem Den.inj {H:Hp}:∀(d e:D)(v:V),Den H d v->Den H e v->d=e
 | .non,e,v,h,g=>by
  unfold Den at h;subst h;cases e<;>unfold Den at g
  ·rfl
  ·cases g
  ·cases g
  ·obtain⟨a,xs,z,_⟩:=g;cases z
 | .int i,e,v,h,g=>by
  unfold Den at h;subst h;cases e<;>unfold Den at g
  ·cases g
  ·injection g with g;rw[g]
  ·cases g
  ·obtain⟨a,xs,z,_⟩:=g;cases z
 | .str x,e,v,h,g=>by
  unfold Den at h;subst h;cases e<;>unfold Den at g
  ·cases g
  ·cases g
  ·injection g with g;rw[g]
  ·obtain⟨a,xs,z,_⟩:=g;cases z
 | .tup ds,e,v,h,g=>by
  unfold Den at h;obtain⟨a,xs,z,h1,h2⟩:=h;subst z;cases e<;>unfold Den at g
  ·cases g
  ·cases g
  ·cases g
  ·obtain⟨b,ys,z,g1,g2⟩:=g;cases z;rw[h1]at g1;cases g1;rw[DenL.inj ds _ xs h2 g2]
theorem DenL.inj {H:Hp}:∀(ds es:List D)(xs:List V),DenL H ds xs->DenL H es xs->ds=es
 | [],es,xs,h,g=>by
  unfold DenL at h;subst h;cases es with
  | nil=>rfl
  | cons e es=>unfold DenL at g;obtain⟨v,r,z,_⟩:=g;cases z
 | d::ds,es,xs,h,g=>by
  unfold DenL at h;obtain⟨v,r,z,h1,h2⟩:=h;subst z;cases es with
  | nil=>unfold DenL at g;cases g
  | cons e es=>
   unfold DenL at g;obtain⟨v',r',z,g1,g2⟩:=g;cases z;rw[Den.inj d e v h1 g1,DenL.inj ds es r h2 g2]
end
mutual
noncomputable def Cmp:D->D->Prop
 | .non,e=>e=.non
 | .int _,e=>∃j,e=.int j
 | .str _,e=>∃y,e=.str y
 | .tup ds,e=>∃es,e=.tup es/\CmpL ds es
noncomputable def CmpL:List D->List D->Prop
 | [],_=>True
 | d::ds,es=>∀e r,es=e::r->Cmp d e/\CmpL ds r
end
mutual
noncomputable def dep:D->Nat
 | .tup ds=>depL ds+1
 | _=>0
noncomputable def depL:List D->Nat
 | []=>0
 | d::ds=>max (dep d) (depL ds)
end
end L2
namespace L2
open PySem PySem.Spec PyProof.Rows
section
variable {X:Cx}
noncomputable def zsR (K:PySem.W.Frag):V->List V->Hp->VK->Prop:=λx vs H Q=>∃(l b:Addr)(xs zs:List V),x=.ref l/\vs=[.ref b]/\H l=some (.lst xs)/\SqT K H b zs/\xs.length+zs.length<=sizeLine/\Q .non (upd H l (.lst (xs++zs)))
theorem zph:MtM X "list.extend" (zsR X.K):=by
 intro pins s σ H x vs v us Q I rx rv h;obtain⟨l,b,xs,zs,rfl,rfl,hH,hB,hz,q⟩:=h;cases rx;obtain⟨u,rfl,ru⟩:=rv.one;cases ru;obtain⟨z,its,n,r,hl,e⟩:=I.lstM hH;obtain⟨its2,r2,⟨o2,ho2,hc2,n2,hd2⟩,z2⟩:=I.tuple hB;have l2:=r2.length;have hne:l≠b:=λw=>by subst w;rw[e]at ho2;cases ho2;injection hc2 with z;exact absurd z (by decide)
 refine wpAny_call_entry PySem.F.slot_list_extend ⟨_,e,rfl⟩ PySem.F.entry_list_extend ?_ (PySem.F.args_list_extend_2 _ _);show wpAny _ _ (Builtin.List.listExtendWith (.ref l) (.ref b) .none) _ _ s;unfold Builtin.List.listExtendWith;refine wpAny_bind (wpAny_typeOf (T:="tuple") ⟨o2,ho2,hc2⟩ ?_);have h3:(Value.type "tuple" == Value.type "tuple")=true:=by decide
 rw[if_pos (by rw[h3];simp)];refine wpAny_bind (listItems_at ho2 hd2 (wpAny_bind (listItems_at e rfl ?_)));have hlong:¬ (!its.toArray.isEmpty&&Builtin.List.listTooLong (its.toArray.size+its2.toArray.size))=true:=by
  rw[zje (by rw[List.size_toArray,List.size_toArray];lia),Bool.and_false];exact Bool.false_ne_true
 rw[if_neg hlong];refine wpAny_bind (listUpdate_at e rfl (wpAny_pure ⟨_,rfl,?_⟩) (by rw[List.size_toArray];lia) (by rw[Array.size_append,List.size_toArray,List.size_toArray];lia));refine⟨.non,_,I.lset (its':=its++its2) (t':=s.toks) hH e (by simp) (r.append r2) (by rw[List.length_append];lia),rfl,q⟩
theorem zhd {ss:List Str}:∀ {its:List Value},StrsAre its ss->Vals (ss.map V.str) its:=by
 induction ss with
 | nil=>intro its r;cases r;exact .nil
 | cons x ss ih=>
  intro its r;cases r with
  | cons _ t r2=>exact .cons ⟨t,rfl⟩ (ih r2)
noncomputable def SetO (P:Program)(w:World)(a:Addr)(xs:List Str):HO:=.ext λh=>JS.zlu P w h a xs
theorem zly (hc:X.calm=true):zcd X (.type "set") (λxs H Q=>∃(p:Addr) (ss:List Str),xs=[.ref p]/\SqL X.K H p (ss.map V.str)/\ss.length+1<scanBound/\∀l,H l=none->Q (.ref l) (upd H l (SetO X.prog X.w l (ss.foldl JS.addS [])))):=by
 intro pins s σ H xs us Q I r h;obtain⟨p,ss,rfl,hp,hz,q⟩:=h;obtain⟨u,rfl,rx⟩:=vals1 r;cases rx;obtain⟨its,r,ht,_⟩:=I.list hp;have hlen:=r.length;rw[List.length_map]at hlen;refine JS.zns (ys:=ss) (I.ok.hd hc) ht.isList (λi v hv=>?_) (by rw[List.size_toArray];exact hlen) (by rw[List.size_toArray];lia) λh' tk hS kp=>?_
 ·have hv':its[i]? = some v:=by simpa using hv
  have hi:i<its.length:=(List.getElem?_eq_some_iff.mp hv').1;have e1:(ss.map V.str)[i]? = some (V.str ss[i]):=by simp[show i<ss.length by lia]
  obtain⟨u,q1,q2⟩:=r.get e1;rw[hv']at q1;cases q1;obtain⟨t,e2⟩:=(show ∃t,v=Value.str _ t from q2);exact⟨_,t,by simp[show i<ss.length by lia],e2⟩
 ·refine⟨.ref s.heap.objs.size,_,I.laid (t':=tk) (o:=SetO X.prog X.w s.heap.objs.size (ss.foldl JS.addS [])) kp (Nat.le_refl _) ?_,rfl,q _ I.fresh⟩;obtain⟨es,ep,t,rc,_⟩:=id hS;obtain⟨o,ho,_⟩:=rc.obj;exact⟨hS,⟨o,ho⟩,λh1 h2 hs k=>JS.KSet.keep hs k⟩
theorem zhe (hc:X.calm=true):zcd X (.builtin "sorted") (λxs H Q=>∃(p:Addr) (ss:List Str),xs=[.ref p]/\H p=some (SetO X.prog X.w p ss)/\ss.length<64/\∀l zs,H l=none->zs.Perm ss->sortedS zs=true->Q (.ref l) (upd H l (.lst (zs.map V.str)))):=by
 intro pins s σ H xs us Q I r h;obtain⟨p,ss,rfl,hp,h64,q⟩:=h;obtain⟨u,rfl,rx⟩:=vals1 r;cases rx;obtain⟨hS,_,_⟩:=(show zaV X.prog X.w H s.heap p (SetO X.prog X.w p ss) from I.hok p _ hp);refine JS.zkA (I.ok.hd hc) hS h64 λh1 h' d tk out zs e a1 a2 a3 kp kp' he=>?_;have I1:Inv X pins σ H { s with heap:=h1,drawn:=d,toks:=tk }:=I.call' (ch:=[]) rfl (Un.kept kp) (I.hok.kept kp) I.bare (λ_ z=>nomatch z);have hl2:zs.length=ss.length:=a2.length_eq;refine⟨.ref h1.objs.size,_,I1.laid (h':=h') (t':=tk) (o:=.lst (zs.map V.str)) kp' (Nat.le_refl _) ?_,rfl,q _ zs (I1.hok.fresh (Nat.le_refl _)) a2 a3⟩;exact⟨by rw[List.length_map,sizeLine_eq];lia,out,e,zhd a1,he⟩
end
noncomputable def zrf (K:PySem.W.Frag):List V->Hp->VK->Prop:=λxs H Q=>∃p ys,xs=[.ref p]/\((SqL K H p ys/\∀l,H l=none->Q (.ref l) (upd H l (.tup ys)))\/(SqT K H p ys/\Q (.ref p) H))
noncomputable def zpi (K:PySem.W.Frag):List V->Hp->VK->Prop:=λxs H Q=>∃p ys,xs=[.ref p]/\(SqL K H p ys\/SqT K H p ys)/\∀l,H l=none->Q (.ref l) (upd H l (.lst ys))
end L2
namespace PL
open PySem PySem.Spec L2
open PyProof.Rows hiding St
inductive PV where
 | non | bl (b:Bool) | int (i:Int) | str (x:Str) | ty (n:String)
 | tup (ds:List PV) | lst (ds:List PV) | dK (ks:List Key) (ds:List PV) | dT (ks:List (List Key)) (ds:List PV)
noncomputable instance:DecidableEq PV:=λ_ _=>Classical.propDecidable _
noncomputable abbrev FZ:=Addr->Prop
noncomputable def KX (K:PySem.W.Frag)(a:Addr)(xs:List V):Prop:=∃(its:Array Value)(n:Nat),K.lookup a=some { cls:=.type "list",data:=.seq its n }/\its.size<=sizeLine/\Vals xs its.toList
theorem KX.sq {K:PySem.W.Frag}{H:Hp}{a:Addr}{xs:List V}(h:KX K a xs):SqL K H a xs:=let ⟨its,n,h1,h2,h3⟩:=h;.inr ⟨_,its,n,h1,rfl,rfl,rfl,h2,h3⟩
mutual
noncomputable def Den (K:PySem.W.Frag)(Fz:FZ)(H:Hp):PV->V->Prop
 | .non,v=>v=.non
 | .bl b,v=>v=.bl b
 | .int i,v=>v=.int i
 | .str x,v=>v=.str x
 | .ty n,v=>v=.ty n
 | .tup ds,v=>∃a xs,v=.ref a/\H a=some (.tup xs)/\DenL K Fz H ds xs
 | .lst ds,v=>∃a xs,v=.ref a/\((Fz a/\Rd H a (.lst xs))\/KX K a xs)/\DenL K Fz H ds xs
 | .dK ks ds,v=>∃a xs,v=.ref a/\Fz a/\Rd H a (.dK (ks.zip xs))/\ks.length=xs.length/\DenL K Fz H ds xs
 | .dT ks ds,v=>∃a xs,v=.ref a/\Fz a/\Rd H a (.dT (ks.zip xs))/\ks.length=xs.length/\DenL K Fz H ds xs
noncomputable def DenL (K:PySem.W.Frag)(Fz:FZ)(H:Hp):List PV->List V->Prop
 | [],xs=>xs=[]
 | d::ds,xs=>∃v r,xs=v::r/\Den K Fz H d v/\DenL K Fz H ds r
end
noncomputable def Root (K:PySem.W.Frag)(Fz:FZ)(H:Hp):PV->V->Prop
 | .lst ds,v=>∃a xs,v=.ref a/\(Rd H a (.lst xs)\/KX K a xs)/\DenL K Fz H ds xs
 | .dK ks ds,v=>∃a xs,v=.ref a/\Rd H a (.dK (ks.zip xs))/\ks.length=xs.length/\DenL K Fz H ds xs
 | .dT ks ds,v=>∃a xs,v=.ref a/\Rd H a (.dT (ks.zip xs))/\ks.length=xs.length/\DenL K Fz H ds xs
 | d,v=>Den K Fz H d v
noncomputable def Own (K:PySem.W.Frag)(Fz:FZ)(H:Hp):PV->Addr->Prop
 | .lst ds,a=>∃xs,H a=some (.lst xs)/\DenL K Fz H ds xs
 | .dK ks ds,a=>∃xs,H a=some (.dK (ks.zip xs))/\ks.length=xs.length/\DenL K Fz H ds xs
 | .dT ks ds,a=>∃xs,H a=some (.dT (ks.zip xs))/\ks.length=xs.length/\DenL K Fz H ds xs
 | _,_=>False
noncomputable def Imm:HO->Prop
 | .tup _=>True
 | .frz _ _=>True
 | _=>False
noncomputable def Pl:HO->Prop
 | .lst _=>True
 | .tup _=>True
 | .dK _=>True
 | .dT _=>True
 | _=>False
structure Keep (Fz:FZ)(H H':Hp):Prop where
 rd':∀b u,Pl u->Fz b->Rd H b u->Rd H' b u
 tup:∀b xs,H b=some (.tup xs)->H' b=some (.tup xs)
noncomputable def ziz (Fz:FZ)(H H':Hp):Prop:=∀b o,H b=some o->(Fz b\/Imm o)->H' b=some o
theorem Keep.mk' {Fz:FZ}{H H':Hp}(h:ziz Fz H H'):Keep Fz H H':=
 ⟨λb u _ f r=>by
  rcases r with r | ⟨o,r⟩
  ·exact .inl (h b _ r (.inl f))
  ·exact .inr ⟨o,h b _ r (.inl f)⟩,λb xs r=>h b _ r (.inr trivial)⟩
theorem Keep.of {Fz:FZ}{H H':Hp}(h:Same H H'):Keep Fz H H':=.mk' λb o e _=>h b o e
theorem Keep.rd {Fz:FZ}{H H':Hp}(k:Keep Fz H H'){a:Addr}{u:HO}(pl:Pl u)(hf:Fz a)(h:Rd H a u):Rd H' a u:=k.rd' a u pl hf h
theorem Keep.sqT {K:PySem.W.Frag}{Fz:FZ}{H H':Hp}(k:Keep Fz H H'){a:Addr}{xs:List V}(h:H a=some (.tup xs)):SqT K H' a xs:=SqT.of (k.tup a xs h)
section
variable {K:PySem.W.Frag}{Fz Fz':FZ}{H H':Hp}
mutual
theorem Den.mono (k:Keep Fz H H')(s:∀b,Fz b->Fz' b):∀(d:PV)(v:V),Den K Fz H d v->Den K Fz' H' d v
 | .non,v,h=>by simpa only[Den]using h
 | .bl b,v,h=>by simpa only[Den]using h
 | .int i,v,h=>by simpa only[Den]using h
 | .str x,v,h=>by simpa only[Den]using h
 | .ty n,v,h=>by simpa only[Den]using h
 | .tup ds,v,h=>by
  simp only[Den]at h ⊢;obtain⟨a,xs,e,h1,h2⟩:=h;exact⟨a,xs,e,k.tup a xs h1,DenL.mono k s ds xs h2⟩
 | .lst ds,v,h=>by
  simp only[Den]at h ⊢;obtain⟨a,xs,e,h1,h2⟩:=h;refine⟨a,xs,e,?_,DenL.mono k s ds xs h2⟩;rcases h1 with ⟨f,h1⟩ | h1
  ·exact .inl ⟨s a f,k.rd trivial f h1⟩
  ·exact .inr h1
 | .dK ks ds,v,h=>by
  simp only[Den]at h ⊢;obtain⟨a,xs,e,f,h1,h2,h3⟩:=h;exact⟨a,xs,e,s a f,k.rd trivial f h1,h2,DenL.mono k s ds xs h3⟩
 | .dT ks ds,v,h=>by
  simp only[Den]at h ⊢;obtain⟨a,xs,e,f,h1,h2,h3⟩:=h;exact⟨a,xs,e,s a f,k.rd trivial f h1,h2,DenL.mono k s ds xs h3⟩
theorem DenL.mono (k:Keep Fz H H')(s:∀b,Fz b->Fz' b):∀(ds:List PV)(xs:List V),DenL K Fz H ds xs->DenL K Fz' H' ds xs
 | [],xs,h=>by simpa only[DenL]using h
 | d::ds,xs,h=>by
  simp only[DenL]at h ⊢;obtain⟨v,r,e,h1,h2⟩:=h;exact⟨v,r,e,Den.mono k s d v h1,DenL.mono k s ds r h2⟩
end
theorem Den.root {d:PV}{v:V}(h:Den K Fz H d v):Root K Fz H d v:=by
 cases d with
 | lst ds=>
  simp only[Den]at h;obtain⟨a,xs,e,h1,h2⟩:=h;refine⟨a,xs,e,?_,h2⟩;rcases h1 with ⟨f,h1⟩ | h1
  ·exact .inl h1
  ·exact .inr h1
 | dK ks ds=>
  simp only[Den]at h;obtain⟨a,xs,e,_,h1,h2⟩:=h;exact⟨a,xs,e,h1,h2⟩
 | dT ks ds=>
  simp only[Den]at h;obtain⟨a,xs,e,_,h1,h2⟩:=h;exact⟨a,xs,e,h1,h2⟩
 | non=>exact h
 | bl b=>exact h
 | int i=>exact h
 | str x=>exact h
 | ty n=>exact h
 | tup ds=>exact h
theorem Own.root {d:PV}{a:Addr}(h:Own K Fz H d a):Root K Fz H d (.ref a):=by
 cases d with
 | lst ds=>obtain⟨xs,h1,h2⟩:=h;exact⟨a,xs,rfl,.inl (.inl h1),h2⟩
 | dK ks ds=>obtain⟨xs,h1,h2⟩:=h;exact⟨a,xs,rfl,.inl h1,h2⟩
 | dT ks ds=>obtain⟨xs,h1,h2⟩:=h;exact⟨a,xs,rfl,.inl h1,h2⟩
 | non=>exact h.elim
 | bl b=>exact h.elim
 | int i=>exact h.elim
 | str x=>exact h.elim
 | ty n=>exact h.elim
 | tup ds=>exact h.elim
theorem Own.den {d:PV}{a:Addr}(h:Own K Fz H d a)(f:Fz a):Den K Fz H d (.ref a):=by
 cases d with
 | lst ds=>obtain⟨xs,h1,h2⟩:=h;simp only[Den];exact⟨a,xs,rfl,.inl ⟨f,.inl h1⟩,h2⟩
 | dK ks ds=>obtain⟨xs,h1,h2⟩:=h;simp only[Den];exact⟨a,xs,rfl,f,.inl h1,h2⟩
 | dT ks ds=>obtain⟨xs,h1,h2⟩:=h;simp only[Den];exact⟨a,xs,rfl,f,.inl h1,h2⟩
 | non=>exact h.elim
 | bl b=>exact h.elim
 | int i=>exact h.elim
 | str x=>exact h.elim
 | ty n=>exact h.elim
 | tup ds=>exact h.elim
theorem Own.at {d:PV}{a:Addr}(h:Own K Fz H d a):∃o,H a=some o/\¬ Imm o:=by
 cases d with
 | lst ds=>obtain⟨xs,h1,h2⟩:=h;exact⟨_,h1,λz=>z⟩
 | dK ks ds=>obtain⟨xs,h1,h2⟩:=h;exact⟨_,h1,λz=>z⟩
 | dT ks ds=>obtain⟨xs,h1,h2⟩:=h;exact⟨_,h1,λz=>z⟩
 | non=>exact h.elim
 | bl b=>exact h.elim
 | int i=>exact h.elim
 | str x=>exact h.elim
 | ty n=>exact h.elim
 | tup ds=>exact h.elim
theorem Own.mono {d:PV}{a:Addr}(k:Keep Fz H H')(s:∀b,Fz b->Fz' b)(ha:∀o,H a=some o->H' a=some o)(h:Own K Fz H d a):Own K Fz' H' d a:=by
 cases d with
 | lst ds=>obtain⟨xs,h1,h2⟩:=h;exact⟨xs,ha _ h1,DenL.mono k s _ _ h2⟩
 | dK ks ds=>obtain⟨xs,h1,h2,h3⟩:=h;exact⟨xs,ha _ h1,h2,DenL.mono k s _ _ h3⟩
 | dT ks ds=>obtain⟨xs,h1,h2,h3⟩:=h;exact⟨xs,ha _ h1,h2,DenL.mono k s _ _ h3⟩
 | non=>exact h.elim
 | bl b=>exact h.elim
 | int i=>exact h.elim
 | str x=>exact h.elim
 | ty n=>exact h.elim
 | tup ds=>exact h.elim
theorem Root.mono {d:PV}{v:V}(k:Same H H')(s:∀b,Fz b->Fz' b)(h:Root K Fz H d v):Root K Fz' H' d v:=by
 have rd:∀ {a u},Rd H a u->Rd H' a u:=λ{a u} q=>by
  rcases q with q | ⟨o,q⟩
  ·exact .inl (k _ _ q)
  ·exact .inr ⟨o,k _ _ q⟩
 cases d with
 | lst ds=>obtain⟨a,xs,e,h1,h2⟩:=h;exact⟨a,xs,e,h1.imp rd id,DenL.mono (.of k) s _ _ h2⟩
 | dK ks ds=>obtain⟨a,xs,e,h1,h2,h3⟩:=h;exact⟨a,xs,e,rd h1,h2,DenL.mono (.of k) s _ _ h3⟩
 | dT ks ds=>obtain⟨a,xs,e,h1,h2,h3⟩:=h;exact⟨a,xs,e,rd h1,h2,DenL.mono (.of k) s _ _ h3⟩
 | non=>exact Den.mono (.of k) s _ _ h
 | bl b=>exact Den.mono (.of k) s _ _ h
 | int i=>exact Den.mono (.of k) s _ _ h
 | str x=>exact Den.mono (.of k) s _ _ h
 | ty n=>exact Den.mono (.of k) s _ _ h
 | tup ds=>exact Den.mono (.of k) s _ _ h
theorem DenL.length:∀(ds:List PV)(xs:List V),DenL K Fz H ds xs->ds.length=xs.length
 | [],xs,h=>by simp only[DenL]at h;subst h;rfl
 | d::ds,xs,h=>by
  simp only[DenL]at h;obtain⟨v,r,z,_,h2⟩:=h;subst z;rw[List.length_cons,List.length_cons,DenL.length ds r h2]
theorem DenL.get:∀ {ds:List PV}{xs:List V}{i:Nat}{d:PV},DenL K Fz H ds xs->ds[i]? = some d->∃v,xs[i]? = some v/\Den K Fz H d v
 | [],xs,i,d,h,e=>by simp at e
 | d0::ds,xs,i,d,h,e=>by
  simp only[DenL]at h;obtain⟨v0,r,z,h1,h2⟩:=h;subst z;cases i with
  | zero=>simp at e;subst e;exact⟨v0,rfl,h1⟩
  | succ i=>
   obtain⟨v,q,h⟩:=DenL.get h2 (i:=i) (d:=d) (by simpa using e);exact⟨v,by simpa using q,h⟩
theorem DenL.nil:DenL K Fz H [] []:=by simp only[DenL]
theorem DenL.cons {d:PV}{v:V}{ds:List PV}{xs:List V}(h1:Den K Fz H d v)(h2:DenL K Fz H ds xs):DenL K Fz H (d::ds) (v::xs):=by
 simp only[DenL];exact⟨v,xs,rfl,h1,h2⟩
theorem DenL.append:∀ {ds es:List PV}{xs ys:List V},DenL K Fz H ds xs->DenL K Fz H es ys->DenL K Fz H (ds++es) (xs++ys)
 | [],es,xs,ys,h,g=>by simp only[DenL]at h;subst h;exact g
 | d::ds,es,xs,ys,h,g=>by
  simp only[DenL]at h;obtain⟨v,r,z,h1,h2⟩:=h;subst z;exact DenL.cons h1 (DenL.append h2 g)
theorem DenL.snoc {ds:List PV}{xs:List V}{d:PV}{v:V}(h:DenL K Fz H ds xs)(g:Den K Fz H d v):DenL K Fz H (ds++[d]) (xs++[v]):=h.append (DenL.cons g DenL.nil)
theorem DenL.split:∀ {ds es:List PV}{xs:List V},DenL K Fz H (ds++es) xs->∃ys zs,xs=ys++zs/\DenL K Fz H ds ys/\DenL K Fz H es zs
 | [],es,xs,h=>⟨[],xs,rfl,DenL.nil,h⟩
 | d::ds,es,xs,h=>by
  rw[List.cons_append]at h;simp only[DenL]at h;obtain⟨v,r,z,h1,h2⟩:=h;subst z;obtain⟨ys,zs,e,g1,g2⟩:=DenL.split h2;exact⟨v::ys,zs,by rw[e];rfl,DenL.cons h1 g1,g2⟩
theorem DenL.take {ds:List PV}{xs:List V}(n:Nat)(h:DenL K Fz H ds xs):DenL K Fz H (ds.take n) (xs.take n):=by
 have hl:=h.length;obtain⟨ys,zs,e,g1,g2⟩:=DenL.split (ds:=ds.take n) (es:=ds.drop n) (by rw[List.take_append_drop];exact h);have h1:=g1.length;subst e;by_cases hn:n<=ds.length
 ·rw[List.length_take,Nat.min_eq_left hn]at h1;rw[List.take_append_of_le_length (by lia),List.take_of_length_le (i:=n) (l:=ys) (by lia)];exact g1
 ·rw[List.take_of_length_le (i:=n) (l:=ds) (by lia),List.take_of_length_le (i:=n) (l:=ys++zs) (by lia)];exact h
theorem DenL.drop {ds:List PV}{xs:List V}(n:Nat)(h:DenL K Fz H ds xs):DenL K Fz H (ds.drop n) (xs.drop n):=by
 have hl:=h.length;obtain⟨ys,zs,e,g1,g2⟩:=DenL.split (ds:=ds.take n) (es:=ds.drop n) (by rw[List.take_append_drop];exact h);have h1:=g1.length;subst e;by_cases hn:n<=ds.length
 ·rw[List.length_take,Nat.min_eq_left hn]at h1;rw[List.drop_append,List.drop_of_length_le (i:=n) (l:=ys) (by lia),show n-ys.length=0 by lia];exact g2
 ·rw[List.drop_of_length_le (i:=n) (l:=ds) (by lia),List.drop_of_length_le (i:=n) (l:=ys++zs) (by lia)];exact DenL.nil
theorem DenL.eraseIdx:∀ {ds:List PV}{xs:List V}(i:Nat),DenL K Fz H ds xs->DenL K Fz H (ds.eraseIdx i) (xs.eraseIdx i)
 | [],xs,i,h=>by simp only[DenL]at h;subst h;exact DenL.nil
 | d0::ds,xs,i,h=>by
  simp only[DenL]at h;obtain⟨v0,r,z,h1,h2⟩:=h;subst z;cases i with
  | zero=>exact h2
  | succ i=>exact DenL.cons h1 (DenL.eraseIdx i h2)
end
noncomputable abbrev PEnv:=List (Option (PV×Bool))
structure Rel (K:PySem.W.Frag)(Fz:FZ)(ρ:PEnv)(σ:St)(H:Hp):Prop where
 al:∀b,Fz b->H b≠none
 len:ρ.length=σ.length
 frz:∀(i:Nat) (d:PV),ρ[i]? = some (some (d,false))->∃v,σ[i]? = some (some v)/\Den K Fz H d v
 own:∀(i:Nat) (d:PV),ρ[i]? = some (some (d,true))->∃a,σ[i]? = some (some (.ref a))/\¬ Fz a/\Own K Fz H d a
 inj:∀(i j:Nat) (d e:PV) (a:Addr),ρ[i]? = some (some (d,true))->ρ[j]? = some (some (e,true))->σ[i]? = some (some (.ref a))->σ[j]? = some (some (.ref a))->i=j
noncomputable def zax (ρ:PEnv)(σ:St)(a:Addr):Prop:=∃(i:Nat)(d:PV),ρ[i]? = some (some (d,true))/\σ[i]? = some (some (.ref a))
structure Ext (Fz:FZ)(H:Hp)(Fz':FZ)(H':Hp):Prop where
 same:Same H H'
 sub:∀b,Fz b->Fz' b
 new:∀b,Fz' b->Fz b\/H b=none
 al:∀b,Fz' b->H' b≠none
theorem Ext.trans {F1 F2 F3:FZ}{H1 H2 H3:Hp}(a:Ext F1 H1 F2 H2)(b:Ext F2 H2 F3 H3):Ext F1 H1 F3 H3:=
 ⟨a.same.trans b.same,λc h=>b.sub c (a.sub c h),λc h=>by
  rcases b.new c h with h | h
  ·exact a.new c h
  ·exact .inr (a.same.free h),b.al⟩
theorem Ext.add {Fz Fz':FZ}{H H':Hp}{a:Addr}(x:Ext Fz H Fz' H')(h:H a=none)(h':H' a≠none):Ext Fz H (λb=>Fz' b\/b=a) H':=
 ⟨x.same,λb h=>.inl (x.sub b h),λb hb=>by
  rcases hb with hb | rfl
  ·exact x.new b hb
  ·exact .inr h,λb hb=>by
  rcases hb with hb | rfl
  ·exact x.al b hb
  ·exact h'⟩
theorem Ext.laid {Fz Fz':FZ}{H H':Hp}{p:Addr}{o:HO}(x:Ext Fz H Fz' H')(h:H' p=none):Ext Fz H Fz' (upd H' p o):=
 ⟨x.same.trans (λb u e=>by rw[zaf (zau e h)];exact e),x.sub,x.new,λb hb=>by
  by_cases e:b=p
  ·subst e;rw[zag];exact λz=>nomatch z
  ·rw[zaf e];exact x.al b hb⟩
theorem Rel.ext {K:PySem.W.Frag}{Fz Fz':FZ}{ρ:PEnv}{σ:St}{H H':Hp}(R:Rel K Fz ρ σ H)(x:Ext Fz H Fz' H'):Rel K Fz' ρ σ H' where
 al:=x.al
 len:=R.len
 frz i d h:=by
  obtain⟨v,e,q⟩:=R.frz i d h;exact⟨v,e,Den.mono (.of x.same) x.sub d v q⟩
 own i d h:=by
  obtain⟨a,e,n,q⟩:=R.own i d h;refine⟨a,e,λz=>?_,q.mono (.of x.same) x.sub (λo h=>x.same _ _ h)⟩;rcases x.new a z with z | z
  ·exact n z
  ·obtain⟨o,h,_⟩:=q.at;rw[h]at z;cases z
 inj:=R.inj
inductive Kd where
 | frz | new | own (i:Nat)
noncomputable def Opd (K:PySem.W.Frag)(Fz':FZ)(H':Hp)(ρ:PEnv)(σ:St)(H:Hp)(d:PV):Kd->V->Prop
 | .frz,v=>Den K Fz' H' d v
 | .new,v=>∃a,v=.ref a/\H a=none/\¬ Fz' a/\Own K Fz' H' d a
 | .own i,v=>ρ[i]? = some (some (d,true))/\σ[i]? = some (some v)
structure Post (K:PySem.W.Frag)(ρ:PEnv)(σ:St)(Fz:FZ)(H:Hp)(Fz':FZ)(H':Hp)(d:PV)(k:Kd)(v:V):Prop where
 ext:Ext Fz H Fz' H'
 opd:Opd K Fz' H' ρ σ H d k v
theorem Post.root {K:PySem.W.Frag}{ρ:PEnv}{σ:St}{Fz Fz':FZ}{H H':Hp}{d:PV}{k:Kd}{v:V}(R:Rel K Fz ρ σ H)(p:Post K ρ σ Fz H Fz' H' d k v):Root K Fz' H' d v:=by
 cases k with
 | frz=>exact Den.root p.opd
 | new=>obtain⟨a,e,_,_,h⟩:=p.opd;subst e;exact h.root
 | own i=>
  obtain⟨h1,h2⟩:=p.opd;obtain⟨a,e,_,q⟩:=(R.ext p.ext).own i d h1;rw[h2]at e;cases e;exact q.root
theorem Post.frozen {K:PySem.W.Frag}{ρ:PEnv}{σ:St}{Fz Fz':FZ}{H H':Hp}{d:PV}{k:Kd}{v:V}(hk:k=.frz\/k=.new)(p:Post K ρ σ Fz H Fz' H' d k v) :
  ∃Fz2,Ext Fz H Fz2 H'/\(∀b,Fz' b->Fz2 b)/\Den K Fz2 H' d v:=by
 rcases hk with rfl | rfl
 ·exact⟨Fz',p.ext,λ_ h=>h,p.opd⟩
 ·obtain⟨a,e,hn,_,h⟩:=p.opd;subst e;exact⟨λb=>Fz' b\/b=a,p.ext.add hn (by obtain⟨o,e,_⟩:=h.at;rw[e];exact λz=>nomatch z),λ_ h=>.inl h,(h.mono (Fz':=λb=>Fz' b\/b=a) (Keep.of (Same.refl _)) (λ_ h=>.inl h) (λ_ h=>h)).den (.inr rfl)⟩
noncomputable abbrev TPE:=PEnv->(PV->Kd->Prop)->Prop
noncomputable abbrev TPT:=PEnv->(Bool->Prop)->Prop
noncomputable abbrev TPA:=PEnv->(List (PV×Kd)->Prop)->Prop
noncomputable def lift (K:PySem.W.Frag)(t:TPE):TE:=λσ H Q=>∃ρ Fz,Rel K Fz ρ σ H/\t ρ λd k=>∀v Fz' H',Post K ρ σ Fz H Fz' H' d k v->Q v H'
noncomputable def liftT (K:PySem.W.Frag)(t:TPT):TT:=λσ H Q=>∃ρ Fz,Rel K Fz ρ σ H/\t ρ λb=>∀Fz' H',Ext Fz H Fz' H'->Q b H'
structure PuE (X:Cx)(e:Expr)(t:TPE):Prop where
 mono:∀ρ Q Q',(∀d k,Q d k->Q' d k)->t ρ Q->t ρ Q'
 run:PE X e (lift X.K t)
structure PuT (X:Cx)(e:Expr)(t:TPT):Prop where
 mono:∀ρ Q Q',(∀b,Q b->Q' b)->t ρ Q->t ρ Q'
 run:PT X e (liftT X.K t)
theorem PE.weak {X:Cx}{e:Expr}{t t':TE}(h:PE X e t)(w:∀σ H Q,t' σ H Q->t σ H Q):PE X e t':=λpins s σ H Q I q=>h pins s σ H Q I (w σ H Q q)
theorem PT.weak {X:Cx}{e:Expr}{t t':TT}(h:PT X e t)(w:∀σ H Q,t' σ H Q->t σ H Q):PT X e t':=λpins s σ H Q I q=>h pins s σ H Q I (w σ H Q q)
theorem zsS {X:Cx}{a b:Expr}{ta tb:TPE}(ha:PuE X a ta)(hb:PuE X b tb){σ:St}{H:Hp}{R:V->V->Hp->Prop}
  (ρ:PEnv) (Fz:FZ) (Re:Rel X.K Fz ρ σ H)
  (h:ta ρ λd kd=>tb ρ λe ke=>∀x y Fz1 H1 Fz2 H2,Post X.K ρ σ Fz H Fz1 H1 d kd x->Post X.K ρ σ Fz1 H1 Fz2 H2 e ke y->R x y H2) :
  lift X.K ta σ H λx H1=>lift X.K tb σ H1 λy H2=>R x y H2:=
 ⟨ρ,Fz,Re,ha.mono ρ _ _ (λd kd q v Fz1 H1 p1=>⟨ρ,Fz1,Re.ext p1.ext,hb.mono ρ _ _ (λe ke q w Fz2 H2 p2=>q v w Fz1 H1 Fz2 H2 p1 p2) q⟩) h⟩
end PL
namespace PL
open PySem PySem.Spec L2
open PyProof.Rows hiding St
section
variable {K:PySem.W.Frag}{ρ:PEnv}{σ:St}{Fz Fz1 Fz2:FZ}{H H1 H2:Hp}{d:PV}{k:Kd}{v:V}
theorem Opd.ext (x:Ext Fz1 H1 Fz2 H2)(h:Opd K Fz1 H1 ρ σ H d k v):Opd K Fz2 H2 ρ σ H d k v:=by
 cases k with
 | frz=>exact Den.mono (.of x.same) x.sub _ _ h
 | new=>
  obtain⟨a,e,hn,nf,o⟩:=h;refine⟨a,e,hn,λz=>?_,o.mono (.of x.same) x.sub (λo h=>x.same _ _ h)⟩;rcases x.new a z with z | z
  ·exact nf z
  ·obtain⟨o',h,_⟩:=o.at;rw[h]at z;cases z
 | own i=>exact h
theorem Opd.back (s:Same H H1)(h:Opd K Fz2 H2 ρ σ H1 d k v):Opd K Fz2 H2 ρ σ H d k v:=by
 cases k with
 | frz=>exact h
 | new=>obtain⟨a,e,hn,r⟩:=h;exact⟨a,e,s.free hn,r⟩
 | own i=>exact h
theorem Opd.up (h:Opd K Fz2 H2 [] [] H d k v):Opd K Fz2 H2 ρ σ H d k v:=by
 cases k with
 | frz=>exact h
 | new=>exact h
 | own i=>obtain⟨z,_⟩:=h;simp at z
theorem Post.behind (x:Ext Fz H Fz1 H1)(p:Post K [] [] Fz1 H1 Fz2 H2 d k v):Post K ρ σ Fz H Fz2 H2 d k v:=
 ⟨x.trans p.ext,(p.opd.up (ρ:=ρ) (σ:=σ)).back x.same⟩
theorem Post.then(x:Ext Fz H Fz1 H1)(p:Post K ρ σ Fz1 H1 Fz2 H2 d k v):Post K ρ σ Fz H Fz2 H2 d k v:=
 ⟨x.trans p.ext,p.opd.back x.same⟩
theorem Post.val (al:∀b,Fz b->H b≠none)(h:Den K Fz H d v):Post K ρ σ Fz H Fz H d .frz v:=⟨⟨Same.refl H,λ_ h=>h,λ_ h=>.inl h,al⟩,h⟩
end
noncomputable def pVar (i:Nat):TPE:=λρ Q=>∃d b,ρ[i]? = some (some (d,b))/\Q d (if b then .own i else .frz)
noncomputable def pC (d:PV):TPE:=λ_ Q=>Q d .frz
section
variable {X:Cx}
theorem zab (i:Nat){x:Str}{pos:Pos}(hN:X.N[i]? = some x:=by rfl)(hv:Vis X.env.scope x:=by first | exact Or.inl rfl | exact Or.inr (Or.inl rfl) | exact Or.inr (Or.inr rfl))(hd:(x == ("__debug__" : Str))=false:=by decide)
  (hcd:(x == ("__classdict__" : Str))=false:=by decide):PuE X (.Name x pos) (pVar i) where
 mono ρ Q Q' m h:=by obtain⟨d,b,e,q⟩:=h;exact⟨d,b,e,m _ _ q⟩
 run:=PE.weak (zcC hN hv hd hcd) λσ H Q h=>by
  obtain⟨ρ,Fz,R,d,b,e,q⟩:=h;cases b with
  | false=>
   obtain⟨v,e1,h1⟩:=R.frz i d e;exact⟨v,e1,q v Fz H (.val R.al h1)⟩
  | true=>
   obtain⟨a,e1,_,_⟩:=R.own i d e;exact⟨_,e1,q _ Fz H ⟨⟨Same.refl H,λ_ h=>h,λ_ h=>.inl h,R.al⟩,e,e1⟩⟩
theorem zdp {e:Expr}{d:PV}{v:V}(h:PE X e (tC v))(hd:∀Fz H,Den X.K Fz H d v):PuE X e (pC d) where
 mono ρ Q Q' m h:=m _ _ h
 run:=PE.weak h λσ H Q h=>by
  obtain⟨ρ,Fz,R,q⟩:=h;exact q v Fz H (.val R.al (hd Fz H))
theorem zaj {i j pos}:PuE X (.Constant (.int i) j pos) (pC (.int i)):=zdp zqn λ_ _=>by simp only[Den]
theorem ziA {b j pos}:PuE X (.Constant (.bool b) j pos) (pC (.bl b)):=zdp zsx λ_ _=>by simp only[Den]
theorem zrg {j pos}:PuE X (.Constant .none j pos) (pC .non):=zdp zqo λ_ _=>by simp only[Den]
theorem zrh {x j pos}:PuE X (.Constant (.str x) j pos) (pC (.str x)):=zdp zqp λ_ _=>by simp only[Den]
theorem znt {x:Str}{T:String}{pos:Pos}(hg:Gl X x)(hm:X.mg x=none)(hv:bootBuiltins x=some (.type T))(hn:x≠"__name__":=by decide) (hd:(x == ("__debug__" : Str))=false:=by decide):PuE X (.Name x pos) (pC (.ty T)):=
 zdp (zoL (v:=.ty T) hg hm hv rfl hn hd) λ_ _=>by simp only[Den]
end
noncomputable abbrev P2:=PV->PV->(PV->Kd->Prop)->Prop
structure POp (K:PySem.W.Frag)(r:R2)(p:P2):Prop where
 mono:∀d e Q Q',(∀z k,Q z k->Q' z k)->p d e Q->p d e Q'
 run:∀Fz H x y d e Q,(∀b,Fz b->H b≠none)->Root K Fz H d x->Root K Fz H e y->p d e (λz k=>∀v Fz' H',Post K [] [] Fz H Fz' H' z k v->Q v H')->r x y H Q
noncomputable def t2 (p:P2)(ta tb:TPE):TPE:=λρ Q=>ta ρ λd _=>tb ρ λe _=>p d e Q
section
variable {X:Cx}{a b:Expr}{ta tb:TPE}{pos:Pos}{r:R2}{p:P2}
theorem zdV (hp:POp X.K r p)(ha:PuE X a ta)(hb:PuE X b tb):∀ρ Q Q',(∀d k,Q d k->Q' d k)->t2 p ta tb ρ Q->t2 p ta tb ρ Q':=
 λρ Q Q' m h=>ha.mono ρ _ _ (λd _ h=>hb.mono ρ _ _ (λe _ h=>hp.mono d e _ _ m h) h) h
theorem zhf (hp:POp X.K r p)(ha:PuE X a ta)(hb:PuE X b tb){σ:St}{H:Hp}{Q:VK}(h:lift X.K (t2 p ta tb) σ H Q):tOp r (lift X.K ta) (lift X.K tb) σ H Q:=by
 obtain⟨ρ,Fz,R,h⟩:=h;refine zsS ha hb ρ Fz R (ha.mono ρ _ _ (λd kd h=>hb.mono ρ _ _ (λe ke h=>?_) h) h);intro x y Fz1 H1 Fz2 H2 p1 p2;have R1:=R.ext p1.ext;refine hp.run Fz2 H2 x y d e Q p2.ext.al ((p1.root R).mono p2.ext.same p2.ext.sub) (p2.root R1) (hp.mono d e _ _ (λz k q v Fz' H' p3=>?_) h);exact q v Fz' H' (p3.behind (p1.ext.trans p2.ext))
theorem zhg {op:Operator}(ho:OpR X (binaryOp op) r)(hp:POp X.K r p)(ha:PuE X a ta)(hb:PuE X b tb):PuE X (.BinOp a op b pos) (t2 p ta tb):=
 ⟨zdV hp ha hb,PE.weak (zsG ho ha.run hb.run) λ_ _ _ h=>zhf hp ha hb h⟩
theorem zri {op:CmpOp}(ho:OpR X (compareOp op) r)(hp:POp X.K r p)(ha:PuE X a ta)(hb:PuE X b tb)(hm:behindInMarks op b=false:=by first | exact zew _ | rfl):PuE X (.Compare a [op] [b] pos) (t2 p ta tb):=
 ⟨zdV hp ha hb,PE.weak (zoQ ho ha.run hb.run hm) λ_ _ _ h=>zhf hp ha hb h⟩
noncomputable def tBl (te:TPE):TPT:=λρ Q=>te ρ λd _=>∃b,d=.bl b/\Q b
theorem zfc {op:CmpOp}(ho:OpR X (compareOp op) r)(hp:POp X.K r p)(ha:PuE X a ta)(hb:PuE X b tb)(hm:behindInMarks op b=false:=by first | exact zew _ | rfl):PuT X (.Compare a [op] [b] pos) (tBl (t2 p ta tb)) where
 mono ρ Q Q' m h:=zdV hp ha hb ρ _ _ (λd _ ⟨b,e,q⟩=>⟨b,e,m b q⟩) h
 run:=PT.weak (zoR ho ha.run hb.run hm) λσ H Q h=>by
  obtain⟨ρ,Fz,R,h⟩:=h;refine zhf hp ha hb ⟨ρ,Fz,R,zdV hp ha hb ρ _ _ (λd k ⟨b,e,q⟩ v Fz' H' p=>⟨b,?_,q Fz' H' p.ext⟩) h⟩;subst e;have w:=p.root R;simpa only[Root,Den]using w
theorem zsT (ho:IxR X r)(hp:POp X.K r p)(ha:PuE X a ta)(hb:PuE X b tb)(hs:zfZ b:=by exact λ_ _=>rfl):PuE X (.Subscript a b pos) (t2 p ta tb):=
 ⟨zdV hp ha hb,PE.weak (zqM ho ha.run hb.run hs) λ_ _ _ h=>zhf hp ha hb h⟩
end
noncomputable def i2 (C:Int->Int->Prop)(g:Int->Int->PV):P2:=λd e Q=>∃i j,d=.int i/\e=.int j/\C i j/\Q (g i j) .frz
noncomputable def i0 (g:Int->Int->PV):P2:=λd e Q=>∃i j,d=.int i/\e=.int j/\Q (g i j) .frz
section
variable {K:PySem.W.Frag}
theorem zjo {C:Int->Int->Prop}{g:Int->Int->Int}:POp K (rI C λi j=>.int (g i j)) (i2 C λi j=>.int (g i j)) where
 mono d e Q Q' m h:=by obtain⟨i,j,e1,e2,c,q⟩:=h;exact⟨i,j,e1,e2,c,m _ _ q⟩
 run Fz H x y d e Q al rx ry h:=by
  obtain⟨i,j,rfl,rfl,c,q⟩:=h;simp only[Root,Den]at rx ry;exact⟨i,j,rx,ry,c,q _ Fz H (.val al (by simp only[Den]))⟩
theorem zlz {g:Int->Int->Int}:POp K (rI0 λi j=>.int (g i j)) (i0 λi j=>.int (g i j)) where
 mono d e Q Q' m h:=by obtain⟨i,j,e1,e2,q⟩:=h;exact⟨i,j,e1,e2,m _ _ q⟩
 run Fz H x y d e Q al rx ry h:=by
  obtain⟨i,j,rfl,rfl,q⟩:=h;simp only[Root,Den]at rx ry;exact⟨i,j,rx,ry,q _ Fz H (.val al (by simp only[Den]))⟩
theorem znu {g:Int->Int->Bool}:POp K (rI0 λi j=>.bl (g i j)) (i0 λi j=>.bl (g i j)) where
 mono d e Q Q' m h:=by obtain⟨i,j,e1,e2,q⟩:=h;exact⟨i,j,e1,e2,m _ _ q⟩
 run Fz H x y d e Q al rx ry h:=by
  obtain⟨i,j,rfl,rfl,q⟩:=h;simp only[Root,Den]at rx ry;exact⟨i,j,rx,ry,q _ Fz H (.val al (by simp only[Den]))⟩
end
section
variable {X:Cx}{a b:Expr}{ta tb:TPE}{pos:Pos}
noncomputable abbrev pAdd:=t2 (i0 λi j=>.int (i+j))
noncomputable abbrev pSub:=t2 (i0 λi j=>.int (i-j))
noncomputable abbrev pMul:=t2 (i2 CMul λi j=>.int (i*j))
noncomputable abbrev pMod:=t2 (i2 (λ_ j=>0<j) λi j=>.int (i % j))
noncomputable abbrev pPow:=t2 (i2 CPow λi j=>.int (i ^ j.toNat))
noncomputable abbrev pShr:=t2 (i2 (λ_ j=>0<=j) λi j=>.int (i / 2 ^ j.toNat))
noncomputable abbrev pGt:=t2 (i0 λi j=>.bl (decide (j<i)))
theorem zcg (ha:PuE X a ta)(hb:PuE X b tb):PuE X (.BinOp a .Add b pos) (pAdd ta tb):=zhg zqB zlz ha hb
theorem zrj (ha:PuE X a ta)(hb:PuE X b tb):PuE X (.BinOp a .Sub b pos) (pSub ta tb):=zhg zqC zlz ha hb
theorem zez (ha:PuE X a ta)(hb:PuE X b tb):PuE X (.BinOp a .Mult b pos) (pMul ta tb):=zhg zqD zjo ha hb
theorem zbj (ha:PuE X a ta)(hb:PuE X b tb):PuE X (.BinOp a .Mod b pos) (pMod ta tb):=zhg zqE zjo ha hb
theorem zrk (ha:PuE X a ta)(hb:PuE X b tb):PuE X (.BinOp a .Pow b pos) (pPow ta tb):=zhg zqF zjo ha hb
theorem zow (ha:PuE X a ta)(hb:PuE X b tb):PuE X (.BinOp a .RShift b pos) (pShr ta tb):=zhg zqG zjo ha hb
end
noncomputable def plain:Nat->PV->Bool
 | _,.non=>true
 | _,.int _=>true
 | _,.str _=>true
 | n+1,.tup ds=>ds.all (plain n)
 | n+1,.lst ds=>ds.all (plain n)
 | _,_=>false
theorem zbH {K:PySem.W.Frag}{Fz:FZ}{H:Hp}{x:V}(h:Root K Fz H .non x):x=.non:=by simpa only[Root,Den]using h
theorem zat {K:PySem.W.Frag}{Fz:FZ}{H:Hp}{x:V}{i:Int}(h:Root K Fz H (.int i) x):x=.int i:=by simpa only[Root,Den]using h
theorem zgg {K:PySem.W.Frag}{Fz:FZ}{H:Hp}{x:V}{i:Bool}(h:Root K Fz H (.bl i) x):x=.bl i:=by simpa only[Root,Den]using h
theorem zaN {K:PySem.W.Frag}{Fz:FZ}{H:Hp}{x:V}{i:Str}(h:Root K Fz H (.str i) x):x=.str i:=by simpa only[Root,Den]using h
theorem zaO {K:PySem.W.Frag}{Fz:FZ}{H:Hp}{x:V}{ds:List PV}(h:Root K Fz H (.tup ds) x):∃a xs,x=.ref a/\SqT K H a xs/\DenL K Fz H ds xs:=by
 simp only[Root,Den]at h;obtain⟨a,xs,e,h1,h2⟩:=h;exact⟨a,xs,e,SqT.of h1,h2⟩
theorem zdq {K:PySem.W.Frag}{Fz:FZ}{H:Hp}{x:V}{ds:List PV}(h:Root K Fz H (.tup ds) x):∃a xs,x=.ref a/\H a=some (.tup xs)/\DenL K Fz H ds xs:=by simpa only[Root,Den]using h
theorem zak {K:PySem.W.Frag}{Fz:FZ}{H:Hp}{x:V}{ds:List PV}(h:Root K Fz H (.lst ds) x):∃a xs,x=.ref a/\SqL K H a xs/\DenL K Fz H ds xs:=by
 simp only[Root]at h;obtain⟨a,xs,e,h1,h2⟩:=h;exact⟨a,xs,e,h1.elim (λh=>.inl h) KX.sq,h2⟩
theorem zhh {K:PySem.W.Frag}{Fz:FZ}{H:Hp}{x:V}{ds:List PV}(h:Root K Fz H (.lst ds) x):∃a xs,x=.ref a/\(Rd H a (.lst xs)\/KX K a xs)/\DenL K Fz H ds xs:=by simpa only[Root]using h
theorem df {p:Prop} [Decidable p] (h:¬ p){Y:Bool->Prop}(y:Y false):Y (decide p):=by rw[decide_eq_false h];exact y
theorem dn {p:Prop} [Decidable p] (h:¬ p){Y:Bool->Prop}(y:Y true):Y (!decide p):=by rw[decide_eq_false h];exact y
section
variable {X:Cx}{pins:List (Addr×Obj)}{σ:St}{H:Hp}{s:Shared}{Fz Fz':FZ}
theorem zdr (I:Inv X pins σ H s){a:Addr}{xs ys:List V}(h1:SqL X.K H a xs)(h2:SqT X.K H a ys):False:=by
 obtain⟨its,r,p,_⟩:=I.list h1;obtain⟨its2,r2,p2,_⟩:=I.tuple h2;exact SeqAt.ne_of_list_tuple p.isList (show s.heap.IsTuple a its2.toArray from p2) rfl
theorem zgh (I:Inv X pins σ H s):∀(n:Nat)(d e:PV)(x:V),plain n d=true->plain n e=true->Root X.K Fz H d x->Root X.K Fz' H e x->d=e:=by
 intro n;induction n with
 | zero=>
  intro d e x pd pe h g;cases d<;>first
   | (simp only[plain]at pd;exact absurd pd (by decide))
   | (cases e<;>first
     | (simp only[plain]at pe;exact absurd pe (by decide))
     | (simp only[Root,Den]at h g;subst h;first | (cases g;rfl) | cases g))
 | succ n ih=>
  have all:∀(ds es:List PV) (xs:List V),ds.all (plain n)=true->es.all (plain n)=true->DenL X.K Fz H ds xs->DenL X.K Fz' H es xs->ds=es:=by
   intro ds;induction ds with
   | nil=>
    intro es xs _ _ h g;simp only[DenL]at h;subst h;cases es with
    | nil=>rfl
    | cons e es=>simp only[DenL]at g;obtain⟨_,_,z,_⟩:=g;cases z
   | cons d ds ihd=>
    intro es xs pd pe h g;simp only[DenL]at h;obtain⟨v,r,z,h1,h2⟩:=h;subst z;cases es with
    | nil=>simp only[DenL]at g;cases g
    | cons e es=>
     simp only[DenL]at g;obtain⟨v',r',z,g1,g2⟩:=g;cases z;rw[List.all_cons,Bool.and_eq_true]at pd pe;rw[ih d e v pd.1 pe.1 h1.root g1.root,ihd es r pd.2 pe.2 h2 g2]
  intro d e x pd pe h g;cases d with
  | tup ds=>
   simp only[plain]at pd;simp only[Root,Den]at h;obtain⟨a,xs,rfl,h1,h2⟩:=h;cases e with
   | tup es=>
    simp only[plain]at pe;simp only[Root,Den]at g;obtain⟨b,ys,z,g1,g2⟩:=g;cases z;have e1:=I.zgM (SqT.of h1) (SqT.of g1);subst e1;rw[all ds es xs pd pe h2 g2]
   | lst es=>
    obtain⟨b,ys,z,g1,g2⟩:=zak g;cases z;exact(zdr I g1 (SqT.of h1)).elim
   | non=>simp only[Root,Den]at g;cases g
   | int i=>simp only[Root,Den]at g;cases g
   | str i=>simp only[Root,Den]at g;cases g
   | bl _=>simp only[plain]at pe;exact absurd pe (by decide)
   | ty _=>simp only[plain]at pe;exact absurd pe (by decide)
   | dK _ _=>simp only[plain]at pe;exact absurd pe (by decide)
   | dT _ _=>simp only[plain]at pe;exact absurd pe (by decide)
  | lst ds=>
   simp only[plain]at pd;obtain⟨a,xs,rfl,h1,h2⟩:=zak h;cases e with
   | lst es=>
    simp only[plain]at pe;obtain⟨b,ys,z,g1,g2⟩:=zak g;cases z;have e1:=I.zdg h1 g1;subst e1;rw[all ds es xs pd pe h2 g2]
   | tup es=>
    simp only[Root,Den]at g;obtain⟨b,ys,z,g1,g2⟩:=g;cases z;exact(zdr I h1 (SqT.of g1)).elim
   | non=>simp only[Root,Den]at g;cases g
   | int i=>simp only[Root,Den]at g;cases g
   | str i=>simp only[Root,Den]at g;cases g
   | bl _=>simp only[plain]at pe;exact absurd pe (by decide)
   | ty _=>simp only[plain]at pe;exact absurd pe (by decide)
   | dK _ _=>simp only[plain]at pe;exact absurd pe (by decide)
   | dT _ _=>simp only[plain]at pe;exact absurd pe (by decide)
  | bl _=>simp only[plain]at pd;exact absurd pd (by decide)
  | ty _=>simp only[plain]at pd;exact absurd pd (by decide)
  | dK _ _=>simp only[plain]at pd;exact absurd pd (by decide)
  | dT _ _=>simp only[plain]at pd;exact absurd pd (by decide)
  | non=>
   have h':=zbH h;subst h';cases e with
   | non=>rfl
   | int i=>exact nomatch zat g
   | str i=>exact nomatch zaN g
   | tup ds=>obtain⟨_,_,z,_⟩:=zaO g;exact nomatch z
   | lst ds=>obtain⟨_,_,z,_⟩:=zak g;exact nomatch z
   | _=>simp only[plain]at pe;exact absurd pe (by decide)
  | int i=>
   have h':=zat h;subst h';cases e with
   | non=>exact nomatch zbH g
   | int j=>have:=zat g;injection this with this;rw[this]
   | str i=>exact nomatch zaN g
   | tup ds=>obtain⟨_,_,z,_⟩:=zaO g;exact nomatch z
   | lst ds=>obtain⟨_,_,z,_⟩:=zak g;exact nomatch z
   | _=>simp only[plain]at pe;exact absurd pe (by decide)
  | str i=>
   have h':=zaN h;subst h';cases e with
   | non=>exact nomatch zbH g
   | int j=>exact nomatch zat g
   | str j=>have:=zaN g;injection this with this;rw[this]
   | tup ds=>obtain⟨_,_,z,_⟩:=zaO g;exact nomatch z
   | lst ds=>obtain⟨_,_,z,_⟩:=zak g;exact nomatch z
   | _=>simp only[plain]at pe;exact absurd pe (by decide)
theorem zlA {ds es:List PV}{n:Nat}(hn:n=min ds.length es.length):((List.range n).all λj=>decide (ds[j]? = es[j]?))=true↔∀j,j<ds.length->j<es.length->ds[j]? = es[j]?:=by
 rw[List.all_eq_true];constructor
 ·intro h j h1 h2;exact of_decide_eq_true (h j (List.mem_range.mpr (by lia)))
 ·intro h j hj;have:=List.mem_range.mp hj;exact decide_eq_true (h j (by lia) (by lia))
theorem zhi {ds es:List PV}(hl:ds.length=es.length):(∀j,j<ds.length->j<es.length->ds[j]? = es[j]?)↔ds=es:=by
 constructor
 ·intro h;apply List.ext_getElem?;intro j;by_cases hj:j<ds.length
  ·exact h j hj (by lia)
  ·rw[List.getElem?_eq_none (by lia),List.getElem?_eq_none (by lia)]
 ·rintro rfl _ _ _;rfl
theorem zfd (ds es:List PV):((List.range (min ds.length es.length)).all (λj=>decide (ds[j]? = es[j]?))&&ds.length == es.length)=decide (ds=es):=by
 by_cases hlen:ds.length=es.length
 ·have hb':(ds.length == es.length)=true:=by simp;lia
  rw[hb',Bool.and_true];by_cases h:ds=es
  ·rw[(zlA rfl).mpr ((zhi hlen).mpr h),decide_eq_true h]
  ·rw[decide_eq_false h];cases hq:(List.range (min ds.length es.length)).all (λj=>decide (ds[j]? = es[j]?))with
   | false=>rfl
   | true=>exact absurd ((zhi hlen).mp ((zlA rfl).mp hq)) h
 ·have hb':(ds.length == es.length)=false:=by rw[beq_eq_false_iff_ne];exact hlen
  rw[hb',Bool.and_false,decide_eq_false (λz=>hlen (by rw[z]))]
theorem ziB {ds es:List PV}(hlen:ds.length=es.length):((List.range ds.length).all (λj=>decide (ds[j]? = es[j]?)))=decide (ds=es):=by
 have q:=zfd ds es;rw[hlen,Nat.min_self]at q;rw[hlen];simpa using q
theorem zjp {i j:Int}:decide (PV.int i=PV.int j)=(i == j):=by
 rw[Bool.eq_iff_iff];simp
theorem zjq {i j:Str}:decide (PV.str i=PV.str j)=(i == j):=by
 rw[Bool.eq_iff_iff];simp
theorem znv {i j:List PV}:decide (PV.tup i=PV.tup j)=decide (i=j):=by
 rw[Bool.eq_iff_iff];simp
theorem znw {i j:List PV}:decide (PV.lst i=PV.lst j)=decide (i=j):=by
 rw[Bool.eq_iff_iff];simp
theorem zjr {A:Around}{n:Nat}{ds es:List PV}{xs ys:List V}{its its2:List Value}(I:Inv X pins σ H s)(r1:Vals xs its)(r2:Vals ys its2)(h1:DenL X.K Fz H ds xs)(h2:DenL X.K Fz' H es ys)(pd:ds.all (plain n)=true)(pe:es.all (plain n)=true)
  (ih:∀(d e:PV) (x y:V) (u v:Value),plain n d=true->plain n e=true->Den X.K Fz H d x->Den X.K Fz' H e y->RelV x u->RelV y v->SeqAt.EqAt A s u v (decide (d=e))) :
  ∀j (h1:j<its.toArray.size) (h2:j<its2.toArray.size),SeqAt.EqAt A s its.toArray[j] its2.toArray[j] (decide (ds[j]? = es[j]?)):=λj h1' h2'=>by
 have l1:=r1.length;have l2:=r2.length;have l3:=h1.length;have l4:=h2.length;rw[List.size_toArray]at h1' h2';have e1:ds[j]? = some ds[j]:=List.getElem?_eq_getElem (by lia);have e2:es[j]? = some es[j]:=List.getElem?_eq_getElem (by lia);obtain⟨x,e3,q3⟩:=h1.get e1;obtain⟨y,e4,q4⟩:=h2.get e2;obtain⟨u1,q1,r1'⟩:=r1.get e3;obtain⟨u2,q2,r2'⟩:=r2.get e4;have f1:its.toArray[j]=u1:=by
  have:its[j]? = some its[j]:=List.getElem?_eq_getElem h1';rw[q1]at this;simpa using (Option.some.inj this).symm
 have f2:its2.toArray[j]=u2:=by
  have:its2[j]? = some its2[j]:=List.getElem?_eq_getElem h2';rw[q2]at this;simpa using (Option.some.inj this).symm
 rw[f1,f2];have w:decide (ds[j]=es[j])=decide (ds[j]? = es[j]?):=by
  rw[e1,e2];by_cases h:ds[j]=es[j]
  ·rw[decide_eq_true h,decide_eq_true (by rw[h])]
  ·rw[decide_eq_false h,decide_eq_false (λz=>h (Option.some.inj z))]
 rw[<- w];exact ih _ _ _ _ _ _ (List.all_eq_true.mp pd _ (List.getElem_mem _)) (List.all_eq_true.mp pe _ (List.getElem_mem _)) q3 q4 r1' r2'
theorem zpj (I:Inv X pins σ H s):∀(n:Nat)(A:Around)(d e:PV)(x y:V)(u v:Value),plain n d=true->plain n e=true->A.units+n<cLine->Root X.K Fz H d x->Root X.K Fz' H e y->RelV x u->RelV y v->
  SeqAt.RcAt A s u v (decide (d=e))/\SeqAt.RcNeAt A s u v (!decide (d=e))/\SeqAt.EqAt A s u v (decide (d=e)):=by
 intro n;induction n with
 | zero=>
  intro A d e x y u v pd pe hu hx hy rx ry;cases d with
  | non=>
   have hx':=zbH hx;subst hx';cases rx;cases e with
   | non=>
    have hy':=zbH hy;subst hy';cases ry;rw[decide_eq_true rfl];exact⟨SeqAt.RcAt.none_none,SeqAt.RcNeAt.none_none,SeqAt.EqAt.same _⟩
   | int j=>
    have hy':=zat hy;subst hy';obtain⟨t',rfl⟩:=ry;rw[decide_eq_false (λz=>nomatch z)];exact⟨SeqAt.RcAt.none_int _ _,SeqAt.RcNeAt.none_int _ _,SeqAt.EqAt.none_int _ _⟩
   | str j=>
    have hy':=zaN hy;subst hy';obtain⟨t',rfl⟩:=ry;rw[decide_eq_false (λz=>nomatch z)];exact⟨SeqAt.RcAt.none_str _ _,SeqAt.RcNeAt.none_str _ _,SeqAt.EqAt.none_str _ _⟩
   | _=>simp only[plain]at pe;exact absurd pe (by decide)
  | int i=>
   have hx':=zat hx;subst hx';obtain⟨t,rfl⟩:=rx;cases e with
   | non=>
    have hy':=zbH hy;subst hy';cases ry;rw[decide_eq_false (λz=>nomatch z)];exact⟨SeqAt.RcAt.int_none _ _,SeqAt.RcNeAt.int_none _ _,SeqAt.EqAt.int_none _ _⟩
   | int j=>
    have hy':=zat hy;subst hy';obtain⟨t',rfl⟩:=ry;rw[zjp];exact⟨SeqAt.RcAt.int_int _ _ _ _,SeqAt.RcNeAt.int_int _ _ _ _,SeqAt.EqAt.int_int _ _ _ _⟩
   | str j=>
    have hy':=zaN hy;subst hy';obtain⟨t',rfl⟩:=ry;rw[decide_eq_false (λz=>nomatch z)];exact⟨SeqAt.RcAt.int_str _ _ _ _,SeqAt.RcNeAt.int_str _ _ _ _,SeqAt.EqAt.int_str _ _ _ _⟩
   | _=>simp only[plain]at pe;exact absurd pe (by decide)
  | str i=>
   have hx':=zaN hx;subst hx';obtain⟨t,rfl⟩:=rx;cases e with
   | non=>
    have hy':=zbH hy;subst hy';cases ry;rw[decide_eq_false (λz=>nomatch z)];exact⟨SeqAt.RcAt.str_none _ _,SeqAt.RcNeAt.str_none _ _,SeqAt.EqAt.str_none _ _⟩
   | int j=>
    have hy':=zat hy;subst hy';obtain⟨t',rfl⟩:=ry;rw[decide_eq_false (λz=>nomatch z)];exact⟨SeqAt.RcAt.str_int _ _ _ _,SeqAt.RcNeAt.str_int _ _ _ _,SeqAt.EqAt.str_int _ _ _ _⟩
   | str j=>
    have hy':=zaN hy;subst hy';obtain⟨t',rfl⟩:=ry;rw[zjq];exact⟨SeqAt.RcAt.str_str _ _ _ _,SeqAt.RcNeAt.str_str _ _ _ _,SeqAt.EqAt.str_str _ _ _ _⟩
   | _=>simp only[plain]at pe;exact absurd pe (by decide)
  | _=>simp only[plain]at pd;exact absurd pd (by decide)
 | succ n ih=>
  intro A d e x y u v pd pe hu hx hy rx ry;have hA:A.units<cLine:=by lia
  have iha:∀(d e:PV) (x y:V) (u v:Value),plain n d=true->plain n e=true->Den X.K Fz H d x->Den X.K Fz' H e y->RelV x u->RelV y v->SeqAt.EqAt A.in1 s u v (decide (d=e)):=
   λd e x y u v pd pe h1 h2 r1 r2=>(ih A.in1 d e x y u v pd pe (by show A.units+1+n<cLine;lia) h1.root h2.root r1 r2).2.2
  have lower:∀c:PV,(∀ds,c≠.tup ds)->(∀ds,c≠.lst ds)->plain (n+1) c=true->plain n c=true:=λc h1 h2 hc=>by
   cases c with
   | tup ds=>exact absurd rfl (h1 ds)
   | lst ds=>exact absurd rfl (h2 ds)
   | non=>cases n<;>rfl
   | int i=>cases n<;>rfl
   | str i=>cases n<;>rfl
   | bl _=>simp only[plain]at hc;exact absurd hc (by decide)
   | ty _=>simp only[plain]at hc;exact absurd hc (by decide)
   | dK _ _=>simp only[plain]at hc;exact absurd hc (by decide)
   | dT _ _=>simp only[plain]at hc;exact absurd hc (by decide)
  have low:=λ(pd:plain n d=true) (pe:plain n e=true)=>ih A d e x y u v pd pe (by lia) hx hy rx ry;cases d with
  | tup ds=>
   have hx':=hx;simp only[Root,Den]at hx;obtain⟨a,xs,rfl,ha,h1⟩:=hx;cases rx;obtain⟨its,r1,p1,z1⟩:=I.tuple (SqT.of ha);have p1':s.heap.IsTuple a its.toArray:=p1;cases e with
   | tup es=>
    have hy':=hy;simp only[Root,Den]at hy;obtain⟨b,ys,rfl,hb,h2⟩:=hy;cases ry;obtain⟨its2,r2,p2,z2⟩:=I.tuple (SqT.of hb);have p2':s.heap.IsTuple b its2.toArray:=p2;have he:=zjr I r1 r2 h1 h2 (by simpa only[plain]using pd) (by simpa only[plain]using pe) iha;have w:((List.range (min its.toArray.size its2.toArray.size)).all (λj=>decide (ds[j]? = es[j]?))&&its.toArray.size == its2.toArray.size)=decide (PV.tup ds=PV.tup es):=by
     rw[List.size_toArray,List.size_toArray,<- r1.length,<- r2.length,<- h1.length,<- h2.length,zfd,znv]
    have q:=SeqAt.RcAt.tuples p1' p2' hA he;have q':=SeqAt.RcNeAt.tuples p1' p2' hA he;rw[w]at q q';refine⟨q,q',?_⟩;by_cases hab:a=b
    ·subst hab;rw[zgh I (n+1) _ _ _ pd pe hx' hy',decide_eq_true rfl];exact SeqAt.EqAt.same _
    ·exact SeqAt.EqAt.of_refs hab q
   | lst es=>
    obtain⟨b,ys,rfl,hb,h2⟩:=zak hy;cases ry;obtain⟨its2,r2,p2,z2⟩:=I.list hb;exact⟨df (λz=>nomatch z) (SeqAt.RcAt.tuple_list p1' p2.isList hA),dn (λz=>nomatch z) (SeqAt.RcNeAt.tuple_list p1' p2.isList hA),df (λz=>nomatch z) (SeqAt.EqAt.tuple_list p1' p2.isList hA)⟩
   | non=>simp only[Root,Den]at hy;subst hy;cases ry;exact⟨df (λz=>nomatch z) (SeqAt.RcAt.tuple_none p1' hA),dn (λz=>nomatch z) (SeqAt.RcNeAt.tuple_none p1' hA),df (λz=>nomatch z) (SeqAt.EqAt.tuple_none p1' hA)⟩
   | int i=>simp only[Root,Den]at hy;subst hy;obtain⟨t,rfl⟩:=ry;exact⟨df (λz=>nomatch z) (SeqAt.RcAt.tuple_int i t p1' hA),dn (λz=>nomatch z) (SeqAt.RcNeAt.tuple_int i t p1' hA),df (λz=>nomatch z) (SeqAt.EqAt.tuple_int i t p1' hA)⟩
   | str i=>simp only[Root,Den]at hy;subst hy;obtain⟨t,rfl⟩:=ry;exact⟨df (λz=>nomatch z) (SeqAt.RcAt.tuple_str i t p1' hA),dn (λz=>nomatch z) (SeqAt.RcNeAt.tuple_str i t p1' hA),df (λz=>nomatch z) (SeqAt.EqAt.tuple_str i t p1' hA)⟩
   | bl _=>simp only[plain]at pe;exact absurd pe (by decide)
   | ty _=>simp only[plain]at pe;exact absurd pe (by decide)
   | dK _ _=>simp only[plain]at pe;exact absurd pe (by decide)
   | dT _ _=>simp only[plain]at pe;exact absurd pe (by decide)
  | lst ds=>
   have hx':=hx;obtain⟨a,xs,rfl,ha,h1⟩:=zak hx;cases rx;obtain⟨its,r1,p1,z1⟩:=I.list ha;have p1':=p1.isList;cases e with
   | lst es=>
    have hy':=hy;obtain⟨b,ys,rfl,hb,h2⟩:=zak hy;cases ry;obtain⟨its2,r2,p2,z2⟩:=I.list hb;have he:=zjr I r1 r2 h1 h2 (by simpa only[plain]using pd) (by simpa only[plain]using pe) iha;have l1:=r1.length;have l2:=r2.length;have l3:=h1.length;have l4:=h2.length;have key:SeqAt.RcAt A s (.ref a) (.ref b) (decide (PV.lst ds=PV.lst es))/\SeqAt.RcNeAt A s (.ref a) (.ref b) (!decide (PV.lst ds=PV.lst es)):=by
     by_cases hlen:ds.length=es.length
     ·have w:(List.range its.toArray.size).all (λj=>decide (ds[j]? = es[j]?))=decide (PV.lst ds=PV.lst es):=by
       rw[List.size_toArray,<- l1,<- l3,ziB hlen,znw]
      have q:=SeqAt.RcAt.lists p1' p2.isList (by rw[List.size_toArray,List.size_toArray];lia) hA he;have q':=SeqAt.RcNeAt.lists p1' p2.isList (by rw[List.size_toArray,List.size_toArray];lia) hA he;rw[w]at q q';exact⟨q,q'⟩
     ·have hne:(its.toArray.size != its2.toArray.size)=true:=by rw[List.size_toArray,List.size_toArray];simp;lia
      rw[decide_eq_false (λz=>hlen (by rw[PV.lst.inj z]))];exact⟨SeqAt.RcAt.lists_lengths p1' p2.isList hne hA,SeqAt.RcNeAt.lists_lengths p1' p2.isList hne hA⟩
    refine⟨key.1,key.2,?_⟩;by_cases hab:a=b
    ·subst hab;rw[zgh I (n+1) _ _ _ pd pe hx' hy',decide_eq_true rfl];exact SeqAt.EqAt.same _
    ·exact SeqAt.EqAt.of_refs hab key.1
   | tup es=>
    simp only[Root,Den]at hy;obtain⟨b,ys,rfl,hb,h2⟩:=hy;cases ry;obtain⟨its2,r2,p2,z2⟩:=I.tuple (SqT.of hb);have p2':s.heap.IsTuple b its2.toArray:=p2;exact⟨df (λz=>nomatch z) (SeqAt.RcAt.list_tuple p1' p2' hA),dn (λz=>nomatch z) (SeqAt.RcNeAt.list_tuple p1' p2' hA),df (λz=>nomatch z) (SeqAt.EqAt.list_tuple p1' p2' hA)⟩
   | non=>simp only[Root,Den]at hy;subst hy;cases ry;exact⟨df (λz=>nomatch z) (SeqAt.RcAt.list_none p1' hA),dn (λz=>nomatch z) (SeqAt.RcNeAt.list_none p1' hA),df (λz=>nomatch z) (SeqAt.EqAt.list_none p1' hA)⟩
   | int i=>simp only[Root,Den]at hy;subst hy;obtain⟨t,rfl⟩:=ry;exact⟨df (λz=>nomatch z) (SeqAt.RcAt.list_int i t p1' hA),dn (λz=>nomatch z) (SeqAt.RcNeAt.list_int i t p1' hA),df (λz=>nomatch z) (SeqAt.EqAt.list_int i t p1' hA)⟩
   | str i=>simp only[Root,Den]at hy;subst hy;obtain⟨t,rfl⟩:=ry;exact⟨df (λz=>nomatch z) (SeqAt.RcAt.list_str i t p1' hA),dn (λz=>nomatch z) (SeqAt.RcNeAt.list_str i t p1' hA),df (λz=>nomatch z) (SeqAt.EqAt.list_str i t p1' hA)⟩
   | bl _=>simp only[plain]at pe;exact absurd pe (by decide)
   | ty _=>simp only[plain]at pe;exact absurd pe (by decide)
   | dK _ _=>simp only[plain]at pe;exact absurd pe (by decide)
   | dT _ _=>simp only[plain]at pe;exact absurd pe (by decide)
  | bl _=>simp only[plain]at pd;exact absurd pd (by decide)
  | ty _=>simp only[plain]at pd;exact absurd pd (by decide)
  | dK _ _=>simp only[plain]at pd;exact absurd pd (by decide)
  | dT _ _=>simp only[plain]at pd;exact absurd pd (by decide)
  | non=>
   cases e with
   | tup es=>
    simp only[Root,Den]at hx hy;subst hx;cases rx;obtain⟨b,ys,rfl,hb,h2⟩:=hy;cases ry;obtain⟨its2,r2,p2,z2⟩:=I.tuple (SqT.of hb);have p2':s.heap.IsTuple b its2.toArray:=p2;exact⟨df (λz=>nomatch z) (SeqAt.RcAt.none_tuple p2' hA),dn (λz=>nomatch z) (SeqAt.RcNeAt.none_tuple p2' hA),df (λz=>nomatch z) (SeqAt.EqAt.none_tuple p2' hA)⟩
   | lst es=>
    simp only[Root,Den]at hx;subst hx;cases rx;obtain⟨b,ys,rfl,hb,h2⟩:=zak hy;cases ry;obtain⟨its2,r2,p2,z2⟩:=I.list hb;exact⟨df (λz=>nomatch z) (SeqAt.RcAt.none_list p2.isList hA),dn (λz=>nomatch z) (SeqAt.RcNeAt.none_list p2.isList hA),df (λz=>nomatch z) (SeqAt.EqAt.none_list p2.isList hA)⟩
   | _=>exact low (lower _ (λ_ z=>nomatch z) (λ_ z=>nomatch z) pd) (lower _ (λ_ z=>nomatch z) (λ_ z=>nomatch z) pe)
  | int i=>
   cases e with
   | tup es=>
    simp only[Root,Den]at hx hy;subst hx;obtain⟨t,rfl⟩:=rx;obtain⟨b,ys,rfl,hb,h2⟩:=hy;cases ry;obtain⟨its2,r2,p2,z2⟩:=I.tuple (SqT.of hb);have p2':s.heap.IsTuple b its2.toArray:=p2;exact⟨df (λz=>nomatch z) (SeqAt.RcAt.int_tuple i t p2' hA),dn (λz=>nomatch z) (SeqAt.RcNeAt.int_tuple i t p2' hA),df (λz=>nomatch z) (SeqAt.EqAt.int_tuple i t p2' hA)⟩
   | lst es=>
    simp only[Root,Den]at hx;subst hx;obtain⟨t,rfl⟩:=rx;obtain⟨b,ys,rfl,hb,h2⟩:=zak hy;cases ry;obtain⟨its2,r2,p2,z2⟩:=I.list hb;exact⟨df (λz=>nomatch z) (SeqAt.RcAt.int_list i t p2.isList hA),dn (λz=>nomatch z) (SeqAt.RcNeAt.int_list i t p2.isList hA),df (λz=>nomatch z) (SeqAt.EqAt.int_list i t p2.isList hA)⟩
   | _=>exact low (lower _ (λ_ z=>nomatch z) (λ_ z=>nomatch z) pd) (lower _ (λ_ z=>nomatch z) (λ_ z=>nomatch z) pe)
  | str i=>
   cases e with
   | tup es=>
    simp only[Root,Den]at hx hy;subst hx;obtain⟨t,rfl⟩:=rx;obtain⟨b,ys,rfl,hb,h2⟩:=hy;cases ry;obtain⟨its2,r2,p2,z2⟩:=I.tuple (SqT.of hb);have p2':s.heap.IsTuple b its2.toArray:=p2;exact⟨df (λz=>nomatch z) (SeqAt.RcAt.str_tuple i t p2' hA),dn (λz=>nomatch z) (SeqAt.RcNeAt.str_tuple i t p2' hA),df (λz=>nomatch z) (SeqAt.EqAt.str_tuple i t p2' hA)⟩
   | lst es=>
    simp only[Root,Den]at hx;subst hx;obtain⟨t,rfl⟩:=rx;obtain⟨b,ys,rfl,hb,h2⟩:=zak hy;cases ry;obtain⟨its2,r2,p2,z2⟩:=I.list hb;exact⟨df (λz=>nomatch z) (SeqAt.RcAt.str_list i t p2.isList hA),dn (λz=>nomatch z) (SeqAt.RcNeAt.str_list i t p2.isList hA),df (λz=>nomatch z) (SeqAt.EqAt.str_list i t p2.isList hA)⟩
   | _=>exact low (lower _ (λ_ z=>nomatch z) (λ_ z=>nomatch z) pd) (lower _ (λ_ z=>nomatch z) (λ_ z=>nomatch z) pe)
end
noncomputable def rEqP (K:PySem.W.Frag)(neg:Bool):R2:=λx y H Q=>∃Fz d e,Root K Fz H d x/\Root K Fz H e y/\plain 6 d=true/\plain 6 e=true/\Q (.bl (if neg then !decide (d=e) else decide (d=e))) H
noncomputable def pEq (neg:Bool):P2:=λd e Q=>plain 6 d=true/\plain 6 e=true/\Q (.bl (if neg then !decide (d=e) else decide (d=e))) .frz
section
variable {X:Cx}
theorem zox (hu:X.A.units+16<cLine):OpR X (compareOp .Eq) (rEqP X.K false):=by
 intro pins s σ H x y v u Q I rx ry h;obtain⟨Fz,d,e,hx,hy,pd,pe,q⟩:=h;exact(zpj I 6 X.A d e x y v u pd pe (by lia) hx hy rx ry).1 X.prog X.w X.xe _ ⟨.bl _,H,I,rfl,q⟩
theorem zrl (hu:X.A.units+16<cLine):OpR X (compareOp .NotEq) (rEqP X.K true):=by
 intro pins s σ H x y v u Q I rx ry h;obtain⟨Fz,d,e,hx,hy,pd,pe,q⟩:=h;exact(zpj I 6 X.A d e x y v u pd pe (by lia) hx hy rx ry).2.1 X.prog X.w X.xe _ ⟨.bl _,H,I,rfl,q⟩
theorem zlB {K:PySem.W.Frag}{neg:Bool}:POp K (rEqP K neg) (pEq neg) where
 mono d e Q Q' m h:=⟨h.1,h.2.1,m _ _ h.2.2⟩
 run Fz H x y d e Q al rx ry h:=⟨Fz,d,e,rx,ry,h.1,h.2.1,h.2.2 _ Fz H (.val al (by simp only[Den]))⟩
end
section
variable {X:Cx}{a b c:Expr}{ta tb:TPE}{tA tB':TPT}{pos:Pos}{rest:List Expr}
structure PuW (X:Cx)(e:Expr)(t:TPT):Prop where
 mono:∀ρ Q Q',(∀b,Q b->Q' b)->t ρ Q->t ρ Q'
 run:PW X e (liftT X.K t)
theorem PuW.t {e:Expr}{t:TPT}(h:PuW X e t):PuT X e t:=⟨h.mono,h.run.pt⟩
noncomputable def zcZ (t u:TPT):TPT:=λρ Q=>t ρ λc=>if c=true then u ρ Q else Q false
noncomputable def tOrP (t u:TPT):TPT:=λρ Q=>t ρ λc=>if c=true then Q true else u ρ Q
noncomputable def zds (t:TPT):TPT:=λρ Q=>t ρ λc=>Q (!c)
theorem PW.weak {e:Expr}{t t':TT}(h:PW X e t)(w:∀σ H Q,t' σ H Q->t σ H Q):PW X e t':=λwhole pins s σ H Q I q=>h whole pins s σ H Q I (w σ H Q q)
theorem znx (ha:PuT X a tA):PuW X (.BoolOp .And [a] pos) tA:=⟨ha.mono,zoM ha.run⟩
theorem ziC (ha:PuT X a tA):PuW X (.BoolOp .Or [a] pos) tA:=⟨ha.mono,zqr ha.run⟩
theorem and_mono (m1:∀ρ (Q Q':Bool->Prop),(∀b,Q b->Q' b)->tA ρ Q->tA ρ Q')(m2:∀ρ (Q Q':Bool->Prop),(∀b,Q b->Q' b)->tB' ρ Q->tB' ρ Q') :
  ∀ρ (Q Q':Bool->Prop),(∀b,Q b->Q' b)->zcZ tA tB' ρ Q->zcZ tA tB' ρ Q':=λρ Q Q' m h=>m1 ρ _ _ (λc q=>by
 cases c with
 | true=>rw[if_pos rfl]at q ⊢;exact m2 ρ _ _ m q
 | false=>rw[if_neg Bool.false_ne_true]at q ⊢;exact m _ q) h
theorem or_mono (m1:∀ρ (Q Q':Bool->Prop),(∀b,Q b->Q' b)->tA ρ Q->tA ρ Q')(m2:∀ρ (Q Q':Bool->Prop),(∀b,Q b->Q' b)->tB' ρ Q->tB' ρ Q') :
  ∀ρ (Q Q':Bool->Prop),(∀b,Q b->Q' b)->tOrP tA tB' ρ Q->tOrP tA tB' ρ Q':=λρ Q Q' m h=>m1 ρ _ _ (λc q=>by
 cases c with
 | false=>rw[if_neg Bool.false_ne_true]at q ⊢;exact m2 ρ _ _ m q
 | true=>rw[if_pos rfl]at q ⊢;exact m _ q) h
theorem zpk (ha:PuT X a tA)(hb:PuW X (.BoolOp .And (b::rest) pos) tB'):PuW X (.BoolOp .And (a::b::rest) pos) (zcZ tA tB') where
 mono:=and_mono ha.mono hb.mono
 run:=PW.weak (zqs ha.run hb.run) λσ H Q h=>by
  obtain⟨ρ,Fz,R,h⟩:=h;refine⟨ρ,Fz,R,ha.mono ρ _ _ (λc q Fz' H' x=>?_) h⟩;cases c with
  | true=>
   rw[if_pos rfl]at q ⊢;exact⟨ρ,Fz',R.ext x,hb.mono ρ _ _ (λb q Fz2 H2 x2=>q Fz2 H2 (x.trans x2)) q⟩
  | false=>rw[if_neg Bool.false_ne_true]at q ⊢;exact q Fz' H' x
theorem zlC (ha:PuT X a tA)(hb:PuW X (.BoolOp .Or (b::rest) pos) tB'):PuW X (.BoolOp .Or (a::b::rest) pos) (tOrP tA tB') where
 mono:=or_mono ha.mono hb.mono
 run:=PW.weak (zsy ha.run hb.run) λσ H Q h=>by
  obtain⟨ρ,Fz,R,h⟩:=h;refine⟨ρ,Fz,R,ha.mono ρ _ _ (λc q Fz' H' x=>?_) h⟩;cases c with
  | false=>
   rw[if_neg Bool.false_ne_true]at q ⊢;exact⟨ρ,Fz',R.ext x,hb.mono ρ _ _ (λb q Fz2 H2 x2=>q Fz2 H2 (x.trans x2)) q⟩
  | true=>rw[if_pos rfl]at q ⊢;exact q Fz' H' x
theorem zgi (ha:PuT X a tA):PuT X (.UnaryOp .Not a pos) (zds tA) where
 mono ρ Q Q' m h:=ha.mono ρ _ _ (λc q=>m _ q) h
 run:=PT.weak (zqt ha.run) λσ H Q h=>h
noncomputable def TruP:PV->Bool->Prop
 | .non,k=>k=false
 | .bl b,k=>k=b
 | .int i,k=>k=(i != 0)
 | .str y,k=>y.length<=sizeLine/\k=((y.length:Int) != 0)
 | .tup ds,k=>k = !ds.isEmpty
 | .lst ds,k=>k = !ds.isEmpty
 | _,_=>False
noncomputable def tTru (te:TPE):TPT:=λρ Q=>te ρ λd _=>∃k,TruP d k/\Q k
theorem TruP.v {K:PySem.W.Frag}{Fz:FZ}{H:Hp}{d:PV}{x:V}{k:Bool}(r:Root K Fz H d x)(t:TruP d k):TruV K x H k:=by
 cases d with
 | non=>cases zbH r;exact t
 | bl b=>cases zgg r;exact t
 | int i=>cases zat r;exact t
 | str y=>cases zaN r;exact t
 | tup ds=>
  obtain⟨a,xs,rfl,h1,h2⟩:=zaO r;refine .inr (.inl ⟨xs,h1,?_⟩);have hl:=h2.length;have t':k = !ds.isEmpty:=t;rw[t'];cases ds<;>cases xs<;>simp_all
 | lst ds=>
  obtain⟨a,xs,rfl,h1,h2⟩:=zak r;refine .inl ⟨xs,h1,?_⟩;have hl:=h2.length;have t':k = !ds.isEmpty:=t;rw[t'];cases ds<;>cases xs<;>simp_all
 | ty _=>exact t.elim
 | dK _ _=>exact t.elim
 | dT _ _=>exact t.elim
theorem zdW (ha:PuE X a ta)(he:∀whole,isTrue a X.env whole=(do let v <- whole;standAt a.pos;holding [v] (truthy v)):=by intro _;rfl):PuT X a (tTru ta) where
 mono ρ Q Q' m h:=ha.mono ρ _ _ (λd k ⟨b,e,q⟩=>⟨b,e,m b q⟩) h
 run:=PT.weak (znd ha.run he) λσ H Q h=>by
  obtain⟨ρ,Fz,R,h⟩:=h;exact⟨ρ,Fz,R,ha.mono ρ _ _ (λd k ⟨b,e,q⟩ v Fz' H' p=>⟨b,TruP.v (p.root R) e,q Fz' H' p.ext⟩) h⟩
noncomputable def zdX (ta:TPE):TPE:=λρ Q=>ta ρ λd _=>∃c,d=.bl c/\Q (.bl (!c)) .frz
noncomputable def zdY (ta tb:TPE):TPE:=λρ Q=>ta ρ λd _=>∃c,d=.bl c/\if c=true then tb ρ Q else Q (.bl false) .frz
theorem zrm (ha:PuE X a ta):PuE X (.UnaryOp .Not a pos) (zdX ta) where
 mono ρ Q Q' m h:=ha.mono ρ _ _ (λd k ⟨c,e,q⟩=>⟨c,e,m _ _ q⟩) h
 run:=PE.weak (zqw ha.run) λσ H Q h=>by
  obtain⟨ρ,Fz,R,h⟩:=h;refine⟨ρ,Fz,R,ha.mono ρ _ _ (λd k ⟨c,e,q⟩ v Fz' H' p=>⟨c,?_,q _ Fz' H' ⟨p.ext,by show Den _ _ _ _ _;simp only[Den]⟩⟩) h⟩;subst e;exact zgg (p.root R)
theorem zrn {op}{t:TPE}(h:PuE X a t):PuE X (.BoolOp op [a] pos) t:=⟨h.mono,zqu h.run⟩
theorem zro (ha:PuE X a ta)(hb:PuE X (.BoolOp .And (b::rest) pos) tb):PuE X (.BoolOp .And (a::b::rest) pos) (zdY ta tb) where
 mono ρ Q Q' m h:=ha.mono ρ _ _ (λd k ⟨c,e,q⟩=>⟨c,e,by
  cases c with
  | true=>rw[if_pos rfl]at q ⊢;exact hb.mono ρ _ _ m q
  | false=>rw[if_neg Bool.false_ne_true]at q ⊢;exact m _ _ q⟩) h
 run:=PE.weak (zqv ha.run hb.run) λσ H Q h=>by
  obtain⟨ρ,Fz,R,h⟩:=h;refine⟨ρ,Fz,R,ha.mono ρ _ _ (λd k ⟨c,e,q⟩ v Fz' H' p=>⟨c,?_,?_⟩) h⟩
  ·subst e;exact zgg (p.root R)
  ·cases c with
   | true=>
    rw[if_pos rfl]at q ⊢;exact⟨ρ,Fz',R.ext p.ext,hb.mono ρ _ _ (λd k q v Fz2 H2 p2=>q v Fz2 H2 (p2.then p.ext)) q⟩
   | false=>rw[if_neg Bool.false_ne_true]at q ⊢;exact q _ Fz' H' ⟨p.ext,by show Den _ _ _ _ _;simp only[Den]⟩
noncomputable def tIfE (t:TPT)(ta tb:TPE):TPE:=λρ Q=>t ρ λc=>if c=true then ta ρ Q else tb ρ Q
theorem zny (hc:PuT X c tA)(ha:PuE X a ta)(hb:PuE X b tb):PuE X (.IfExp c a b pos) (tIfE tA ta tb) where
 mono ρ Q Q' m h:=hc.mono ρ _ _ (λd q=>by
  cases d with
  | true=>rw[if_pos rfl]at q ⊢;exact ha.mono ρ _ _ m q
  | false=>rw[if_neg Bool.false_ne_true]at q ⊢;exact hb.mono ρ _ _ m q) h
 run:=PE.weak (zmY hc.run ha.run hb.run) λσ H Q h=>by
  obtain⟨ρ,Fz,R,h⟩:=h;refine⟨ρ,Fz,R,hc.mono ρ _ _ (λc q Fz' H' x=>?_) h⟩;cases c with
  | true=>
   rw[if_pos rfl]at q ⊢;exact⟨ρ,Fz',R.ext x,ha.mono ρ _ _ (λd k q v Fz2 H2 p2=>q v Fz2 H2 (p2.then x)) q⟩
  | false=>
   rw[if_neg Bool.false_ne_true]at q ⊢;exact⟨ρ,Fz',R.ext x,hb.mono ρ _ _ (λd k q v Fz2 H2 p2=>q v Fz2 H2 (p2.then x)) q⟩
end
noncomputable abbrev OpdL (K:PySem.W.Frag)(Fz':FZ)(H':Hp)(ρ:PEnv)(σ:St)(H:Hp):List (PV×Kd)->List V->Prop:=Paired λp v=>Opd K Fz' H' ρ σ H p.1 p.2 v
noncomputable def zpl (K:PySem.W.Frag)(t:TPA):TA:=λσ H Q=>∃ρ Fz,Rel K Fz ρ σ H/\t ρ λops=>∀vs Fz' H',Ext Fz H Fz' H'->OpdL K Fz' H' ρ σ H ops vs->Q vs H'
structure PuA (X:Cx)(es:List Expr)(t:TPA):Prop where
 mono:∀ρ Q Q',(∀ops,Q ops->Q' ops)->t ρ Q->t ρ Q'
 run:PA X es (zpl X.K t)
theorem PA.weak {X:Cx}{es:List Expr}{t t':TA}(h:PA X es t)(w:∀σ H Q,t' σ H Q->t σ H Q):PA X es t':=λpos pins s σ H Q I q=>h pos pins s σ H Q I (w σ H Q q)
noncomputable def pNil:TPA:=λ_ Q=>Q []
noncomputable def zbm (te:TPE)(t:TPA):TPA:=λρ Q=>te ρ λd k=>t ρ λops=>Q ((d,k)::ops)
theorem OpdL.back {K:PySem.W.Frag}{ρ:PEnv}{σ:St}{Fz2:FZ}{H H1 H2:Hp}(s:Same H H1):∀ {ops:List (PV×Kd)}{vs:List V},OpdL K Fz2 H2 ρ σ H1 ops vs->OpdL K Fz2 H2 ρ σ H ops vs
 | _,_,.nil=>.nil
 | _,_,.cons h t=>.cons (Opd.back s h) (OpdL.back s t)
section
variable {X:Cx}{e:Expr}{es:List Expr}{te:TPE}{t:TPA}{pos:Pos}
theorem zad:PuA X [] pNil where
 mono ρ Q Q' m h:=m _ h
 run:=PA.weak zce λσ H Q h=>by
  obtain⟨ρ,Fz,R,h⟩:=h;exact h [] Fz H ⟨Same.refl H,λ_ h=>h,λ_ h=>.inl h,R.al⟩ .nil
theorem zaa (ha:PuE X e te)(hr:PuA X es t)(hs:starEach (e::es) X.env=(false,eval e X.env)::starEach es X.env:=by rfl):PuA X (e::es) (zbm te t) where
 mono ρ Q Q' m h:=ha.mono ρ _ _ (λd k h=>hr.mono ρ _ _ (λops h=>m _ h) h) h
 run:=PA.weak (zbA ha.run hr.run hs) λσ H Q h=>by
  obtain⟨ρ,Fz,R,h⟩:=h;refine⟨ρ,Fz,R,ha.mono ρ _ _ (λd k h v Fz1 H1 p=>?_) h⟩;refine⟨ρ,Fz1,R.ext p.ext,hr.mono ρ _ _ (λops h vs Fz2 H2 x o=>?_) h⟩;exact h (v::vs) Fz2 H2 (p.ext.trans x) (.cons (Opd.ext x p.opd) (OpdL.back p.ext.same o))
end
noncomputable def znz (K:PySem.W.Frag)(Fz:FZ)(H:Hp):List PV->List V->Prop:=Paired (Root K Fz H)
theorem OpdL.root {K:PySem.W.Frag}{ρ:PEnv}{σ:St}{Fz Fz':FZ}{H H':Hp}(R:Rel K Fz ρ σ H)(x:Ext Fz H Fz' H'):∀ {ops:List (PV×Kd)}{vs:List V},OpdL K Fz' H' ρ σ H ops vs->znz K Fz' H' (ops.map (·.1)) vs
 | _,_,.nil=>.nil
 | _,_,.cons h t=>.cons (Post.root R ⟨x,h⟩) (OpdL.root R x t)
noncomputable def noOwn:List (PV×Kd)->Bool
 | []=>true
 | (_,.own _)::_=>false
 | _::r=>noOwn r
theorem OpdL.frozen {K:PySem.W.Frag}{ρ:PEnv}{σ:St}{Fz Fz':FZ}{H H':Hp}(x:Ext Fz H Fz' H'):∀ {ops:List (PV×Kd)}{vs:List V},noOwn ops=true->OpdL K Fz' H' ρ σ H ops vs->
  ∃Fz2,Ext Fz H Fz2 H'/\(∀b,Fz' b->Fz2 b)/\DenL K Fz2 H' (ops.map (·.1)) vs
 | _,_,_,.nil=>⟨Fz',x,λ_ h=>h,DenL.nil⟩
 | (d,k)::ops,v::vs,hn,.cons h t=>by
  cases k with
  | own i=>exact absurd hn Bool.false_ne_true
  | frz=>
   obtain⟨F2,x2,s2,h2⟩:=OpdL.frozen x (ops:=ops) hn t;exact⟨F2,x2,s2,DenL.cons (Den.mono (Keep.of (Same.refl _)) s2 _ _ h) h2⟩
  | new=>
   obtain⟨F2,x2,s2,h2⟩:=OpdL.frozen x (ops:=ops) hn t;obtain⟨a,e,hn',_,o⟩:=h;subst e;refine⟨λb=>F2 b\/b=a,x2.add hn' (by obtain⟨o',e,_⟩:=o.at;rw[e];exact λz=>nomatch z),λb h=>.inl (s2 b h),DenL.cons ?_ (DenL.mono (Keep.of (Same.refl _)) (λb h=>.inl h) _ _ h2)⟩;exact(o.mono (Fz':=λb=>F2 b\/b=a) (Keep.of (Same.refl _)) (λb h=>.inl (s2 b h)) (λ_ h=>h)).den (.inr rfl)
noncomputable def pTup (t:TPA):TPE:=λρ Q=>t ρ λops=>noOwn ops=true/\ops.length<=sizeLine/\Q (.tup (ops.map (·.1))) .frz
noncomputable def pLst (t:TPA):TPE:=λρ Q=>t ρ λops=>noOwn ops=true/\ops.length<=sizeLine/\Q (.lst (ops.map (·.1))) .new
section
variable {X:Cx}{es:List Expr}{t:TPA}{pos:Pos}
theorem zhj {x1}(h:PuA X es t):PuE X (.Tuple es x1 pos) (pTup t) where
 mono ρ Q Q' m q:=h.mono ρ _ _ (λops q=>⟨q.1,q.2.1,m _ _ q.2.2⟩) q
 run:=PE.weak (zqJ h.run) λσ H Q q=>by
  obtain⟨ρ,Fz,R,q⟩:=q;refine⟨ρ,Fz,R,h.mono ρ _ _ (λops q vs Fz' H' x o=>?_) q⟩;obtain⟨hn,hl,q⟩:=q;obtain⟨F2,x2,s2,h2⟩:=o.frozen x hn;have len:=h2.length;rw[List.length_map]at len;refine⟨by lia,λp hp=>q _ F2 _ ⟨x2.laid hp,?_⟩⟩;show Den _ _ _ _ _;simp only[Den];refine⟨p,vs,rfl,zag,DenL.mono (Keep.of (λb u e=>by rw[zaf (zau e hp)];exact e)) (λ_ h=>h) _ _ h2⟩
theorem zbE (h:PuA X es t):PuE X (.List es pos) (pLst t) where
 mono ρ Q Q' m q:=h.mono ρ _ _ (λops q=>⟨q.1,q.2.1,m _ _ q.2.2⟩) q
 run:=PE.weak (zos h.run) λσ H Q q=>by
  obtain⟨ρ,Fz,R,q⟩:=q;refine⟨ρ,Fz,R,h.mono ρ _ _ (λops q vs Fz' H' x o=>?_) q⟩;obtain⟨hn,hl,q⟩:=q;obtain⟨F2,x2,s2,h2⟩:=o.frozen x hn;have len:=h2.length;rw[List.length_map]at len;refine⟨by lia,λp hp=>q _ F2 _ ⟨x2.laid hp,p,rfl,x.same.free hp,λz=>x2.al p z hp,vs,zag,?_⟩⟩;exact DenL.mono (Keep.of (λb u e=>by rw[zaf (zau e hp)];exact e)) (λ_ h=>h) _ _ h2
end
mutual
noncomputable def zbO:PV->Bool
 | .tup ds=>zaT ds
 | .lst _=>false
 | .dK _ _=>false
 | .dT _ _=>false
 | _=>true
noncomputable def zaT:List PV->Bool
 | []=>true
 | d::ds=>zbO d&&zaT ds
end
section
variable {K:PySem.W.Frag}{Fz Fz':FZ}{H:Hp}
mutual
theorem zfe:∀(d:PV)(v:V),zbO d=true->Den K Fz H d v->Den K Fz' H d v
 | .non,v,_,h=>by simpa only[Den]using h
 | .bl b,v,_,h=>by simpa only[Den]using h
 | .int i,v,_,h=>by simpa only[Den]using h
 | .str x,v,_,h=>by simpa only[Den]using h
 | .ty n,v,_,h=>by simpa only[Den]using h
 | .tup ds,v,n,h=>by
  simp only[zbO]at n;simp only[Den]at h ⊢;obtain⟨a,xs,e,h1,h2⟩:=h;exact⟨a,xs,e,h1,zch ds xs n h2⟩
 | .lst ds,v,n,h=>by simp only[zbO]at n;exact absurd n (by decide)
 | .dK ks ds,v,n,h=>by simp only[zbO]at n;exact absurd n (by decide)
 | .dT ks ds,v,n,h=>by simp only[zbO]at n;exact absurd n (by decide)
theorem zch:∀(ds:List PV)(xs:List V),zaT ds=true->DenL K Fz H ds xs->DenL K Fz' H ds xs
 | [],xs,_,h=>by simpa only[DenL]using h
 | d::ds,xs,n,h=>by
  simp only[zaT,Bool.and_eq_true]at n;simp only[DenL]at h ⊢;obtain⟨v,r,e,h1,h2⟩:=h;exact⟨v,r,e,zfe d v n.1 h1,zch ds r n.2 h2⟩
end
end
noncomputable def zbP:PV->Kd->Bool
 | .lst ds,.new=>zaT ds
 | .dK _ ds,.new=>zaT ds
 | .dT _ ds,.new=>zaT ds
 | d,_=>zbO d
theorem zkB {K:PySem.W.Frag}{Fz Fz':FZ}{H H':Hp}{d:PV}{k:Kd}{v:V}(n:zbP d k=true)(hal:∀b,Fz' b->H b≠none)(h:Opd K Fz H' [] [] H d k v):Opd K Fz' H' [] [] H d k v:=by
 cases k with
 | frz=>
  have n':zbO d=true:=by cases d<;>exact n
  exact zfe d v n' h
 | own i=>exact h
 | new=>
  obtain⟨a,e,hn,_,o⟩:=h;refine⟨a,e,hn,λz=>hal a z hn,?_⟩;cases d with
  | lst ds=>obtain⟨xs,h1,h2⟩:=o;exact⟨xs,h1,zch ds xs n h2⟩
  | dK ks ds=>obtain⟨xs,h1,h2,h3⟩:=o;exact⟨xs,h1,h2,zch ds xs n h3⟩
  | dT ks ds=>obtain⟨xs,h1,h2,h3⟩:=o;exact⟨xs,h1,h2,zch ds xs n h3⟩
  | non=>exact o.elim
  | bl b=>exact o.elim
  | int i=>exact o.elim
  | str x=>exact o.elim
  | ty n=>exact o.elim
  | tup ds=>exact o.elim
noncomputable abbrev PF:=List PV->(PV->Kd->Prop)->Prop
noncomputable def zbR (F:PF):Prop:=∀ds Q Q',(∀d k,Q d k->Q' d k)->F ds Q->F ds Q'
noncomputable def spP (K:PySem.W.Frag)(F:PF):Sp:=λvs H Q _=>∃Fz ds,(∀b,Fz b->H b≠none)/\DenL K Fz H ds vs/\F ds λd k=>∀v Fz' H',Post K [] [] Fz H Fz' H' d k v->Q v H'
theorem OpdL.all {K:PySem.W.Frag}{ρ:PEnv}{σ:St}{Fz Fz':FZ}{H H':Hp}(R:Rel K Fz ρ σ H)(x:Ext Fz H Fz' H'):∀ {ops:List (PV×Kd)}{vs:List V},OpdL K Fz' H' ρ σ H ops vs->
  ∃Fz2,(∀b,Fz' b->Fz2 b)/\(∀b,Fz2 b->H' b≠none)/\DenL K Fz2 H' (ops.map (·.1)) vs
 | _,_,.nil=>⟨Fz',λ_ h=>h,x.al,DenL.nil⟩
 | (d,k)::ops,v::vs,.cons h t=>by
  obtain⟨F2,s2,a2,h2⟩:=OpdL.all R x t;have addr:∀a,v=.ref a->Own K Fz' H' d a->∃Fz2,(∀b,Fz' b->Fz2 b)/\(∀b,Fz2 b->H' b≠none)/\DenL K Fz2 H' ((d,k)::ops |>.map (·.1)) (v::vs):=λa e o=>by
   subst e;refine⟨λb=>F2 b\/b=a,λb h=>.inl (s2 b h),λb hb=>?_,DenL.cons ?_ (DenL.mono (Keep.of (Same.refl _)) (λb h=>.inl h) _ _ h2)⟩
   ·rcases hb with hb | rfl
    ·exact a2 b hb
    ·obtain⟨o',e,_⟩:=o.at;rw[e];exact λz=>nomatch z
   ·exact(o.mono (Fz':=λb=>F2 b\/b=a) (Keep.of (Same.refl _)) (λb h=>.inl (s2 b h)) (λ_ h=>h)).den (.inr rfl)
  cases k with
  | frz=>exact⟨F2,s2,a2,DenL.cons (Den.mono (Keep.of (Same.refl _)) s2 _ _ h) h2⟩
  | new=>obtain⟨a,e,_,_,o⟩:=h;exact addr a e o
  | own i=>
   obtain⟨h1,h2'⟩:=h;obtain⟨a,e,_,o⟩:=(R.ext x).own i d h1;rw[h2']at e;cases e;exact addr a rfl o
noncomputable def zbc (F:PF)(t:TPA):TPE:=λρ Q=>t ρ λops=>F (ops.map (·.1)) λd k=>(noOwn ops=true\/zbP d k=true)/\Q d k
section
variable {X:Cx}{k:Nat}{f:Addr}{fd:FuncData}{ps:List Str}{F:PF}{x:Str}{p pos:Pos}{e:Expr}{es:List Expr}{t:TPA}
theorem znA {σ:St}{H:Hp}{Q:VK}(ha:PuA X es t)(m:zbR F)(h:lift X.K (zbc F t) σ H Q):zqK (spP X.K F) [] E0 (zpl X.K t) σ H Q:=by
 obtain⟨ρ,Fz,R,h⟩:=h;refine⟨ρ,Fz,R,ha.mono ρ _ _ (λops h vs Fz' H' x o=>?_) h⟩;show spP X.K F (vs++[]) H' Q E0;rw[List.append_nil];by_cases hn:noOwn ops=true
 ·obtain⟨F2,x2,s2,h2⟩:=o.frozen x hn;refine⟨F2,ops.map (·.1),x2.al,h2,m _ _ _ (λd k q v Fz3 H3 p3=>?_) h⟩;exact q.2 v Fz3 H3 (p3.behind x2)
 ·obtain⟨F2,s2,a2,h2⟩:=o.all R x;refine⟨F2,ops.map (·.1),a2,h2,m _ _ _ (λd k q v Fz3 H3 p3=>?_) h⟩;have nm:zbP d k=true:=q.1.resolve_left hn;have al:∀b,Fz' b->H3 b≠none:=λb hb z=>x.al b hb (p3.ext.same.free z);refine q.2 v Fz' H3 ⟨⟨x.same.trans p3.ext.same,x.sub,x.new,al⟩,?_⟩;exact((zkB nm x.al p3.opd).up).back x.same
theorem zan (G:FnOk X.prog X.w X.K X.mg X.base CX0 k f fd ps (spP X.K F))(m:zbR F)(hr:Room k X.A)(hg:Gl X x)(hm:X.mg x=some (.ref f))(hk:PySem.W.keepIn X.K (.ref f)=true)(hb:Binds X.K fd ps [])(ha:PuA X (e::es) t)
  (hd:(x == ("__debug__" : Str))=false:=by decide) (he:starEach (e::es) X.env=(false,eval e X.env)::starEach es X.env:=by rfl) (hpl:(backTo pos (starEach es X.env)).any (·.1)=false:=by rfl) :
  PuE X (.Call (.Name x p) (e::es) [] pos) (zbc F t) where
 mono ρ Q Q' mm h:=ha.mono ρ _ _ (λops h=>m _ _ _ (λd k q=>⟨q.1,mm _ _ q.2⟩) h) h
 run:=PE.weak (zoS G hr hg hm hk hb .nil zsQ ha.run hd he hpl) λσ H Q h=>znA ha m h
end
structure zdZ (K:PySem.W.Frag)(r:List V->Hp->VK->Prop)(p:PF):Prop where
 mono:zbR p
 run:∀Fz H ds vs Q,(∀b,Fz b->H b≠none)->znz K Fz H ds vs->p ds (λz k=>∀v Fz' H',Post K [] [] Fz H Fz' H' z k v->Q v H')->r vs H Q
noncomputable def tB (p:PF)(t:TPA):TPE:=λρ Q=>t ρ λops=>p (ops.map (·.1)) Q
section
variable {X:Cx}{x:Str}{p pos:Pos}{e:Expr}{es:List Expr}{t:TPA}{id T:String}{r:List V->Hp->VK->Prop}{pf:PF}
theorem zrp {σ:St}{H:Hp}{Q:VK}(ha:PuA X es t)(m:zdZ X.K r pf)(h:lift X.K (tB pf t) σ H Q):tCB r (zpl X.K t) σ H Q:=by
 obtain⟨ρ,Fz,R,h⟩:=h;refine⟨ρ,Fz,R,ha.mono ρ _ _ (λops h vs Fz' H' x o=>?_) h⟩;exact m.run Fz' H' _ vs Q x.al (o.root R x) (m.mono _ _ _ (λd k q v Fz3 H3 p3=>q v Fz3 H3 (p3.behind x)) h)
theorem zbS (hc:zcd X (.builtin id) r)(m:zdZ X.K r pf)(hg:Gl X x)(hm:X.mg x=none)(hv:bootBuiltins x=some (.builtin id))(ha:PuA X (e::es) t)(hn:x≠"__name__":=by decide) (hdb:(x == ("__debug__" : Str))=false:=by decide)
  (he:starEach (e::es) X.env=(false,eval e X.env)::starEach es X.env:=by rfl) (hpl:(backTo pos (starEach es X.env)).any (·.1)=false:=by rfl):PuE X (.Call (.Name x p) (e::es) [] pos) (tB pf t) where
 mono ρ Q Q' mm h:=ha.mono ρ _ _ (λops h=>m.mono _ _ _ mm h) h
 run:=PE.weak (zeK hc hg hm hv ha.run hn hdb he hpl) λσ H Q h=>zrp ha m h
theorem zhk (hc:zcd X (.type T) r)(m:zdZ X.K r pf)(hg:Gl X x)(hm:X.mg x=none)(hv:bootBuiltins x=some (.type T))(ha:PuA X (e::es) t)(hn:x≠"__name__":=by decide) (hdb:(x == ("__debug__" : Str))=false:=by decide)
  (he:starEach (e::es) X.env=(false,eval e X.env)::starEach es X.env:=by rfl) (hpl:(backTo pos (starEach es X.env)).any (·.1)=false:=by rfl):PuE X (.Call (.Name x p) (e::es) [] pos) (tB pf t) where
 mono ρ Q Q' mm h:=ha.mono ρ _ _ (λops h=>m.mono _ _ _ mm h) h
 run:=PE.weak (zeW hc hg hm hv ha.run hn hdb he hpl) λσ H Q h=>zrp ha m h
end
end PL
namespace PL
open PySem PySem.Spec L2
open PyProof.Rows hiding St
structure POut where
 nx:PEnv->Prop
 rt:PV->Kd->Prop
 bk:PEnv->Prop
 ct:PEnv->Prop
structure POut.le (O O':POut):Prop where
 nx:∀ρ,O.nx ρ->O'.nx ρ
 rt:∀d k,O.rt d k->O'.rt d k
 bk:∀ρ,O.bk ρ->O'.bk ρ
 ct:∀ρ,O.ct ρ->O'.ct ρ
noncomputable abbrev TPS:=PEnv->POut->Prop
noncomputable def Hold (t:TPS)(O:POut)(ρ:PEnv):Prop:=t ρ O
noncomputable def zrq (c:TPT)(ρ:PEnv)(Q:Bool->Prop):Prop:=c ρ Q
theorem zbI {c:TPT}{ρ:PEnv}{Q:Bool->Prop}(h:c ρ Q):zrq c ρ Q:=h
theorem hold {t:TPS}{O:POut}{ρ:PEnv}(h:t ρ O):Hold t O ρ:=h
structure Step (ρ:PEnv)(σ:St)(Fz:FZ)(H:Hp)(Fz':FZ)(H':Hp):Prop where
 sub:∀b,Fz b->Fz' b
 new:∀b,Fz' b->Fz b\/H b=none\/zax ρ σ b
 keep:∀b o,H b=some o->¬ zax ρ σ b->H' b=some o
noncomputable def zar (ρ:PEnv)(σ:St)(H:Hp)(ρ':PEnv)(σ':St):Prop:=∀b,zax ρ' σ' b->zax ρ σ b\/H b=none
theorem Step.of {ρ:PEnv}{σ:St}{Fz Fz':FZ}{H H':Hp}(x:Ext Fz H Fz' H'):Step ρ σ Fz H Fz' H':=
 ⟨x.sub,λb h=>(x.new b h).elim .inl (λh=>.inr (.inl h)),λb o e _=>x.same b o e⟩
theorem Step.none {ρ:PEnv}{σ:St}{Fz Fz':FZ}{H H':Hp}(s:Step ρ σ Fz H Fz' H'){b:Addr}(h:H' b=Option.none):H b=Option.none\/zax ρ σ b:=by
 by_cases o:zax ρ σ b
 ·exact .inr o
 ·cases e:H b with
  | none=>exact .inl rfl
  | some u=>rw[s.keep b u e o]at h;cases h
theorem Step.trans {ρ ρ':PEnv}{σ σ':St}{F1 F2 F3:FZ}{H1 H2 H3:Hp}(a:Step ρ σ F1 H1 F2 H2)(oi:zar ρ σ H1 ρ' σ')(b:Step ρ' σ' F2 H2 F3 H3):Step ρ σ F1 H1 F3 H3:=
 ⟨λc h=>b.sub c (a.sub c h),λc h=>by
  rcases b.new c h with h | h | h
  ·exact a.new c h
  ·exact .inr (a.none h)
  ·exact .inr ((oi c h).symm),λc o e n=>by
  refine b.keep c o (a.keep c o e n) λz=>?_;rcases oi c z with z | z
  ·exact n z
  ·rw[e]at z;cases z⟩
theorem zar.trans {ρ ρ' ρ'':PEnv}{σ σ' σ'':St}{F1 F2:FZ}{H1 H2:Hp}(a:Step ρ σ F1 H1 F2 H2)(oi:zar ρ σ H1 ρ' σ')(oj:zar ρ' σ' H2 ρ'' σ''):zar ρ σ H1 ρ'' σ'':=λc h=>by
 rcases oj c h with h | h
 ·exact oi c h
 ·exact(a.none h).symm
theorem zar.refl (ρ:PEnv)(σ:St)(H:Hp):zar ρ σ H ρ σ:=λ_ h=>.inl h
noncomputable def Ret (K:PySem.W.Frag)(ρ:PEnv)(σ:St)(H:Hp)(Fz':FZ)(H':Hp)(d:PV):Kd->V->Prop
 | .frz,v=>Den K Fz' H' d v
 | .new,v=>∃a,v=.ref a/\¬ Fz' a/\Own K Fz' H' d a/\(zax ρ σ a\/H a=none)
 | .own _,_=>False
noncomputable def zeH (K:PySem.W.Frag)(D:Ends)(ρ:PEnv)(σ:St)(Fz:FZ)(H:Hp):POut where
 nx:=λρ'=>∀σ' Fz' H',Step ρ σ Fz H Fz' H'->zar ρ σ H ρ' σ'->Rel K Fz' ρ' σ' H'->D.nx σ' H'
 bk:=λρ'=>∀σ' Fz' H',Step ρ σ Fz H Fz' H'->zar ρ σ H ρ' σ'->Rel K Fz' ρ' σ' H'->D.bk σ' H'
 ct:=λρ'=>∀σ' Fz' H',Step ρ σ Fz H Fz' H'->zar ρ σ H ρ' σ'->Rel K Fz' ρ' σ' H'->D.ct σ' H'
 rt:=λd k=>∀v Fz' H',Step ρ σ Fz H Fz' H'->(∀b,Fz' b->H' b≠none)->Ret K ρ σ H Fz' H' d k v->D.rt v H'
noncomputable def znB (K:PySem.W.Frag)(t:TPS):TS:=λD σ H=>∃ρ Fz,Rel K Fz ρ σ H/\t ρ (zeH K D ρ σ Fz H)
structure PuS (X:Cx)(st:Stmt)(t:TPS):Prop where
 mono:∀ρ O O',O.le O'->t ρ O->t ρ O'
 run:PS X st (znB X.K t)
structure PuSs (X:Cx)(st:List Stmt)(t:TPS):Prop where
 mono:∀ρ O O',O.le O'->t ρ O->t ρ O'
 run:PSs X st (znB X.K t)
theorem PS.weak {X:Cx}{e:Stmt}{t t':TS}(h:PS X e t)(w:∀D σ H,t' D σ H->t D σ H):PS X e t':=λpins s σ H D I q=>h pins s σ H D I (w D σ H q)
theorem PSs.weak {X:Cx}{e:List Stmt}{t t':TS}(h:PSs X e t)(w:∀D σ H,t' D σ H->t D σ H):PSs X e t':=λpins s σ H D I q=>h pins s σ H D I (w D σ H q)
theorem znC {K:PySem.W.Frag}{D D':Ends}{ρ ρ':PEnv}{σ σ':St}{Fz Fz':FZ}{H H':Hp}(s:Step ρ σ Fz H Fz' H')(oi:zar ρ σ H ρ' σ')(h1:∀σ H,D.nx σ H->D'.nx σ H)(h2:∀v H,D.rt v H->D'.rt v H)(h3:∀σ H,D.bk σ H->D'.bk σ H)(h4:∀σ H,D.ct σ H->D'.ct σ H) :
  (zeH K D ρ σ Fz H).le (zeH K D' ρ' σ' Fz' H') where
 nx ρ2 q σ2 F2 H2 s2 o2 R2:=h1 _ _ (q σ2 F2 H2 (s.trans oi s2) (zar.trans s oi o2) R2)
 bk ρ2 q σ2 F2 H2 s2 o2 R2:=h3 _ _ (q σ2 F2 H2 (s.trans oi s2) (zar.trans s oi o2) R2)
 ct ρ2 q σ2 F2 H2 s2 o2 R2:=h4 _ _ (q σ2 F2 H2 (s.trans oi s2) (zar.trans s oi o2) R2)
 rt d k q v F2 H2 s2 al r:=h2 _ _ (q v F2 H2 (s.trans oi s2) al (by
  cases k with
  | frz=>exact r
  | own i=>exact r
  | new=>
   obtain⟨a,e,nf,o,w⟩:=r;refine⟨a,e,nf,o,?_⟩;rcases w with w | w
   ·exact oi a w
   ·exact(s.none w).symm))
theorem zci {K:PySem.W.Frag}{D:Ends}{ρ ρ':PEnv}{σ σ':St}{Fz Fz':FZ}{H H':Hp}(s:Step ρ σ Fz H Fz' H')(oi:zar ρ σ H ρ' σ'):(zeH K D ρ σ Fz H).le (zeH K D ρ' σ' Fz' H'):=
 znC s oi (λ_ _ h=>h) (λ_ _ h=>h) (λ_ _ h=>h) (λ_ _ h=>h)
section
variable {X:Cx}{st:Stmt}{rest:List Stmt}{t u:TPS}{e:Expr}{te:TPE}{pos:Pos}
noncomputable def zda:TPS:=λρ O=>O.nx ρ
noncomputable def pSeq (t u:TPS):TPS:=λρ O=>t ρ { O with nx:=Hold u O }
theorem zcM:PuSs X [] zda where
 mono ρ O O' m h:=m.nx _ h
 run:=PSs.weak ziq λD σ H h=>by
  obtain⟨ρ,Fz,R,h⟩:=h;exact h σ Fz H (.of ⟨Same.refl H,λ_ h=>h,λ_ h=>.inl h,R.al⟩) (zar.refl ρ σ H) R
theorem zah (h1:PuS X st t):PuSs X [st] t:=⟨h1.mono,zir h1.run⟩
theorem zae (h1:PuS X st t)(h2:PuSs X rest u):PuSs X (st::rest) (pSeq t u) where
 mono ρ O O' m h:=h1.mono ρ { O with nx:=λρ'=>u ρ' O } _ ⟨λρ' q=>h2.mono ρ' _ _ m q,m.rt,m.bk,m.ct⟩ h
 run:=PSs.weak (zcK h1.run h2.run) λD σ H h=>by
  obtain⟨ρ,Fz,R,h⟩:=h;refine⟨ρ,Fz,R,h1.mono ρ { zeH X.K D ρ σ Fz H with nx:=λρ'=>u ρ' (zeH X.K D ρ σ Fz H) } _ ⟨λρ' q=>?_,λ_ _ q=>q,λ_ q=>q,λ_ q=>q⟩ h⟩;intro σ' Fz' H' s oi R';exact⟨ρ',Fz',R',h2.mono ρ' _ _ (zci s oi) q⟩
noncomputable def zcj:TPS:=λρ O=>O.bk ρ
theorem zlD:PuS X (.Break pos) zcj where
 mono ρ O O' m h:=m.bk _ h
 run:=PS.weak zmZ λD σ H h=>by
  obtain⟨ρ,Fz,R,h⟩:=h;exact h σ Fz H (.of ⟨Same.refl H,λ_ h=>h,λ_ h=>.inl h,R.al⟩) (zar.refl ρ σ H) R
noncomputable def pRet (te:TPE):TPS:=λρ O=>te ρ λd k=>O.rt d (match k with | .frz=>.frz | _=>.new)
theorem zaD (he:PuE X e te):PuS X (.Return (some e) pos) (pRet te) where
 mono ρ O O' m h:=he.mono ρ _ _ (λ_ _ q=>m.rt _ _ q) h
 run:=PS.weak (zqy he.run) λD σ H h=>by
  obtain⟨ρ,Fz,R,h⟩:=h;refine⟨ρ,Fz,R,he.mono ρ _ _ (λd k q v Fz' H' p=>q v Fz' H' (.of p.ext) p.ext.al ?_) h⟩;cases k with
  | frz=>exact p.opd
  | new=>obtain⟨a,e,hn,nf,o⟩:=p.opd;exact⟨a,e,nf,o,.inr hn⟩
  | own i=>
   obtain⟨h1,h2⟩:=p.opd;obtain⟨a,e,nf,o⟩:=(R.ext p.ext).own i d h1;rw[h2]at e;cases e;exact⟨a,rfl,nf,o,.inl ⟨i,d,h1,h2⟩⟩
noncomputable def pIf (c:TPT)(t u:TPS):TPS:=λρ O=>c ρ λb=>if b=true then Hold t O ρ else Hold u O ρ
theorem zfI {c:Expr}{a b:List Stmt}{tc:TPT}(hc:PuT X c tc)(ha:PuSs X a t)(hb:PuSs X b u):PuS X (.If c a b pos) (pIf tc t u) where
 mono ρ O O' m h:=hc.mono ρ _ _ (λd q=>by
  cases d with
  | true=>rw[if_pos rfl]at q ⊢;exact ha.mono ρ _ _ m q
  | false=>rw[if_neg Bool.false_ne_true]at q ⊢;exact hb.mono ρ _ _ m q) h
 run:=PS.weak (zoN hc.run ha.run hb.run) λD σ H h=>by
  obtain⟨ρ,Fz,R,h⟩:=h;refine⟨ρ,Fz,R,hc.mono ρ _ _ (λd q Fz' H' x=>?_) h⟩;cases d with
  | true=>
   rw[if_pos rfl]at q ⊢;exact⟨ρ,Fz',R.ext x,ha.mono ρ _ _ (zci (.of x) (zar.refl ρ σ H)) q⟩
  | false=>
   rw[if_neg Bool.false_ne_true]at q ⊢;exact⟨ρ,Fz',R.ext x,hb.mono ρ _ _ (zci (.of x) (zar.refl ρ σ H)) q⟩
noncomputable def zdu (i:Nat)(ρ:PEnv):PEnv:=match ρ[i]? with
 | some (some (d,true))=>ρ.set i (some (d,false))
 | _=>ρ
noncomputable def pFrz (i:Nat)(t:TPS):TPS:=λρ O=>t (zdu i ρ) O
end
section
variable {K:PySem.W.Frag}{Fz:FZ}{ρ:PEnv}{σ:St}{H:Hp}
theorem Rel.set {i:Nat}{d:PV}{v:V}(R:Rel K Fz ρ σ H)(h:Den K Fz H d v):Rel K Fz (ρ.set i (some (d,false))) (σ.set i (some v)) H where
 al:=R.al
 len:=by rw[List.length_set,List.length_set];exact R.len
 frz j e he:=by
  by_cases hij:i=j
  ·subst hij;by_cases hi:i<ρ.length
   ·rw[List.getElem?_set_self hi]at he;cases he;exact⟨v,by rw[List.getElem?_set_self (by rw[<- R.len];exact hi)],h⟩
   ·rw[List.set_eq_of_length_le (by lia),List.getElem?_eq_none (by lia)]at he;cases he
  ·rw[List.getElem?_set_ne hij]at he ⊢;exact R.frz j e he
 own j e he:=by
  by_cases hij:i=j
  ·subst hij;by_cases hi:i<ρ.length
   ·rw[List.getElem?_set_self hi]at he;cases he
   ·rw[List.set_eq_of_length_le (by lia),List.getElem?_eq_none (by lia)]at he;cases he
  ·rw[List.getElem?_set_ne hij]at he ⊢;exact R.own j e he
 inj j k d' e a h1 h2 h3 h4:=by
  have nj:i≠j:=λz=>by
   subst z;by_cases hi:i<ρ.length
   ·rw[List.getElem?_set_self hi]at h1;cases h1
   ·rw[List.set_eq_of_length_le (by lia),List.getElem?_eq_none (by lia)]at h1;cases h1
  have nk:i≠k:=λz=>by
   subst z;by_cases hi:i<ρ.length
   ·rw[List.getElem?_set_self hi]at h2;cases h2
   ·rw[List.set_eq_of_length_le (by lia),List.getElem?_eq_none (by lia)]at h2;cases h2
  rw[List.getElem?_set_ne nj]at h1 h3;rw[List.getElem?_set_ne nk]at h2 h4;exact R.inj j k d' e a h1 h2 h3 h4
theorem zea {i:Nat}{d:PV}{v:V}:∀b,zax (ρ.set i (some (d,false))) (σ.set i (some v)) b->zax ρ σ b:=λb ⟨j,e,h1,h2⟩=>by
 have nj:i≠j:=λz=>by
  subst z;by_cases hi:i<ρ.length
  ·rw[List.getElem?_set_self hi]at h1;cases h1
  ·rw[List.set_eq_of_length_le (by lia),List.getElem?_eq_none (by lia)]at h1;cases h1
 rw[List.getElem?_set_ne nj]at h1 h2;exact⟨j,e,h1,h2⟩
theorem Rel.zrr {i:Nat}{d:PV}{a:Addr}(R:Rel K Fz ρ σ H)(nf:¬ Fz a)(h:Own K Fz H d a)(hno:¬ zax ρ σ a):Rel K Fz (ρ.set i (some (d,true))) (σ.set i (some (.ref a))) H where
 al:=R.al
 len:=by rw[List.length_set,List.length_set];exact R.len
 frz j e he:=by
  by_cases hij:i=j
  ·subst hij;by_cases hi:i<ρ.length
   ·rw[List.getElem?_set_self hi]at he;cases he
   ·rw[List.set_eq_of_length_le (by lia),List.getElem?_eq_none (by lia)]at he;cases he
  ·rw[List.getElem?_set_ne hij]at he ⊢;exact R.frz j e he
 own j e he:=by
  by_cases hij:i=j
  ·subst hij;by_cases hi:i<ρ.length
   ·rw[List.getElem?_set_self hi]at he;cases he;exact⟨a,by rw[List.getElem?_set_self (by rw[<- R.len];exact hi)],nf,h⟩
   ·rw[List.set_eq_of_length_le (by lia),List.getElem?_eq_none (by lia)]at he;cases he
  ·rw[List.getElem?_set_ne hij]at he ⊢;exact R.own j e he
 inj j k d' e b h1 h2 h3 h4:=by
  by_cases hj:i=j
  ·by_cases hk:i=k
   ·rw[<- hj,<- hk]
   ·subst hj;rw[List.getElem?_set_ne hk]at h2 h4;by_cases hi:i<σ.length
    ·rw[List.getElem?_set_self hi]at h3;cases h3;exact absurd ⟨k,e,h2,h4⟩ hno
    ·rw[List.set_eq_of_length_le (by lia),List.getElem?_eq_none (by lia)]at h3;cases h3
  ·by_cases hk:i=k
   ·subst hk;rw[List.getElem?_set_ne hj]at h1 h3;by_cases hi:i<σ.length
    ·rw[List.getElem?_set_self hi]at h4;cases h4;exact absurd ⟨j,d',h1,h3⟩ hno
    ·rw[List.set_eq_of_length_le (by lia),List.getElem?_eq_none (by lia)]at h4;cases h4
   ·rw[List.getElem?_set_ne hj]at h1 h3;rw[List.getElem?_set_ne hk]at h2 h4;exact R.inj j k d' e b h1 h2 h3 h4
theorem zkC {i:Nat}{d:PV}{a:Addr}:∀b,zax (ρ.set i (some (d,true))) (σ.set i (some (.ref a))) b->b=a\/zax ρ σ b:=λb ⟨j,e,h1,h2⟩=>by
 by_cases hij:i=j
 ·subst hij;by_cases hi:i<σ.length
  ·rw[List.getElem?_set_self hi]at h2;cases h2;exact .inl rfl
  ·rw[List.set_eq_of_length_le (by lia),List.getElem?_eq_none (by lia)]at h2;cases h2
 ·rw[List.getElem?_set_ne hij]at h1 h2;exact .inr ⟨j,e,h1,h2⟩
theorem Rel.frozen {i:Nat}(R:Rel K Fz ρ σ H):∃Fz',Rel K Fz' (zdu i ρ) σ H/\Step ρ σ Fz H Fz' H/\zar ρ σ H (zdu i ρ) σ:=by
 unfold zdu;split
 ·rename_i d he
  obtain⟨a,e,nf,o⟩:=R.own i d he;have R2:Rel K (λb=>Fz b\/b=a) (ρ.set i (some (d,false))) (σ.set i (some (.ref a))) H:=by
   have hno:∀j d',i≠j->ρ[j]? = some (some (d',true))->σ[j]?≠some (some (.ref a)):=λj d' hne h1 h2=>hne (R.inj i j d d' a he h1 e h2);have hal:∀b,(Fz b\/b=a)->H b≠none:=λb hb=>by
    rcases hb with hb | rfl
    ·exact R.al b hb
    ·obtain⟨o',q,_⟩:=o.at;rw[q];exact λz=>nomatch z
   refine⟨hal,by rw[List.length_set,List.length_set];exact R.len,λj e' he'=>?_,λj e' he'=>?_,λj k d' e' b h1 h2 h3 h4=>?_⟩
   ·by_cases hij:i=j
    ·subst hij;have hi:i<ρ.length:=(List.getElem?_eq_some_iff.mp he).1;rw[List.getElem?_set_self hi]at he';cases he';exact⟨_,by rw[List.getElem?_set_self (by rw[<- R.len];exact hi)],(o.mono (Fz':=λb=>Fz b\/b=a) (Keep.of (Same.refl _)) (λ_ h=>.inl h) (λ_ h=>h)).den (.inr rfl)⟩
    ·rw[List.getElem?_set_ne hij]at he' ⊢;obtain⟨v,q1,q2⟩:=R.frz j e' he';exact⟨v,q1,Den.mono (Keep.of (Same.refl _)) (λ_ h=>.inl h) _ _ q2⟩
   ·have hij:i≠j:=λz=>by
     subst z;have hi:i<ρ.length:=(List.getElem?_eq_some_iff.mp he).1;rw[List.getElem?_set_self hi]at he';cases he'
    rw[List.getElem?_set_ne hij]at he' ⊢;obtain⟨b,q1,q2,q3⟩:=R.own j e' he';refine⟨b,q1,λz=>?_,q3.mono (Keep.of (Same.refl _)) (λ_ h=>.inl h) (λ_ h=>h)⟩;rcases z with z | z
    ·exact q2 z
    ·subst z;exact hno j e' hij he' q1
   ·have hi:i<ρ.length:=(List.getElem?_eq_some_iff.mp he).1;have nj:i≠j:=λz=>by subst z;rw[List.getElem?_set_self hi]at h1;cases h1
    have nk:i≠k:=λz=>by subst z;rw[List.getElem?_set_self hi]at h2;cases h2
    rw[List.getElem?_set_ne nj]at h1 h3;rw[List.getElem?_set_ne nk]at h2 h4;exact R.inj j k d' e' b h1 h2 h3 h4
  have es:σ.set i (some (.ref a))=σ:=List.ext_getElem? λj=>by
   by_cases hij:i=j
   ·subst hij;rw[List.getElem?_set_self (List.getElem?_eq_some_iff.mp e).1,e]
   ·rw[List.getElem?_set_ne hij]
  refine⟨λb=>Fz b\/b=a,by rw[es]at R2;exact R2,⟨λ_ h=>.inl h,λb hb=>?_,λb o e _=>e⟩,λb hb=>?_⟩
  ·rcases hb with hb | rfl
   ·exact .inl hb
   ·exact .inr (.inr ⟨i,d,he,e⟩)
  ·have:=zea (ρ:=ρ) (σ:=σ) (i:=i) (d:=d) (v:=.ref a) b (by rw[es];exact hb);exact .inl this
 ·exact⟨Fz,R,.of ⟨Same.refl H,λ_ h=>h,λ_ h=>.inl h,R.al⟩,zar.refl ρ σ H⟩
end
section
variable {X:Cx}{st:Stmt}{sts:List Stmt}{t:TPS}
theorem zbd (i:Nat)(h:PuS X st t):PuS X st (pFrz i t) where
 mono ρ O O' m q:=h.mono _ _ _ m q
 run:=PS.weak h.run λD σ H q=>by
  obtain⟨ρ,Fz,R,q⟩:=q;obtain⟨F2,R2,s2,o2⟩:=R.frozen (i:=i);exact⟨_,F2,R2,h.mono _ _ _ (zci s2 o2) q⟩
end
noncomputable def pSet (i:Nat)(te:TPE):TPS:=λρ O=>te ρ λd k=>match k with
 | .frz=>O.nx (ρ.set i (some (d,false)))
 | .new=>O.nx (ρ.set i (some (d,true)))
 | .own _=>False
theorem zjs {X:Cx}{e:Expr}{te:TPE}{i:Nat}(he:PuE X e te){D:Ends}{σ:St}{H:Hp}(h:znB X.K (pSet i te) D σ H):tAsg (lift X.K te) (zkn i) D σ H:=by
 obtain⟨ρ,Fz,R,h⟩:=h;refine⟨ρ,Fz,R,he.mono ρ _ _ (λd k q v Fz' H' p=>?_) h⟩;show D.nx (σ.set i (some v)) H';have R':=R.ext p.ext;cases k with
 | frz=>exact(show(zeH X.K D ρ σ Fz H).nx (ρ.set i (some (d,false))) from q) _ Fz' H' (.of p.ext) (λb hb=>.inl (zea b hb)) (R'.set p.opd)
 | own j=>exact q.elim
 | new=>
  obtain⟨a,e,hn,nf,o⟩:=p.opd;subst e;have hno:¬ zax ρ σ a:=λ⟨j,e,h1,h2⟩=>by
   obtain⟨b,q1,_,q2⟩:=R.own j e h1;rw[h2]at q1;cases q1;obtain⟨o',q3,_⟩:=q2.at;rw[hn]at q3;cases q3
  refine(show(zeH X.K D ρ σ Fz H).nx (ρ.set i (some (d,true))) from q) _ Fz' H' (.of p.ext) (λb hb=>?_) (R'.zrr nf o hno);rcases zkC b hb with rfl | hb
  ·exact .inr hn
  ·exact .inl hb
theorem zhl {X:Cx}{e:Expr}{te:TPE}{i:Nat}(he:PuE X e te):∀ρ O O',POut.le O O'->pSet i te ρ O->pSet i te ρ O':=λρ O O' m h=>he.mono ρ _ _ (λd k q=>by
 cases k with
 | frz=>exact m.nx _ q
 | new=>exact m.nx _ q
 | own j=>exact q) h
section
variable {X:Cx}{e:Expr}{te:TPE}{pos:Pos}
theorem zam {i:Nat}{x:Str}{pos':Pos}(hN:X.N.Nodup)(hi:X.N[i]? = some x)(hx:Loc X.env.scope x)(he:PuE X e te)(hs:swapsWith e (some (.Name x pos')) pos.line X.env=pure false:=by rfl)(hf:X.fn x=true\/X.env.scope.names.lookup x=some .local:=by first | exact .inl rfl | exact .inr rfl | assumption) :
  PuS X (.Assign [.Name x pos'] e pos) (pSet i te):=
 ⟨zhl he,PS.weak (zjb hN hi hx he.run hs hf) λ_ _ _ h=>zjs he h⟩
end
noncomputable abbrev TPG:=PV->PEnv->(PEnv->Prop)->Prop
noncomputable abbrev TPGs:=List PV->PEnv->(PEnv->Prop)->Prop
noncomputable def zlE (K:PySem.W.Frag)(t:TPG):TG:=λv σ H Q=>∃ρ Fz d,Rel K Fz ρ σ H/\Den K Fz H d v/\t d ρ λρ'=>∀σ',Rel K Fz ρ' σ' H->(∀b,zax ρ' σ' b->zax ρ σ b)->Q σ' H
noncomputable def zrs (K:PySem.W.Frag)(t:TPGs):TGs:=λvs σ H Q=>∃ρ Fz ds,Rel K Fz ρ σ H/\DenL K Fz H ds vs/\t ds ρ λρ'=>∀σ',Rel K Fz ρ' σ' H->(∀b,zax ρ' σ' b->zax ρ σ b)->Q σ' H
structure PuG (X:Cx)(tg:Expr)(t:TPG):Prop where
 mono:∀d ρ Q Q',(∀ρ,Q ρ->Q' ρ)->t d ρ Q->t d ρ Q'
 run:PG X tg (zlE X.K t)
structure PuGs (X:Cx)(tgs:List Expr)(t:TPGs):Prop where
 mono:∀ds ρ Q Q',(∀ρ,Q ρ->Q' ρ)->t ds ρ Q->t ds ρ Q'
 run:PGs X tgs (zrs X.K t)
theorem PG.weak {X:Cx}{e:Expr}{t t':TG}(h:PG X e t)(w:∀v σ H Q,t' v σ H Q->t v σ H Q):PG X e t':=λpins s σ H v u Q I r q=>h pins s σ H v u Q I r (w v σ H Q q)
theorem PGs.weak {X:Cx}{e:List Expr}{t t':TGs}(h:PGs X e t)(w:∀v σ H Q,t' v σ H Q->t v σ H Q):PGs X e t':=λpins s σ H v u Q I r q=>h pins s σ H v u Q I r (w v σ H Q q)
noncomputable def zaY (i:Nat):TPG:=λd ρ Q=>Q (ρ.set i (some (d,false)))
noncomputable def zdb:TPGs:=λds ρ Q=>ds=[]/\Q ρ
noncomputable def zbu (t:TPG)(u:TPGs):TPGs:=λds ρ Q=>∃d r,ds=d::r/\t d ρ λρ'=>u r ρ' Q
noncomputable def zdc (n:Nat)(t:TPGs):TPG:=λd ρ Q=>∃ds,d=.tup ds/\ds.length=n/\t ds ρ Q
section
variable {X:Cx}{pos:Pos}
theorem zai {i:Nat}{x:Str}(hN:X.N.Nodup)(hi:X.N[i]? = some x)(hx:Loc X.env.scope x)(hf:X.fn x=true\/X.env.scope.names.lookup x=some .local:=by first | exact .inl rfl | exact .inr rfl | assumption):PuG X (.Name x pos) (zaY i) where
 mono d ρ Q Q' m h:=m _ h
 run:=PG.weak (zis hN hi hx hf) λv σ H Q h=>by
  obtain⟨ρ,Fz,d,R,hd,h⟩:=h;exact h _ (R.set hd) (λb hb=>zea b hb)
theorem zeM:PuGs X [] zdb where
 mono d ρ Q Q' m h:=⟨h.1,m _ h.2⟩
 run:=PGs.weak zoO λv σ H Q h=>by
  obtain⟨ρ,Fz,ds,R,hd,e,h⟩:=h;subst e;simp only[DenL]at hd;exact⟨hd,h σ R (λ_ h=>h)⟩
theorem zbv {e:Expr}{es:List Expr}{t:TPG}{u:TPGs}(h1:PuG X e t)(h2:PuGs X es u)
  (hs:(assignEach (e::es) X.env).map (·.2)=assign e X.env::(assignEach es X.env).map (·.2):=by rfl):PuGs X (e::es) (zbu t u) where
 mono ds ρ Q Q' m h:=by
  obtain⟨d,r,e,h⟩:=h;exact⟨d,r,e,h1.mono d ρ _ _ (λρ' q=>h2.mono r ρ' _ _ m q) h⟩
 run:=PGs.weak (zna h1.run h2.run hs) λvs σ H Q h=>by
  obtain⟨ρ,Fz,ds,R,hd,d,r,e,h⟩:=h;subst e;simp only[DenL]at hd;obtain⟨v,rs,e,d1,d2⟩:=hd;subst e;refine⟨v,rs,rfl,ρ,Fz,d,R,d1,h1.mono d ρ _ _ (λρ' q σ' R' o'=>?_) h⟩;exact⟨ρ',Fz,r,R',d2,h2.mono r ρ' _ _ (λρ2 q σ2 R2 o2=>q σ2 R2 (λb hb=>o' b (o2 b hb))) q⟩
theorem zgj {es:List Expr}{k:Nat}{t:TPGs}{n:Nat}(hc:X.calm=true)(h:PuGs X es t)
  (hn:(assignEach es X.env).length=n:=by rfl) (hst:(assignEach es X.env).findIdx? (·.1)=none:=by rfl):PuG X (.Tuple es k pos) (zdc n t) where
 mono d ρ Q Q' m q:=by
  obtain⟨ds,e,l,q⟩:=q;exact⟨ds,e,l,h.mono ds ρ _ _ m q⟩
 run:=PG.weak (zqz hc h.run hn hst) λv σ H Q q=>by
  obtain⟨ρ,Fz,d,R,hd,ds,e,l,q⟩:=q;subst e;simp only[Den]at hd;obtain⟨a,xs,e,h1,h2⟩:=hd;have hl:=h2.length;exact⟨a,xs,e,SqT.of h1,by lia,ρ,Fz,ds,R,h2,q⟩
end
noncomputable def LocG (k:Nat)(t:TPG):Prop:=∀d ρ Q,t d ρ Q->t d ρ λρ'=>Q ρ'/\ρ'.length=ρ.length/\∀j,k<=j->ρ'[j]? = ρ[j]?
noncomputable def zrt (k:Nat)(t:TPGs):Prop:=∀d ρ Q,t d ρ Q->t d ρ λρ'=>Q ρ'/\ρ'.length=ρ.length/\∀j,k<=j->ρ'[j]? = ρ[j]?
theorem zaP {k i:Nat}(h:i<k):LocG k (zaY i):=λd ρ Q q=>⟨q,by rw[List.length_set],λj hj=>by rw[List.getElem?_set_ne (by lia)]⟩
theorem ziD {k n:Nat}{t:TPGs}(h:zrt k t):LocG k (zdc n t):=λd ρ Q q=>by
 obtain⟨ds,e,l,q⟩:=q;exact⟨ds,e,l,h ds ρ _ q⟩
noncomputable abbrev TPI:=PEnv->(List PV->Bool->Prop)->Prop
noncomputable def Walk (K:PySem.W.Frag)(Fz:FZ)(o:Bool)(J:It)(its:List PV)(H:Hp):Prop:=∀H2,(Same H H2\/(o=false/\ziz Fz H H2))->∀i:Nat,
 (∀d,its[i]? = some d->J.go i H2/\∀x H3,J.yld i H2 x H3->Same H2 H3/\Den K Fz H3 d x)/\(its.length<=i->J.stop i H2)
noncomputable def zru (K:PySem.W.Frag)(t:TPI):TI:=λσ H R=>∃ρ Fz,Rel K Fz ρ σ H/\t ρ λits o=>∀J Fz' H',Ext Fz H Fz' H'->Walk K Fz' o J its H'->R J H'
structure PuI (X:Cx)(tg iter:Expr)(t:TPI):Prop where
 mono:∀ρ Q Q',(∀its o,Q its o->Q' its o)->t ρ Q->t ρ Q'
 run:PI X tg iter (zru X.K t)
theorem PI.weak {X:Cx}{tg e:Expr}{t t':TI}(h:PI X tg e t)(w:∀σ H Q,t' σ H Q->t σ H Q):PI X tg e t':=λpins s σ H Q I q=>h pins s σ H Q I (w σ H Q q)
noncomputable def isOwn:Kd->Bool
 | .own _=>true
 | _=>false
noncomputable def iLst (te:TPE):TPI:=λρ Q=>te ρ λd k=>∃ds,d=.lst ds/\Q ds (isOwn k)
noncomputable def zeb (te:TPE):TPI:=λρ Q=>te ρ λd k=>∃ds,d=.tup ds/\Q ds false
section
variable {X:Cx}{tg e:Expr}{te:TPE}
theorem zaw (he:PuE X e te):PuI X tg e (iLst te) where
 mono ρ Q Q' m h:=he.mono ρ _ _ (λd k ⟨ds,e,q⟩=>⟨ds,e,m _ _ q⟩) h
 run:=PI.weak (zoP he.run) λσ H Rr h=>by
  obtain⟨ρ,Fz,R,h⟩:=h;refine⟨ρ,Fz,R,he.mono ρ _ _ (λd k q v Fz' H' p=>?_) h⟩;obtain⟨ds,e,q⟩:=q;subst e;have rt:=p.root R;obtain⟨a,xs,rfl,h1,h2⟩:=zak rt;refine⟨a,rfl,⟨xs,h1⟩,?_⟩;have walk:∀(F2:FZ) (o:Bool),(∀b,Fz' b->F2 b)->(∀H2,(Same H' H2\/(o=false/\ziz F2 H' H2))->SqL X.K H2 a xs/\Keep F2 H' H2)->Walk X.K F2 o (Itl X.K a) ds H':=λF2 o s2 st H2 hH i=>by
   obtain⟨g1,g2⟩:=st H2 hH;have g3:DenL X.K F2 H2 ds xs:=DenL.mono g2 (λ_ h=>h) _ _ (DenL.mono (Keep.of (Same.refl _)) s2 _ _ h2);have hl:=g3.length;refine⟨λd hd=>?_,λhi=>⟨xs,g1,by lia⟩⟩;obtain⟨v,q1,q2⟩:=g3.get hd;exact⟨⟨xs,v,g1,q1⟩,λx H3 ⟨e,y⟩=>by
    subst e;have:=y xs g1;rw[q1]at this;cases this;exact⟨Same.refl _,q2⟩⟩
  cases k with
  | own i=>exact q _ Fz' H' p.ext (walk Fz' true (λ_ h=>h) λH2 hH=>by
    rcases hH with hH | ⟨z,_⟩
    ·exact⟨hH.seq h1,.of hH⟩
    ·cases z)
  | frz=>
   have pd:Den X.K Fz' H' (.lst ds) (.ref a):=p.opd;simp only[Den]at pd;obtain⟨a',xs',e,h3,h4⟩:=pd;cases e;refine q _ Fz' H' p.ext ?_;intro H2 hH i;have kp:Keep Fz' H' H2:=hH.elim (λz=>.of z) (λz=>.mk' z.2);have g1:SqL X.K H2 a xs':=h3.elim (λh=>.inl (kp.rd trivial h.1 h.2)) KX.sq;have g3:DenL X.K Fz' H2 ds xs':=DenL.mono kp (λ_ h=>h) _ _ h4;have hl:=g3.length;refine⟨λd hd=>?_,λhi=>⟨xs',g1,by lia⟩⟩;obtain⟨v,q1,q2⟩:=g3.get hd;exact⟨⟨xs',v,g1,q1⟩,λx H3 ⟨e,y⟩=>by
    subst e;have:=y xs' g1;rw[q1]at this;cases this;exact⟨Same.refl _,q2⟩⟩
  | new=>
   obtain⟨b,e,hn,nf,o⟩:=p.opd;cases e;obtain⟨xs',o1,o2⟩:=o;refine q _ (λb=>Fz' b\/b=a) H' (p.ext.add hn (by rw[o1];exact λz=>nomatch z)) ?_;intro H2 hH i;have kp:Keep (λb=>Fz' b\/b=a) H' H2:=hH.elim (λz=>.of z) (λz=>.mk' z.2);have g1:SqL X.K H2 a xs':=.inl (kp.rd trivial (.inr rfl) (.inl o1));have g3:DenL X.K (λb=>Fz' b\/b=a) H2 ds xs':=DenL.mono kp (λ_ h=>h) _ _ (DenL.mono (Keep.of (Same.refl _)) (λ_ h=>.inl h) _ _ o2);have hl:=g3.length;refine⟨λd hd=>?_,λhi=>⟨xs',g1,by lia⟩⟩;obtain⟨v,q1,q2⟩:=g3.get hd;exact⟨⟨xs',v,g1,q1⟩,λx H3 ⟨e,y⟩=>by
    subst e;have:=y xs' g1;rw[q1]at this;cases this;exact⟨Same.refl _,q2⟩⟩
theorem zff (he:PuE X e te):PuI X tg e (zeb te) where
 mono ρ Q Q' m h:=he.mono ρ _ _ (λd k ⟨ds,e,q⟩=>⟨ds,e,m _ _ q⟩) h
 run:=PI.weak (zqA he.run) λσ H Rr h=>by
  obtain⟨ρ,Fz,R,h⟩:=h;refine⟨ρ,Fz,R,he.mono ρ _ _ (λd k q v Fz' H' p=>?_) h⟩;obtain⟨ds,e,q⟩:=q;subst e;obtain⟨a,xs,rfl,h1,h2⟩:=zdq (p.root R);refine⟨a,rfl,⟨xs,SqT.of h1⟩,q _ Fz' H' p.ext ?_⟩;intro H2 hH i;have kp:Keep Fz' H' H2:=hH.elim (λz=>.of z) (λz=>.mk' z.2);have g1:SqT X.K H2 a xs:=kp.sqT h1;have g3:DenL X.K Fz' H2 ds xs:=DenL.mono kp (λ_ h=>h) _ _ h2;have hl:=g3.length;refine⟨λd hd=>?_,λhi=>⟨xs,g1,by lia⟩⟩;obtain⟨v,q1,q2⟩:=g3.get hd;exact⟨⟨xs,v,g1,q1⟩,λx H3 ⟨e,y⟩=>by
   subst e;have:=y xs g1;rw[q1]at this;cases this;exact⟨Same.refl _,q2⟩⟩
end
noncomputable def rngP (lo:Int)(n:Nat):List PV:=(List.range n).map λ(i:Nat)=>PV.int (lo+i)
theorem zbT (lo:Int)(n:Nat):(rngP lo n).length=n:=by simp[rngP]
theorem zct {lo:Int}{n i:Nat}{d:PV}(h:(rngP lo n)[i]? = some d):i<n/\d=.int (lo+i):=by
 have hi:i<n:=by have:=(List.getElem?_eq_some_iff.mp h).1;rw[zbT]at this;exact this
 refine⟨hi,?_⟩;unfold rngP at h;rw[List.getElem?_map,List.getElem?_range hi]at h;exact(Option.some.inj h).symm
noncomputable def zbn (t:TPA):TPI:=λρ Q=>t ρ λops=>∃j:Int,ops.map (·.1)=[.int j]/\-(2 ^ 62)<=j/\j<2 ^ 62/\Q (rngP 0 j.toNat) false
theorem znD {K:PySem.W.Frag}{Fz:FZ}{lo:Int}{n:Nat}{H:Hp}:Walk K Fz false (Itr lo n) (rngP lo n) H:=λH2 _ i=>by
 refine⟨λd hd=>?_,λhi=>by rw[zbT]at hi;exact hi⟩;obtain⟨h1,rfl⟩:=zct hd;exact⟨h1,λx H3 ⟨e,y⟩=>by subst e y;exact⟨Same.refl _,by simp only[Den]⟩⟩
section
variable {X:Cx}{tg a b:Expr}{t:TPA}{p pos:Pos}
theorem zbK (hg:Gl X "range") (hm:X.mg "range" = none) (ha:PuA X [a] t) (hs:starEach [a] X.env=[(false,eval a X.env)]:=by rfl):PuI X tg (.Call (.Name "range" p) [a] [] pos) (zbn t) where
 mono ρ Q Q' m h:=ha.mono ρ _ _ (λops ⟨j,e,h1,h2,q⟩=>⟨j,e,h1,h2,m _ _ q⟩) h
 run:=PI.weak (zkU hg hm ha.run hs) λσ H Rr h=>by
  obtain⟨ρ,Fz,R,h⟩:=h;refine⟨ρ,Fz,R,ha.mono ρ _ _ (λops q vs Fz' H' x o=>?_) h⟩;obtain⟨j,e,h1,h2,q⟩:=q;have rl:=o.root R x;rw[e]at rl;cases rl with
  | cons r1 r2=>
   cases r2;exact⟨j,by rw[zat r1],h1,h2,q _ Fz' H' x znD⟩
end
noncomputable def pFor (ti:TPI)(g:TPG)(tb:TPS):TPS:=λρ O=>ti ρ λits o=>o=false/\∃Inv:Nat->PEnv->Prop,Inv 0 ρ/\
 (∀i d ρ',its[i]? = some d->Inv i ρ'->g d ρ' (Hold tb { O with nx:=Inv (i+1),ct:=Inv (i+1),bk:=O.nx }))/\∀ρ',Inv its.length ρ'->O.nx ρ'
theorem Step.kept {K:PySem.W.Frag}{ρ:PEnv}{σ:St}{Fz Fz':FZ}{H H':Hp}(R:Rel K Fz ρ σ H)(s:Step ρ σ Fz H Fz' H'):ziz Fz H H':=λb o e w=>by
 refine s.keep b o e λ⟨i,d,h1,h2⟩=>?_;obtain⟨a,q1,q2,q3⟩:=R.own i d h1;rw[h2]at q1;cases q1;rcases w with w | w
 ·exact q2 w
 ·obtain⟨o',q4,q5⟩:=q3.at;rw[e]at q4;cases q4;exact q5 w
section
variable {X:Cx}{tg iter c:Expr}{body:List Stmt}{ti:TPI}{g:TPG}{tb:TPS}{tc:TPT}{pos:Pos}
theorem zgk (hgm:∀d ρ Q Q',(∀ρ,Q ρ->Q' ρ)->g d ρ Q->g d ρ Q')(hbm:∀ρ O O',POut.le O O'->tb ρ O->tb ρ O'){K:PySem.W.Frag}{ρ:PEnv}{σ:St}{Fz1:FZ}{H1:Hp}{D:Ends}{J:It}{its:List PV}{O:POut}(R1:Rel K Fz1 ρ σ H1)(wk:Walk K Fz1 false J its H1)(Iv:Nat->PEnv->Prop)(h0:Iv 0 ρ)
  (hstep:∀i d ρ',its[i]? = some d->Iv i ρ'->g d ρ' (Hold tb { O with nx:=Iv (i+1),ct:=Iv (i+1),bk:=O.nx })) (hO:O.le (zeH K D ρ σ Fz1 H1)) (hdone:∀ρ',Iv its.length ρ'->O.nx ρ') :
  ∃W:Nat->Nat->St->Hp->Prop,(∃m,W 0 m σ H1)/\∀i m σ H,W i m σ H->
   (J.stop i H/\D.nx σ H)\/(J.go i H/\∃N:St->Hp->Prop,(∀σ' H',N σ' H'->∃m',m'<m/\W (i+1) m' σ' H')/\∀x H',J.yld i H x H'->zlE K g x σ H' λσ2 H2=>znB K tb { D with nx:=N,ct:=N,bk:=D.nx } σ2 H2):=by
 refine⟨λi m σ' H'=>m=its.length-i/\i<=its.length/\∃ρ' F',Rel K F' ρ' σ' H'/\Iv i ρ'/\Step ρ σ Fz1 H1 F' H'/\zar ρ σ H1 ρ' σ',
  ⟨its.length,by lia,Nat.zero_le _,ρ,Fz1,R1,h0,.of ⟨Same.refl _,λ_ h=>h,λ_ h=>.inl h,R1.al⟩,zar.refl ρ σ H1⟩,?_⟩
 rintro i m σ' H' ⟨rfl,hle,ρ',F',R',hI,s',o'⟩;have kp:ziz Fz1 H1 H':=s'.kept R1;obtain⟨wgo,wstop⟩:=wk H' (.inr ⟨rfl,kp⟩) i;by_cases hlt:i<its.length
 ·obtain⟨go,yl⟩:=wgo its[i] (List.getElem?_eq_getElem hlt);refine .inr ⟨go,λσ2 H2=>∃ρ2 F2,Rel K F2 ρ2 σ2 H2/\Iv (i+1) ρ2/\Step ρ σ Fz1 H1 F2 H2/\zar ρ σ H1 ρ2 σ2,λσ2 H2 hN=>⟨its.length-(i+1),by lia,rfl,hlt,hN⟩,λxv H2 y=>?_⟩;obtain⟨sm,dn⟩:=yl xv H2 y;have x2:Ext F' H' F' H2:=⟨sm,λ_ h=>h,λ_ h=>.inl h,λb hb z=>R'.al b hb (sm.free z)⟩;refine⟨ρ',F',its[i],R'.ext x2,Den.mono (Keep.of (Same.refl _)) s'.sub _ _ dn,hgm _ ρ' _ _ (λρ2 q σ2 R2 o2=>?_) (hstep i its[i] ρ' (List.getElem?_eq_getElem hlt) hI)⟩;have so:zar ρ σ H1 ρ2 σ2:=λb hb=>o' b (o2 b hb);have st:Step ρ σ Fz1 H1 F' H2:=s'.trans o' (.of x2);refine⟨ρ2,F',R2,hbm ρ2 { O with nx:=Iv (i+1),ct:=Iv (i+1),bk:=O.nx } _ ⟨λρ3 q σ3 F3 H3 s3 o3 R3=>?_,λd k q v F3 H3 s3 al r=>?_,λρ3 q σ3 F3 H3 s3 o3 R3=>?_,λρ3 q σ3 F3 H3 s3 o3 R3=>?_⟩ q⟩
  ·exact⟨ρ3,F3,R3,q,st.trans so s3,zar.trans st so o3⟩
  ·refine hO.rt d k q v F3 H3 (st.trans so s3) al ?_;cases k with
   | frz=>exact r
   | own j=>exact r
   | new=>
    obtain⟨a,e,nf,ow,w⟩:=r;refine⟨a,e,nf,ow,?_⟩;rcases w with w | w
    ·exact so a w
    ·exact(st.none w).symm
  ·exact hO.nx ρ3 q σ3 F3 H3 (st.trans so s3) (zar.trans st so o3) R3
  ·exact⟨ρ3,F3,R3,q,st.trans so s3,zar.trans st so o3⟩
 ·have e:i=its.length:=by lia
  subst e;exact .inl ⟨wstop (Nat.le_refl _),hO.nx ρ' (hdone ρ' hI) σ' F' H' s' o' R'⟩
theorem zhm (him:∀ρ Q Q',(∀its o,Q its o->Q' its o)->ti ρ Q->ti ρ Q')(hgm:∀d ρ Q Q',(∀ρ,Q ρ->Q' ρ)->g d ρ Q->g d ρ Q')(hbm:∀ρ O O',POut.le O O'->tb ρ O->tb ρ O'):∀ρ O O',POut.le O O'->pFor ti g tb ρ O->pFor ti g tb ρ O':=λρ O O' m h=>
 him ρ _ _ (λits o ⟨e,I,h0,hs,hd⟩=>⟨e,I,h0,λi d ρ' hi hI=>hgm d ρ' _ _ (λρ2 q=>hbm ρ2 { O with nx:=I (i+1),ct:=I (i+1),bk:=O.nx } _ ⟨λ_ q=>q,m.rt,m.nx,λ_ q=>q⟩ q) (hs i d ρ' hi hI),λρ' hI=>m.nx _ (hd ρ' hI)⟩) h
theorem zbQ (hc:X.calm=true)(hp:PassesOwn (model X.prog X.w) X.A X.env X.xe)(hi:PuI X tg iter ti)(hg:PuG X tg g)(hb:PuSs X body tb)(hs:∀x,foldedSetIterable iter X.env x=pure x:=by intro _;rfl):PuS X (.For tg iter body [] pos) (pFor ti g tb) where
 mono:=zhm hi.mono hg.mono hb.mono
 run:=PS.weak (zjc hp hc hi.run hg.run hb.run hs) λD σ H h=>by
  obtain⟨ρ,Fz,R,h⟩:=h;refine⟨ρ,Fz,R,hi.mono ρ _ _ (λits o q J Fz1 H1 x wk=>?_) h⟩;obtain⟨rfl,Iv,h0,hstep,hdone⟩:=q;exact zgk hg.mono hb.mono (R.ext x) wk Iv h0 hstep (zci (.of x) (zar.refl ρ σ H)) hdone
end
theorem _root_.L2.Same.upd' {H H':Hp}{l:Addr}{o:HO}(s:Same H H')(h:H l=none):Same H (L2.upd H' l o):=λb u e=>by
 rw[zaf (zau e h)];exact s b u e
structure PuTs (X:Cx)(ifs:List Expr)(t:TPT):Prop where
 mono:∀ρ Q Q',(∀b,Q b->Q' b)->t ρ Q->t ρ Q'
 run:PTs X ifs (liftT X.K t)
noncomputable def zdv:TPT:=λ_ Q=>Q true
theorem PTs.weak {X:Cx}{e:List Expr}{t t':TT}(h:PTs X e t)(w:∀σ H Q,t' σ H Q->t σ H Q):PTs X e t':=λpins s σ H Q I q=>h pins s σ H Q I (w σ H Q q)
theorem zbo {X:Cx}:PuTs X [] zdv where
 mono ρ Q Q' m h:=m _ h
 run:=PTs.weak zlk λσ H Q h=>by
  obtain⟨ρ,Fz,R,h⟩:=h;exact h Fz H ⟨Same.refl H,λ_ h=>h,λ_ h=>.inl h,R.al⟩
theorem zcN {X:Cx}{c:Expr}{t:TPT}(h:PuT X c t):PuTs X [c] t:=⟨h.mono,zpd h.run⟩
noncomputable def blkP (k:Nat)(js:List Nat)(ρ:PEnv):PEnv:=List.replicate k none++js.map λj=>(ρ[j]?).getD none
noncomputable def zcB (k:Nat)(js:List Nat)(ti:TPI)(g:TPG)(tt:TPT)(te:TPE):TPE:=λρ Q=>ti ρ λits _=>its.length<=sizeLine/\∃Pv:Nat->List PV->Prop,Pv 0 []/\
 (∀i d out,its[i]? = some d->out.length<=i->Pv i out->g d (blkP k js ρ) λρ2=>tt ρ2 λb=>if b=true then te ρ2 λe ke=>isOwn ke=false/\Pv (i+1) (out++[e]) else Pv (i+1) out)/\
 ∀out,out.length<=its.length->Pv its.length out->Q (.lst out) .new
structure PBlk (X:Cx)(N:List Str)(sc:Scope)(tg:Expr)(ifs:List Expr)(elt:Expr)(g:TPG)(tt:TPT)(te:TPE):Prop where
 tgt:∀C cells fp s H,PuG (cxB X N sc C cells fp s H) tg g
 tst:∀C cells fp s H,PuTs (cxB X N sc C cells fp s H) ifs tt
 val:∀C cells fp s H,PuE (cxB X N sc C cells fp s H) elt te
theorem PBlk.blk {X:Cx}{N:List Str}{sc:Scope}{tg:Expr}{ifs:List Expr}{elt:Expr}{g:TPG}{tt:TPT}{te:TPE}(B:PBlk X N sc tg ifs elt g tt te):Blk X N sc tg ifs elt (zlE X.K g) (liftT X.K tt) (lift X.K te):=
 ⟨λC cells fp s H=>(B.tgt C cells fp s H).run,λC cells fp s H=>(B.tst C cells fp s H).run,λC cells fp s H=>(B.val C cells fp s H).run⟩
theorem zdd {k:Nat}{js:List Nat}{ρ:PEnv}{i:Nat}{d:PV}{b:Bool}(h:(blkP k js ρ)[i]? = some (some (d,b))):∃i' j,i=k+i'/\js[i']? = some j/\ρ[j]? = some (some (d,b)):=by
 unfold blkP at h;have hik:k<=i:=by
  by_cases hik:k<=i
  ·exact hik
  ·rw[List.getElem?_append_left (by simp;lia),List.getElem?_replicate]at h;split at h<;>cases h
 obtain⟨i',rfl⟩:∃i',i=k+i':=⟨i-k,by lia⟩;rw[List.getElem?_append_right (by simp),List.length_replicate,show k+i'-k=i' by lia,List.getElem?_map]at h;cases hj:js[i']? with
 | none=>rw[hj]at h;cases h
 | some j=>
  rw[hj]at h;refine⟨i',j,rfl,hj,?_⟩;have h':(ρ[j]?).getD none=some (d,b):=Option.some.inj h;cases q:ρ[j]? with
  | none=>rw[q]at h';cases h'
  | some o=>rw[q]at h';exact congrArg some h'
theorem zcF {k:Nat}{js:List Nat}{σ:St}{i' j:Nat}{o:Option V}(hj:js[i']? = some j)(h:σ[j]? = some o):(zdk k js σ)[k+i']? = some o:=by
 unfold zdk;rw[List.getElem?_append_right (by simp),List.length_replicate,show k+i'-k=i' by lia,List.getElem?_map,hj];show some ((σ[j]?).getD none)=_;rw[h];rfl
theorem Rel.block {K:PySem.W.Frag}{Fz:FZ}{ρ:PEnv}{σ:St}{H:Hp}{k:Nat}{js:List Nat}(R:Rel K Fz ρ σ H)(nd:js.Nodup):Rel K Fz (blkP k js ρ) (zdk k js σ) H where
 al:=R.al
 len:=by unfold blkP zdk;simp
 frz i d h:=by
  obtain⟨i',j,rfl,hj,h⟩:=zdd h;obtain⟨v,e,q⟩:=R.frz j d h;exact⟨v,zcF hj e,q⟩
 own i d h:=by
  obtain⟨i',j,rfl,hj,h⟩:=zdd h;obtain⟨a,e,n,q⟩:=R.own j d h;exact⟨a,zcF hj e,n,q⟩
 inj i1 i2 d e a h1 h2 h3 h4:=by
  obtain⟨i',j,rfl,hj,h1⟩:=zdd h1;obtain⟨i'',j',rfl,hj',h2⟩:=zdd h2;obtain⟨a1,e1,_,_⟩:=R.own j d h1;obtain⟨a2,e2,_,_⟩:=R.own j' e h2;rw[zcF hj e1]at h3;rw[zcF hj' e2]at h4;have ea1:a1=a:=by have:=Option.some.inj (Option.some.inj h3);injection this
  have ea2:a2=a:=by have:=Option.some.inj (Option.some.inj h4);injection this
  subst ea1;subst ea2;have ej:=R.inj j j' d e _ h1 h2 e1 e2;subst ej;have l1:i'<js.length:=(List.getElem?_eq_some_iff.mp hj).1;have e1':i'=i'':=(List.getElem?_inj l1 nd).mp (hj.trans hj'.symm);rw[e1']
theorem zpm {ρ:PEnv}{σ:St}{k:Nat}{js:List Nat}{Fz:FZ}{K:PySem.W.Frag}{H:Hp}(R:Rel K Fz ρ σ H){b:Addr}(h:zax (blkP k js ρ) (zdk k js σ) b):zax ρ σ b:=by
 obtain⟨i,d,h1,h2⟩:=h;obtain⟨i',j,rfl,hj,h1⟩:=zdd h1;obtain⟨a1,e1,_,_⟩:=R.own j d h1;rw[zcF hj e1]at h2;cases h2;exact⟨j,d,h1,e1⟩
theorem Rel.zlF {K:PySem.W.Frag}{Fz:FZ}{ρ ρ':PEnv}{σ:St}{H:Hp}{k:Nat}{js:List Nat}(R:Rel K Fz ρ' σ H)(hl:ρ'.length=(blkP k js ρ).length)(hs:∀j,k<=j->ρ'[j]? = (blkP k js ρ)[j]?):Rel K Fz (blkP k js ρ) σ H:=by
 have tr:∀i d b,(blkP k js ρ)[i]? = some (some (d,b))->ρ'[i]? = some (some (d,b)):=λi d b h=>by
  obtain⟨i',j,rfl,_⟩:=zdd h;rw[hs _ (by lia)];exact h
 exact⟨R.al,by rw[<- hl];exact R.len,λi d h=>R.frz i d (tr _ _ _ h),λi d h=>R.own i d (tr _ _ _ h),λi j d e a h1 h2=>R.inj i j d e a (tr _ _ _ h1) (tr _ _ _ h2)⟩
theorem Rel.other {K:PySem.W.Frag}{Fz:FZ}{ρ:PEnv}{σ:St}{H:Hp}{l:Addr}{o u:HO}(R:Rel K Fz ρ σ H)(h:H l=some u)(hi:¬ Imm u)(nf:¬ Fz l)(no:¬ zax ρ σ l):Rel K Fz ρ σ (upd H l o):=by
 have kp:Keep Fz H (upd H l o):=.mk' λb w e hw=>by
  have ne:b≠l:=λz=>by
   subst z;rcases hw with hw | hw
   ·exact nf hw
   ·rw[h]at e;cases e;exact hi hw
  rw[zaf ne];exact e
 refine⟨λb hb=>?_,R.len,λi d e=>?_,λi d e=>?_,R.inj⟩
 ·have ne:b≠l:=λz=>by subst z;exact nf hb
  rw[zaf ne];exact R.al b hb
 ·obtain⟨v,q1,q2⟩:=R.frz i d e;exact⟨v,q1,Den.mono kp (λ_ h=>h) _ _ q2⟩
 ·obtain⟨a,q1,q2,q3⟩:=R.own i d e;refine⟨a,q1,q2,q3.mono kp (λ_ h=>h) λw hw=>?_⟩;have ne:a≠l:=λz=>by subst z;exact no ⟨i,d,e,q1⟩
  rw[zaf ne];exact hw
section
variable {X:Cx}{elt tg iter:Expr}{ifs:List Expr}{sc:Scope}{pos:Pos}{N:List Str}{k:Nat}{js:List Nat}{ti:TPI}{g:TPG}{tt:TPT}{te:TPE}
theorem zlG (hi:PuI X tg iter ti)(B:PBlk X N sc tg ifs elt g tt te):∀ρ Q Q',(∀d k,Q d k->Q' d k)->zcB k js ti g tt te ρ Q->zcB k js ti g tt te ρ Q':=
 λρ Q Q' m h=>hi.mono ρ _ _ (λits o ⟨hz,Pv,h0,hs,hd⟩=>⟨hz,Pv,h0,hs,λout hl hp=>m _ _ (hd out hl hp)⟩) h
theorem zlH (nd:js.Nodup)(hloc:LocG k g)(B:PBlk X N sc tg ifs elt g tt te){ρ:PEnv}{σ:St}{H H1:Hp}{Fz1:FZ}{o:Bool}{J:It}{its:List PV}{l:Addr}{Rr:Hp->Prop}(R1:Rel X.K Fz1 ρ σ H1)(wk:Walk X.K Fz1 o J its H1)(hl:H1 l=none)(hz:its.length<=sizeLine)(Pv:Nat->List PV->Prop)(h0:Pv 0 [])
  (hstep:∀i d out,its[i]? = some d->out.length<=i->Pv i out->g d (blkP k js ρ) λρ2=>tt ρ2 λb=>if b=true then te ρ2 λe ke=>isOwn ke=false/\Pv (i+1) (out++[e]) else Pv (i+1) out)
  (hdone:∀F' out xs H',Ext Fz1 H1 F' H'->H' l=some (.lst xs)->DenL X.K F' H' out xs->¬ F' l->out.length<=its.length->Pv its.length out->Rr H') :
  zll J (zlE X.K g) (liftT X.K tt) (lift X.K te) l (zdk k js σ) H1 Rr:=by
 have mg:=(B.tgt 0 [] [] X.s₀ H).mono;have mt:=(B.tst 0 [] [] X.s₀ H).mono;have me:=(B.val 0 [] [] X.s₀ H).mono;have nf1:¬ Fz1 l:=λz=>R1.al l z hl;have no1:¬ zax ρ σ l:=λ⟨i,d,h1,h2⟩=>by
  obtain⟨a,q1,_,q3⟩:=R1.own i d h1;rw[h2]at q1;cases q1;obtain⟨o',q4,_⟩:=q3.at;rw[hl]at q4;cases q4
 refine⟨λi m σ' H'=>m=its.length-i/\i<=its.length/\∃F' out xs,Rel X.K F' (blkP k js ρ) σ' H'/\(∀b,zax (blkP k js ρ) σ' b->zax ρ σ b)/\H' l=some (.lst xs)/\DenL X.K F' H' out xs/\¬ F' l/\out.length<=i/\Pv i out/\Same H1 H'/\(∀b,Fz1 b->F' b)/\(∀b,F' b->Fz1 b\/H1 b=none),
  ⟨its.length,by lia,Nat.zero_le _,Fz1,[],[],?_,λb hb=>zpm R1 hb,zag,DenL.nil,nf1,Nat.zero_le _,h0,(Same.refl H1).upd' hl,λ_ h=>h,λ_ h=>.inl h⟩,?_⟩
 ·have x0:Ext Fz1 H1 Fz1 (upd H1 l (.lst [])):=Ext.laid ⟨Same.refl _,λ_ h=>h,λ_ h=>.inl h,R1.al⟩ hl;exact(R1.block nd).ext x0
 rintro i m σ' H' ⟨rfl,hle,F',out,xs,Rb,ob,hlx,hout,nfl,hol,hP,sm,s1,s2⟩;obtain⟨wgo,wstop⟩:=wk H' (.inl sm) i;by_cases hlt:i<its.length
 ·obtain⟨go,yl⟩:=wgo its[i] (List.getElem?_eq_getElem hlt);refine .inr ⟨go,λxv H2 y=>?_⟩;obtain⟨sm2,dn⟩:=yl xv H2 y;have x2:Ext F' H' F' H2:=⟨sm2,λ_ h=>h,λ_ h=>.inl h,λb hb z=>Rb.al b hb (sm2.free z)⟩;refine⟨blkP k js ρ,F',its[i],Rb.ext x2,Den.mono (Keep.of (Same.refl _)) s1 _ _ dn,mg _ _ _ _ (λρ2 ⟨q,l2,a2⟩ σ2 R2 o2=>?_) (hloc _ _ _ (hstep i its[i] out (List.getElem?_eq_getElem hlt) hol hP))⟩;refine⟨ρ2,F',R2,mt ρ2 _ _ (λb q F4 H4 x4=>?_) q⟩;have R4:Rel X.K F4 ρ2 σ2 H4:=R2.ext x4;have own2:∀b,zax (blkP k js ρ) σ2 b->zax ρ σ b:=λb ⟨j,d,h1,h2⟩=>by
   refine ob b (o2 b ⟨j,d,?_,h2⟩);obtain⟨i',j',e,_⟩:=zdd h1;rw[a2 j (by lia)];exact h1
  have hl4:H4 l=some (.lst xs):=x4.same _ _ (sm2 _ _ hlx);have nf4:¬ F4 l:=λz=>by
   rcases x4.new l z with z | z
   ·exact nfl z
   ·rw[sm2 _ _ hlx]at z;cases z
  cases b with
  | false=>
   rw[if_neg Bool.false_ne_true]at q;refine iteF ⟨its.length-(i+1),by lia,rfl,hlt,F4,out,xs,Rel.zlF R4 l2 a2,own2,hl4,DenL.mono (.of (sm2.trans x4.same)) x4.sub _ _ hout,nf4,by lia,q,sm.trans (sm2.trans x4.same),λb hb=>x4.sub b (s1 b hb),λb hb=>?_⟩;rcases x4.new b hb with z | z
   ·exact s2 b z
   ·exact .inr (sm.free (sm2.free z))
  | true=>
   rw[if_pos rfl]at q;refine iteT ⟨ρ2,F4,R4,me ρ2 _ _ (λe ke ⟨hk,q⟩ v F5 H5 p5=>?_) q⟩;have hk':ke=.frz\/ke=.new:=by
    cases ke with
    | frz=>exact .inl rfl
    | new=>exact .inr rfl
    | own j=>cases hk
   obtain⟨F6,x6,s6,d6⟩:=p5.frozen hk';have hl5:H5 l=some (.lst xs):=x6.same _ _ hl4;have nf6:¬ F6 l:=λz=>by
    rcases x6.new l z with z | z
    ·exact nf4 z
    ·rw[hl4]at z;cases z
   have R6:Rel X.K F6 ρ2 σ2 H5:=R4.ext x6;have Rb6:Rel X.K F6 (blkP k js ρ) σ2 H5:=Rel.zlF R6 l2 a2;have no6:¬ zax (blkP k js ρ) σ2 l:=λz=>no1 (own2 l z);have kp:Keep F6 H5 (upd H5 l (.lst (xs++[v]))):=.mk' λb w e hw=>by
    have ne:b≠l:=λz=>by
     subst z;rcases hw with hw | hw
     ·exact nf6 hw
     ·rw[hl5]at e;cases e;exact hw
    rw[zaf ne];exact e
   have hxl:=hout.length;refine⟨xs,hl5,by lia,its.length-(i+1),by lia,rfl,hlt,F6,out++[e],xs++[v],Rb6.other hl5 (λz=>z) nf6 no6,own2,zag,?_,nf6,by rw[List.length_append];simp;lia,q,?_,λb hb=>x6.sub b (x4.sub b (s1 b hb)),λb hb=>?_⟩
   ·exact DenL.mono kp (λ_ h=>h) _ _ (DenL.snoc (DenL.mono (.of (sm2.trans (x4.same.trans x6.same))) (λb hb=>x6.sub b (x4.sub b hb)) _ _ hout) d6)
   ·exact(sm.trans (sm2.trans (x4.same.trans x6.same))).upd' hl
   ·rcases x6.new b hb with z | z
    ·rcases x4.new b z with z | z
     ·exact s2 b z
     ·exact .inr (sm.free (sm2.free z))
    ·exact .inr (sm.free (sm2.free (x4.same.free z)))
 ·have e:i=its.length:=by lia
  subst e;exact .inl ⟨wstop (Nat.le_refl _),hdone F' out xs H' ⟨sm,s1,s2,Rb.al⟩ hlx hout nfl hol hP⟩
theorem zhn (nd:js.Nodup)(hloc:LocG k g)(hi:PuI X tg iter ti)(B:PBlk X N sc tg ifs elt g tt te){σ:St}{H:Hp}{Q:VK}(h:lift X.K (zcB k js ti g tt te) σ H Q) :
  zpe k js (zru X.K ti) (zlE X.K g) (liftT X.K tt) (lift X.K te) σ H Q:=by
 obtain⟨ρ,Fz,R,h⟩:=h;refine⟨ρ,Fz,R,hi.mono ρ _ _ (λits o q J Fz1 H1 x wk l hl=>?_) h⟩;obtain⟨hz,Pv,h0,hstep,hdone⟩:=q;refine zlH (H:=H) nd hloc B (R.ext x) wk hl hz Pv h0 hstep λF' out xs H' x' hlx hout nfl hol hP=>?_;exact hdone out hol hP _ F' H' ⟨x.trans x',l,rfl,x.same.free hl,nfl,xs,hlx,hout⟩
theorem zaR (hc:X.calm=true)(S:zcr X N k js sc)(nd:js.Nodup)(hloc:LocG k g)(hi:PuI X tg iter ti)(B:PBlk X N sc tg ifs elt g tt te)(hs:∀x,foldedSetIterable iter X.env x=pure x:=by intro _;rfl) :
  PuE X (.ListComp elt [⟨tg,iter,ifs,0⟩] sc pos) (zcB k js ti g tt te):=
 ⟨zlG hi B,PE.weak (zpf hc S hi.run B.blk hs) λ_ _ _ h=>zhn nd hloc hi B h⟩
theorem zjt {i:Nat}{x:Str}{pos' pos2:Pos}(hc:X.calm=true)(S:zcr X N k js sc)(nd:js.Nodup)(hloc:LocG k g)(hi:PuI X tg iter ti)(B:PBlk X N sc tg ifs elt g tt te)(hN:X.N.Nodup)(hx:X.N[i]? = some x)(hk:X.env.scope.names.lookup x=some .local)
  (hsw:swapsWith (.ListComp elt [⟨tg,iter,ifs,0⟩] sc pos) (some (.Name x pos')) pos2.line X.env=pure true:=by rfl) (hs:∀x,foldedSetIterable iter X.env x=pure x:=by intro _;rfl) :
  PuS X (.Assign [.Name x pos'] (.ListComp elt [⟨tg,iter,ifs,0⟩] sc pos) pos2) (pSet i (zcB k js ti g tt te)) where
 mono:=zhl (zaR (pos:=pos) hc S nd hloc hi B hs)
 run:=PS.weak (zlm hc S hi.run B.blk hN hx hk hsw hs) λD σ H h=>by
  have q:=zjs (zaR (pos:=pos) hc S nd hloc hi B hs) h;exact zhn nd hloc hi B q
end
noncomputable def zbe (N:List Str)(ds:List PV):PEnv:=ds.map (λd=>some (d,false))++List.replicate (N.length-ds.length) none
noncomputable def zbU (Q:PV->Kd->Prop):POut:=⟨λ_=>Q .non .frz,Q,λ_=>False,λ_=>False⟩
theorem zpn {K:PySem.W.Frag}{F:PF}{ps:List Str}(h:∀ds Q,F ds Q->ds.length=ps.length):∀vs H Q E,spP K F vs H Q E->vs.length=ps.length:=λvs H Q E ⟨Fz,ds,_,hd,q⟩=>by rw[<- hd.length];exact h _ _ q
theorem zlI {K:PySem.W.Frag}{Fz:FZ}{H:Hp}{N:List Str}{ds:List PV}{vs:List V}(al:∀b,Fz b->H b≠none)(h:DenL K Fz H ds vs):Rel K Fz (zbe N ds) (start N vs) H/\∀σ b,¬ zax (zbe N ds) σ b:=by
 have hl:=h.length;have get:∀(i:Nat) (d:PV) (b:Bool),(zbe N ds)[i]? = some (some (d,b))->b=false/\ds[i]? = some d:=λi d b e=>by
  unfold zbe at e;by_cases hi:i<ds.length
  ·rw[List.getElem?_append_left (by simpa using hi),List.getElem?_map,List.getElem?_eq_getElem hi]at e;have e':(some (ds[i],false):Option (PV×Bool))=some (d,b):=Option.some.inj e;have e2:=Option.some.inj e';exact⟨(congrArg Prod.snd e2).symm,by rw[List.getElem?_eq_getElem hi];exact congrArg some (congrArg Prod.fst e2)⟩
  ·rw[List.getElem?_append_right (by simpa using hi),List.getElem?_replicate]at e;split at e<;>cases e
 refine⟨⟨al,by unfold zbe L2.start;simp[hl],λi d e=>?_,λi d e=>?_,λi j d e a h1=>?_⟩,λσ b ⟨i,d,e,_⟩=>?_⟩
 ·obtain⟨_,e'⟩:=get i d false e;obtain⟨v,q1,q2⟩:=h.get e';have hi:i<vs.length:=(List.getElem?_eq_some_iff.mp q1).1;refine⟨v,?_,q2⟩;unfold L2.start;rw[List.getElem?_append_left (by simpa using hi),List.getElem?_map,q1];rfl
 ·exact absurd (get i d true e).1 (by decide)
 ·exact absurd (get i d true h1).1 (by decide)
 ·exact absurd (get i d true e).1 (by decide)
section
variable {P:Program}{w:World}{K:PySem.W.Frag}{mg:Str->Option Value}{base:Heap}
theorem zaL {x qual:Str}{st:Stmt}{f:Addr}{fd:FuncData}{N ps:List Str}{k:Nat}{F:PF}(Fn:Fun K x qual st f fd)(S:zaC N ps (zac st))(len:∀ds Q,F ds Q->ds.length=ps.length)
  (hbody:∀(cdv:Value) (A:Around) (outer:List Env) (s:Shared) (H:Hp) (E:XK),Room k (A.deeper (envOfC qual (zac st) s.heap.objs.size f cdv))->
   ∃t,PuSs (cxOf CX0 P w K mg base N qual (zac st) f cdv A outer s H E).nox (zas st) t/\∀ds Q,F ds Q->t (zbe N ds) (zbU Q)):FnOk P w K mg base CX0 (k+1) f fd ps (spP K F):=by
 refine Fn.ok S (zpn len) (λcdv A outer s H vs Q E hr h=>?_);obtain⟨t,ht,hq⟩:=hbody cdv A outer s H E hr;obtain⟨Fz,ds,al,hd,h⟩:=h;obtain⟨R,no⟩:=zlI (N:=N) al hd;refine⟨_,ht.run,zbe N ds,Fz,R,ht.mono _ (zbU _) _ ⟨λρ' q σ' F' H' s' o' R'=>?_,λd k q v F' H' s' al' r=>?_,λ_ z=>z.elim,λ_ z=>z.elim⟩ (hq ds _ h)⟩
 ·exact q .non F' H' ⟨⟨λb o e=>s'.keep b o e (no _ b),s'.sub,λb hb=>(s'.new b hb).elim .inl (λz=>z.elim .inr (λz=>(no _ b z).elim)),R'.al⟩,by show Den _ _ _ _ _;simp only[Den]⟩
 ·refine q v F' H' ⟨⟨λb o e=>s'.keep b o e (no _ b),s'.sub,λb hb=>(s'.new b hb).elim .inl (λz=>z.elim .inr (λz=>(no _ b z).elim)),al'⟩,?_⟩;cases k with
  | frz=>exact r
  | own i=>exact r.elim
  | new=>
   obtain⟨a,e,nf,o,w⟩:=r;exact⟨a,e,w.resolve_left (no _ a),nf,o⟩
end
theorem Rel.mut {K:PySem.W.Frag}{Fz:FZ}{ρ:PEnv}{σ:St}{H:Hp}{i:Nat}{d d':PV}{a:Addr}{o u:HO}(R:Rel K Fz ρ σ H)(hi:ρ[i]? = some (some (d,true)))(hs:σ[i]? = some (some (.ref a)))(hu:H a=some u)
  (ho:Own K Fz (upd H a o) d' a):Rel K Fz (ρ.set i (some (d',true))) σ (upd H a o)/\Step ρ σ Fz H Fz (upd H a o)/\zar ρ σ H (ρ.set i (some (d',true))) σ:=by
 obtain⟨a',e',nf,ow⟩:=R.own i d hi;rw[hs]at e';cases e';have hil:i<ρ.length:=(List.getElem?_eq_some_iff.mp hi).1;have im:¬ Imm u:=by obtain⟨o',q1,q2⟩:=ow.at;rw[hu]at q1;cases q1;exact q2
 have kp:Keep Fz H (upd H a o):=.mk' λb w e hw=>by
  have ne:b≠a:=λz=>by
   subst z;rcases hw with hw | hw
   ·exact nf hw
   ·rw[hu]at e;cases e;exact im hw
  rw[zaf ne];exact e
 have st:∀j e,(ρ.set i (some (d',true)))[j]? = some (some (e,true))->∃e0,ρ[j]? = some (some (e0,true)):=λj e h=>by
  by_cases hij:i=j
  ·subst hij;exact⟨d,hi⟩
  ·rw[List.getElem?_set_ne hij]at h;exact⟨e,h⟩
 refine⟨⟨λb hb=>?_,by rw[List.length_set];exact R.len,λj e h=>?_,λj e h=>?_,λj k e1 e2 b h1 h2 h3 h4=>?_⟩,⟨λ_ h=>h,λ_ h=>.inl h,λb w e n=>?_⟩,λb ⟨j,e,h1,h2⟩=>?_⟩
 ·have ne:b≠a:=λz=>by subst z;exact nf hb
  rw[zaf ne];exact R.al b hb
 ·by_cases hij:i=j
  ·subst hij;rw[List.getElem?_set_self hil]at h;cases h
  ·rw[List.getElem?_set_ne hij]at h;obtain⟨v,q1,q2⟩:=R.frz j e h;exact⟨v,q1,Den.mono kp (λ_ h=>h) _ _ q2⟩
 ·by_cases hij:i=j
  ·subst hij;rw[List.getElem?_set_self hil]at h;cases h;exact⟨a,hs,nf,ho⟩
  ·rw[List.getElem?_set_ne hij]at h;obtain⟨b,q1,q2,q3⟩:=R.own j e h;refine⟨b,q1,q2,q3.mono kp (λ_ h=>h) λw hw=>?_⟩;have ne:b≠a:=λz=>by subst z;exact hij (R.inj i j d e _ hi h hs q1)
   rw[zaf ne];exact hw
 ·obtain⟨e1',g1⟩:=st j e1 h1;obtain⟨e2',g2⟩:=st k e2 h2;exact R.inj j k e1' e2' b g1 g2 h3 h4
 ·have ne:b≠a:=λz=>by subst z;exact n ⟨i,d,hi,hs⟩
  rw[zaf ne];exact e
 ·obtain⟨e',g⟩:=st j e h1;exact .inl ⟨j,e',g,h2⟩
noncomputable abbrev TPM:=PEnv->(PV->PEnv->Prop)->Prop
noncomputable def liftM (K:PySem.W.Frag)(t:TPM):TE:=λσ H Q=>∃ρ Fz,Rel K Fz ρ σ H/\t ρ λd ρ'=>∀v Fz' H',Step ρ σ Fz H Fz' H'->zar ρ σ H ρ' σ->Rel K Fz' ρ' σ H'->Den K Fz' H' d v->Q v H'
structure PuM (X:Cx)(e:Expr)(t:TPM):Prop where
 mono:∀ρ Q Q',(∀d ρ,Q d ρ->Q' d ρ)->t ρ Q->t ρ Q'
 run:PE X e (liftM X.K t)
noncomputable def mApp (i:Nat)(te:TPE):TPM:=λρ Q=>∃ds,ρ[i]? = some (some (.lst ds,true))/\ds.length<sizeLine/\te ρ λd k=>isOwn k=false/\Q .non (ρ.set i (some (.lst (ds++[d]),true)))
noncomputable def zec (i:Nat)(te:TPM):TPM:=λρ Q=>∃ds0,ρ[i]? = some (some (.lst ds0,true))/\te ρ λd ρ'=>∃ds,ρ'[i]? = some (some (.lst ds,true))/\ds.length<sizeLine/\Q .non (ρ'.set i (some (.lst (ds++[d]),true)))
noncomputable def zck (i:Nat)(te:TPE):TPM:=λρ Q=>∃ds,ρ[i]? = some (some (.lst ds,true))/\te ρ λe _=>∃(j:Int)(k:Nat)(d:PV),e=.int j/\-(2 ^ 63)<=j/\j<2 ^ 63/\seqIndex? j ds.length=some k/\ds[k]? = some d/\Q d (ρ.set i (some (.lst (ds.eraseIdx k),true)))
noncomputable def zed (i:Nat)(te:TPE):TPM:=λρ Q=>∃ds,ρ[i]? = some (some (.lst ds,true))/\te ρ λd _=>∃es,d=.tup es/\ds.length+es.length<=sizeLine/\Q .non (ρ.set i (some (.lst (ds++es),true)))
theorem zcc {K:PySem.W.Frag}{Fz:FZ}{ρ:PEnv}{σ:St}{H:Hp}{i:Nat}{ds:List PV}(R:Rel K Fz ρ σ H)(h:ρ[i]? = some (some (.lst ds,true))):∃a xs,σ[i]? = some (some (.ref a))/\H a=some (.lst xs)/\DenL K Fz H ds xs/\¬ Fz a:=by
 obtain⟨a,e,nf,xs,h1,h2⟩:=R.own i _ h;exact⟨a,xs,e,h1,h2,nf⟩
theorem DenL.rew {K:PySem.W.Frag}{Fz:FZ}{H:Hp}{ds:List PV}{xs ys:List V}{a:Addr}{o:HO}(ha:H a=some (.lst ys))(nf:¬ Fz a)(h:DenL K Fz H ds xs):DenL K Fz (upd H a o) ds xs:=
 DenL.mono (.mk' λb w e hw=>by
  have ne:b≠a:=λz=>by
   subst z;rcases hw with hw | hw
   ·exact nf hw
   ·rw[ha]at e;cases e;exact hw
  rw[zaf ne];exact e) (λ_ h=>h) _ _ h
section
variable {X:Cx}{x:Str}{e:Expr}{te:TPE}{tm:TPM}{p apos cpos:Pos}
theorem zcl (i:Nat)(he:PuE X e te)(hN:X.N[i]? = some x:=by rfl)(hv:Vis X.env.scope x:=by first | exact Or.inl rfl | exact Or.inr (Or.inl rfl) | exact Or.inr (Or.inr rfl))(hd:(x == ("__debug__" : Str))=false:=by decide) (hcd:(x == ("__classdict__" : Str))=false:=by decide)
  (hbase:attributeBase (.Name x p) "append" X.env (eval (.Name x p) X.env)=eval (.Name x p) X.env:=by rfl)
  (hfew:((backTo cpos (starEach [e] X.env)).all (λx=>!x.1)&&(backToKw cpos (keywordEach [] X.env)).all (λx=>x.1.isSome)&&decide ([e].length+([]:List Keyword).length+(if ([]:List Keyword).isEmpty then 0 else 1)<30))=true:=by rfl)
  (hline:(apos.endLine == cpos.line)=true:=by rfl) (hs:starEach [e] X.env=(false,eval e X.env)::starEach [] X.env:=by rfl) (hplain:(backTo cpos (starEach [] X.env)).any (·.1)=false:=by rfl):PuM X (.Call (.Attribute (.Name x p) "append" apos) [e] [] cpos) (mApp i te) where
 mono ρ Q Q' m h:=by
  obtain⟨ds,e1,e2,h⟩:=h;exact⟨ds,e1,e2,he.mono ρ _ _ (λd k ⟨hk,q⟩=>⟨hk,m _ _ q⟩) h⟩
 run:=PE.weak (zks PySem.F.plainAttrs_list PySem.F.slot_list_append PySem.F.type_list_append zdj (zcC hN hv hd hcd) (zbA he.run zce hs) hbase hfew hline hs hplain) λσ H Q h=>by
  obtain⟨ρ,Fz,R,ds,e1,e2,h⟩:=h;obtain⟨a,xs,hs,ha,hd,nf⟩:=zcc R e1;refine⟨_,hs,.inl ⟨rfl,xs,SqL.of ha⟩,ρ,Fz,R,he.mono ρ _ _ (λd k q v F1 H1 p1=>?_) h⟩;obtain⟨hk,q⟩:=q;have hk':k=.frz\/k=.new:=by
   cases k with
   | frz=>exact .inl rfl
   | new=>exact .inr rfl
   | own j=>cases hk
  obtain⟨F2,x2,s2,d2⟩:=p1.frozen hk';have R2:=R.ext x2;obtain⟨a',xs',hs',ha',hd',nf'⟩:=zcc R2 e1;rw[hs]at hs';cases hs';have hl:=hd'.length;refine⟨a,xs',v,rfl,rfl,ha',by lia,?_⟩;have ow:Own X.K F2 (upd H1 a (.lst (xs'++[v]))) (.lst (ds++[d])) a:=⟨_,zag,(DenL.rew ha' nf' (DenL.snoc hd' d2))⟩;obtain⟨R3,s3,o3⟩:=R2.mut e1 hs ha' ow;exact q .non F2 _ ((Step.of x2).trans (zar.refl ρ σ H) s3) (zar.trans (Step.of x2) (zar.refl ρ σ H) o3) R3 (by simp only[Den])
theorem ziE (i:Nat)(he:PuM X e tm)(hN:X.N[i]? = some x:=by rfl)(hv:Vis X.env.scope x:=by first | exact Or.inl rfl | exact Or.inr (Or.inl rfl) | exact Or.inr (Or.inr rfl))(hd:(x == ("__debug__" : Str))=false:=by decide) (hcd:(x == ("__classdict__" : Str))=false:=by decide)
  (hbase:attributeBase (.Name x p) "append" X.env (eval (.Name x p) X.env)=eval (.Name x p) X.env:=by rfl)
  (hfew:((backTo cpos (starEach [e] X.env)).all (λx=>!x.1)&&(backToKw cpos (keywordEach [] X.env)).all (λx=>x.1.isSome)&&decide ([e].length+([]:List Keyword).length+(if ([]:List Keyword).isEmpty then 0 else 1)<30))=true:=by rfl)
  (hline:(apos.endLine == cpos.line)=true:=by rfl) (hs:starEach [e] X.env=(false,eval e X.env)::starEach [] X.env:=by rfl) (hplain:(backTo cpos (starEach [] X.env)).any (·.1)=false:=by rfl):PuM X (.Call (.Attribute (.Name x p) "append" apos) [e] [] cpos) (zec i tm) where
 mono ρ Q Q' m h:=by
  obtain⟨ds0,e0,h⟩:=h;exact⟨ds0,e0,he.mono ρ _ _ (λd ρ' ⟨ds,e1,e2,q⟩=>⟨ds,e1,e2,m _ _ q⟩) h⟩
 run:=PE.weak (zks PySem.F.plainAttrs_list PySem.F.slot_list_append PySem.F.type_list_append zdj (zcC hN hv hd hcd) (zbA he.run zce hs) hbase hfew hline hs hplain) λσ H Q h=>by
  obtain⟨ρ,Fz,R,ds0,e0,h⟩:=h;obtain⟨a,xs,hs,ha,hd,nf⟩:=zcc R e0;refine⟨_,hs,.inl ⟨rfl,xs,SqL.of ha⟩,ρ,Fz,R,he.mono ρ _ _ (λd ρ1 q v F1 H1 s1 o1 R1 d1=>?_) h⟩;obtain⟨ds,e1,e2,q⟩:=q;obtain⟨a',xs',hs',ha',hd',nf'⟩:=zcc R1 e1;rw[hs]at hs';cases hs';have hl:=hd'.length;refine⟨a,xs',v,rfl,rfl,ha',by lia,?_⟩;have ow:Own X.K F1 (upd H1 a (.lst (xs'++[v]))) (.lst (ds++[d])) a:=⟨_,zag,(DenL.rew ha' nf' (DenL.snoc hd' d1))⟩;obtain⟨R3,s3,o3⟩:=R1.mut e1 hs ha' ow;exact q .non F1 _ (s1.trans o1 s3) (zar.trans s1 o1 o3) R3 (by simp only[Den])
theorem zlJ (i:Nat)(he:PuE X e te)(hN:X.N[i]? = some x:=by rfl)(hv:Vis X.env.scope x:=by first | exact Or.inl rfl | exact Or.inr (Or.inl rfl) | exact Or.inr (Or.inr rfl))(hd:(x == ("__debug__" : Str))=false:=by decide) (hcd:(x == ("__classdict__" : Str))=false:=by decide)
  (hbase:attributeBase (.Name x p) "pop" X.env (eval (.Name x p) X.env)=eval (.Name x p) X.env:=by rfl)
  (hfew:((backTo cpos (starEach [e] X.env)).all (λx=>!x.1)&&(backToKw cpos (keywordEach [] X.env)).all (λx=>x.1.isSome)&&decide ([e].length+([]:List Keyword).length+(if ([]:List Keyword).isEmpty then 0 else 1)<30))=true:=by rfl)
  (hline:(apos.endLine == cpos.line)=true:=by rfl) (hs:starEach [e] X.env=(false,eval e X.env)::starEach [] X.env:=by rfl) (hplain:(backTo cpos (starEach [] X.env)).any (·.1)=false:=by rfl):PuM X (.Call (.Attribute (.Name x p) "pop" apos) [e] [] cpos) (zck i te) where
 mono ρ Q Q' m h:=by
  obtain⟨ds,e1,h⟩:=h;exact⟨ds,e1,he.mono ρ _ _ (λd _ ⟨j,k,c,q1,q2,q3,q4,q5,q⟩=>⟨j,k,c,q1,q2,q3,q4,q5,m _ _ q⟩) h⟩
 run:=PE.weak (zks PySem.F.plainAttrs_list PySem.F.slot_list_pop PySem.F.type_list_pop zni (zcC hN hv hd hcd) (zbA he.run zce hs) hbase hfew hline hs hplain) λσ H Q h=>by
  obtain⟨ρ,Fz,R,ds,e1,h⟩:=h;obtain⟨a,xs,hs,ha,hd,nf⟩:=zcc R e1;refine⟨_,hs,.inl ⟨rfl,xs,SqL.of ha⟩,ρ,Fz,R,he.mono ρ _ _ (λd k q v F1 H1 p1=>?_) h⟩;obtain⟨j,k,c,rfl,q2,q3,q4,q5,q⟩:=q;have R2:=R.ext p1.ext;obtain⟨a',xs',hs',ha',hd',nf'⟩:=zcc R2 e1;rw[hs]at hs';cases hs';have hl:=hd'.length;obtain⟨y,y1,y2⟩:=hd'.get q5;refine⟨a,xs',j,k,y,rfl,by rw[zat (p1.root R)],ha',q2,q3,by rw[<- hl];exact q4,y1,?_⟩;have ow:Own X.K F1 (upd H1 a (.lst (xs'.eraseIdx k))) (.lst (ds.eraseIdx k)) a:=⟨_,zag,(DenL.rew ha' nf' (DenL.eraseIdx k hd'))⟩;obtain⟨R3,s3,o3⟩:=R2.mut e1 hs ha' ow;refine q y F1 _ ((Step.of p1.ext).trans (zar.refl ρ σ H) s3) (zar.trans (Step.of p1.ext) (zar.refl ρ σ H) o3) R3 ?_;have:=DenL.rew (o:=.lst (xs'.eraseIdx k)) ha' nf' (DenL.cons y2 DenL.nil);simp only[DenL]at this;obtain⟨v',r',e',g1,_⟩:=this;cases e';exact g1
theorem znE (i:Nat)(he:PuE X e te)(hN:X.N[i]? = some x:=by rfl)(hv:Vis X.env.scope x:=by first | exact Or.inl rfl | exact Or.inr (Or.inl rfl) | exact Or.inr (Or.inr rfl))(hd:(x == ("__debug__" : Str))=false:=by decide) (hcd:(x == ("__classdict__" : Str))=false:=by decide)
  (hbase:attributeBase (.Name x p) "extend" X.env (eval (.Name x p) X.env)=eval (.Name x p) X.env:=by rfl)
  (hfew:((backTo cpos (starEach [e] X.env)).all (λx=>!x.1)&&(backToKw cpos (keywordEach [] X.env)).all (λx=>x.1.isSome)&&decide ([e].length+([]:List Keyword).length+(if ([]:List Keyword).isEmpty then 0 else 1)<30))=true:=by rfl)
  (hline:(apos.endLine == cpos.line)=true:=by rfl) (hs:starEach [e] X.env=(false,eval e X.env)::starEach [] X.env:=by rfl) (hplain:(backTo cpos (starEach [] X.env)).any (·.1)=false:=by rfl):PuM X (.Call (.Attribute (.Name x p) "extend" apos) [e] [] cpos) (zed i te) where
 mono ρ Q Q' m h:=by
  obtain⟨ds,e1,h⟩:=h;exact⟨ds,e1,he.mono ρ _ _ (λd _ ⟨es,q1,q2,q⟩=>⟨es,q1,q2,m _ _ q⟩) h⟩
 run:=PE.weak (zks PySem.F.plainAttrs_list PySem.F.slot_list_extend PySem.F.type_list_extend zph (zcC hN hv hd hcd) (zbA he.run zce hs) hbase hfew hline hs hplain) λσ H Q h=>by
  obtain⟨ρ,Fz,R,ds,e1,h⟩:=h;obtain⟨a,xs,hs,ha,hd,nf⟩:=zcc R e1;refine⟨_,hs,.inl ⟨rfl,xs,SqL.of ha⟩,ρ,Fz,R,he.mono ρ _ _ (λd k q v F1 H1 p1=>?_) h⟩;obtain⟨es,rfl,q2,q⟩:=q;have R2:=R.ext p1.ext;obtain⟨a',xs',hs',ha',hd',nf'⟩:=zcc R2 e1;rw[hs]at hs';cases hs';obtain⟨b,zs,rfl,hb,hz⟩:=zaO (p1.root R);have hl:=hd'.length;have hl2:=hz.length;refine⟨a,b,xs',zs,rfl,rfl,ha',hb,by lia,?_⟩;have ow:Own X.K F1 (upd H1 a (.lst (xs'++zs))) (.lst (ds++es)) a:=⟨_,zag,(DenL.rew ha' nf' (hd'.append hz))⟩;obtain⟨R3,s3,o3⟩:=R2.mut e1 hs ha' ow;exact q .non F1 _ ((Step.of p1.ext).trans (zar.refl ρ σ H) s3) (zar.trans (Step.of p1.ext) (zar.refl ρ σ H) o3) R3 (by simp only[Den])
noncomputable def zbF (tm:TPM):TPS:=λρ O=>tm ρ λ_ ρ'=>O.nx ρ'
variable {pos:Pos}
theorem zbw (he:PuM X e tm)(hs:swapsWith e none pos.line X.env=pure false:=by rfl):PuS X (.Expr e pos) (zbF tm) where
 mono ρ O O' m h:=he.mono ρ _ _ (λ_ _ q=>m.nx _ q) h
 run:=PS.weak (zkS he.run hs) λD σ H h=>by
  obtain⟨ρ,Fz,R,h⟩:=h;exact⟨ρ,Fz,R,he.mono ρ _ _ (λd ρ' q v F' H' s' o' R' _=>q σ F' H' s' o' R') h⟩
end
theorem zlK {K:PySem.W.Frag}{Fz:FZ}{H:Hp}{ds:List PV}{xs:List V}{i:Int}{d:PV}(h:DenL K Fz H ds xs)(e:atI ds i=some d):∃v,atI xs i=some v/\Den K Fz H d v:=by
 unfold atI at e ⊢;rw[<- h.length];cases q:ixN ds.length i with
 | none=>rw[q]at e;cases e
 | some j=>
  rw[q]at e;obtain⟨v,h1,h2⟩:=h.get (i:=j) (d:=d) e;exact⟨v,h1,h2⟩
noncomputable def pIx:P2:=λd e Q=>(∃ds i x,(d=.lst ds\/d=.tup ds)/\e=.int i/\atI ds i=some x/\Q x .frz)\/∃z i c,d=.str z/\e=.int i/\z.length<=sizeLine/\atI z.cps.toList i=some c/\Q (.str ⟨#[c]⟩) .frz
theorem zsU {K:PySem.W.Frag}:POp K (rIx K) pIx where
 mono d e Q Q' m h:=by
  rcases h with ⟨ds,i,x,e1,e2,e3,q⟩ | ⟨z,i,c,e1,e2,e3,e4,q⟩
  ·exact .inl ⟨ds,i,x,e1,e2,e3,m _ _ q⟩
  ·exact .inr ⟨z,i,c,e1,e2,e3,e4,m _ _ q⟩
 run Fz H x y d e Q al rx ry h:=by
  rcases h with ⟨ds,i,x',e1,rfl,e3,q⟩ | ⟨z,i,c,rfl,rfl,e3,e4,q⟩
  ·rcases e1 with rfl | rfl
   ·obtain⟨a,xs,rfl,h1,h2⟩:=zak rx;obtain⟨v,g1,g2⟩:=zlK h2 e3;exact .inl ⟨a,xs,i,v,rfl,zat ry,h1,g1,q v Fz H (.val al g2)⟩
   ·obtain⟨a,xs,rfl,h1,h2⟩:=zaO rx;obtain⟨v,g1,g2⟩:=zlK h2 e3;exact .inr (.inl ⟨a,xs,i,v,rfl,zat ry,h1,g1,q v Fz H (.val al g2)⟩)
  ·exact .inr (.inr ⟨z,i,c,zaN rx,zat ry,e3,e4,q _ Fz H (.val al (by simp only[Den]))⟩)
section
variable {X:Cx}{a b:Expr}{ta tb:TPE}{pos:Pos}
theorem zaS (ha:PuE X a ta)(hb:PuE X b tb)(hs:zfZ b:=by exact λ_ _=>rfl):PuE X (.Subscript a b pos) (t2 pIx ta tb):=zsT zqP zsU ha hb hs
theorem zsV (hu:X.A.units+16<cLine)(ha:PuE X a ta)(hb:PuE X b tb)(hm:behindInMarks .Eq b=false:=by first | exact zew _ | rfl):PuE X (.Compare a [.Eq] [b] pos) (t2 (pEq false) ta tb):=zri (zox hu) zlB ha hb hm
theorem zoy (hu:X.A.units+16<cLine)(ha:PuE X a ta)(hb:PuE X b tb)(hm:behindInMarks .Eq b=false:=by first | exact zew _ | rfl):PuT X (.Compare a [.Eq] [b] pos) (tBl (t2 (pEq false) ta tb)):=zfc (zox hu) zlB ha hb hm
theorem zho (hu:X.A.units+16<cLine)(ha:PuE X a ta)(hb:PuE X b tb)(hm:behindInMarks .NotEq b=false:=by first | exact zew _ | rfl):PuT X (.Compare a [.NotEq] [b] pos) (tBl (t2 (pEq true) ta tb)):=zfc (zrl hu) zlB ha hb hm
theorem zrv (ha:PuE X a ta)(hb:PuE X b tb)(hm:behindInMarks .Gt b=false:=by first | exact zew _ | rfl):PuT X (.Compare a [.Gt] [b] pos) (tBl (pGt ta tb)):=zfc zsI znu ha hb hm
end
noncomputable def rInP (K:PySem.W.Frag)(neg:Bool):R2:=λx y H Q=>∃Fz d ds p xs,Root K Fz H d x/\y=.ref p/\(SqL K H p xs\/SqT K H p xs)/\DenL K Fz H ds xs/\plain 6 d=true/\ds.all (plain 6)=true/\Q (.bl (if neg then !decide (d∈ds) else decide (d∈ds))) H
noncomputable def pIn (neg:Bool):P2:=λd e Q=>∃ds,(e=.lst ds\/e=.tup ds)/\plain 6 d=true/\ds.all (plain 6)=true/\Q (.bl (if neg then !decide (d∈ds) else decide (d∈ds))) .frz
theorem zrw {K:PySem.W.Frag}{neg:Bool}:POp K (rInP K neg) (pIn neg) where
 mono d e Q Q' m h:=by obtain⟨ds,e1,e2,e3,q⟩:=h;exact⟨ds,e1,e2,e3,m _ _ q⟩
 run Fz H x y d e Q al rx ry h:=by
  obtain⟨ds,e1,e2,e3,q⟩:=h;rcases e1 with rfl | rfl
  ·obtain⟨a,xs,rfl,h1,h2⟩:=zak ry;exact⟨Fz,d,ds,a,xs,rx,rfl,.inl h1,h2,e2,e3,q _ Fz H (.val al (by simp only[Den]))⟩
  ·obtain⟨a,xs,rfl,h1,h2⟩:=zaO ry;exact⟨Fz,d,ds,a,xs,rx,rfl,.inr h1,h2,e2,e3,q _ Fz H (.val al (by simp only[Den]))⟩
noncomputable def dcd (p:Prop):Bool:=@decide p (Classical.propDecidable p)
theorem zju {p:Prop}(h:p):dcd p=true:=@decide_eq_true p (Classical.propDecidable p) h
theorem zlL {p:Prop}(h:¬ p):dcd p=false:=@decide_eq_false p (Classical.propDecidable p) h
theorem zpo {p:Prop}:dcd p=true↔p:=@decide_eq_true_iff p (Classical.propDecidable p)
section
variable {X:Cx}{pins:List (Addr×Obj)}{σ:St}{H:Hp}{s:Shared}{Fz:FZ}
theorem zeN (I:Inv X pins σ H s){A:Around}(hu:A.units+16<cLine){d:PV}{ds:List PV}{x:V}{xs:List V}{v:Value}{its:List Value}(hx:Root X.K Fz H d x)(rx:RelV x v)(r:Vals xs its)(h:DenL X.K Fz H ds xs)(pd:plain 6 d=true)(ps:ds.all (plain 6)=true) :
  ∃e:Value->Bool,(∀y,y∈its.toArray->SeqAt.EqAt A.in1 s y v (e y))/\its.toArray.any e=decide (d∈ds):=by
 refine⟨λu=>dcd (∃j:Nat,its[j]? = some u/\ds[j]? = some d),λu hu'=>?_,?_⟩
 ·obtain⟨j,hj⟩:=List.mem_iff_getElem?.mp (show u∈its by simpa using hu');have l1:=r.length;have l2:=h.length;have hjl:j<its.length:=(List.getElem?_eq_some_iff.mp hj).1;have e1:ds[j]? = some ds[j]:=List.getElem?_eq_getElem (by lia);obtain⟨y,e2,q2⟩:=h.get e1;obtain⟨u',e3,q3⟩:=r.get e2;rw[hj]at e3;cases e3;have pj:plain 6 ds[j]=true:=List.all_eq_true.mp ps _ (List.getElem_mem _);have w:dcd (∃j':Nat,its[j']? = some u/\ds[j']? = some d)=decide (ds[j]=d):=by
   by_cases hd:ds[j]=d
   ·rw[decide_eq_true hd,zju ⟨j,hj,by rw[e1,hd]⟩]
   ·rw[decide_eq_false hd];refine zlL ?_;rintro⟨j',g1,g2⟩;obtain⟨y',e2',q2'⟩:=h.get g2;obtain⟨u',e3',q3'⟩:=r.get e2';rw[g1]at e3';cases e3';have ey:y=y':=q3.inj q3';subst ey;exact hd (zgh I 6 _ _ _ pj pd q2.root q2'.root)
  show SeqAt.EqAt A.in1 s u v (dcd (∃j':Nat,its[j']? = some u/\ds[j']? = some d));rw[w];exact(zpj I 6 A.in1 ds[j] d y x u v pj pd (by show A.units+1+6<cLine;lia) q2.root hx q3 rx).2.2
 ·have l1:=r.length;have l2:=h.length;by_cases hd:d∈ds
  ·rw[decide_eq_true hd];obtain⟨j,hj⟩:=List.mem_iff_getElem?.mp hd;have hjl:j<ds.length:=(List.getElem?_eq_some_iff.mp hj).1;rw[Array.any_eq_true];refine⟨j,by simpa using (by lia:j<its.length),?_⟩;refine zju ⟨j,?_,hj⟩;simp
  ·rw[decide_eq_false hd];rw[Array.any_eq_false];intro i hi;intro z;obtain⟨j,g1,g2⟩:=zpo.mp z;exact hd (List.mem_of_getElem? g2)
theorem zrx (hu:X.A.units+16<cLine):OpR X (compareOp .In) (rInP X.K false):=by
 intro pins s σ H x y v u Q I rx ry h;obtain⟨Fz,d,ds,p,xs,hx,rfl,hq,hd,p1,p2,q⟩:=h;cases ry;rcases hq with hq | hq
 ·obtain⟨its,r,pl,hz⟩:=I.list hq;obtain⟨e,h1,h2⟩:=zeN I hu hx rx r hd p1 p2;exact SeqAt.in_listAt e pl.isList h1 ⟨.bl _,H,I,rfl,by rw[h2];exact q⟩
 ·obtain⟨its,r,pl,hz⟩:=I.tuple hq;obtain⟨e,h1,h2⟩:=zeN I hu hx rx r hd p1 p2;exact SeqAt.in_tupleAt e pl h1 ⟨.bl _,H,I,rfl,by rw[h2];exact q⟩
theorem zlM (hu:X.A.units+16<cLine):OpR X (compareOp .NotIn) (rInP X.K true):=by
 intro pins s σ H x y v u Q I rx ry h;obtain⟨Fz,d,ds,p,xs,hx,rfl,hq,hd,p1,p2,q⟩:=h;cases ry;rcases hq with hq | hq
 ·obtain⟨its,r,pl,hz⟩:=I.list hq;obtain⟨e,h1,h2⟩:=zeN I hu hx rx r hd p1 p2;exact SeqAt.notIn_listAt e pl.isList h1 ⟨.bl _,H,I,rfl,by rw[h2];exact q⟩
 ·obtain⟨its,r,pl,hz⟩:=I.tuple hq;obtain⟨e,h1,h2⟩:=zeN I hu hx rx r hd p1 p2;exact SeqAt.notIn_tupleAt e pl h1 ⟨.bl _,H,I,rfl,by rw[h2];exact q⟩
variable {a b:Expr}{ta tb:TPE}{pos:Pos}
theorem zlN (hu:X.A.units+16<cLine)(ha:PuE X a ta)(hb:PuE X b tb)(hm:behindInMarks .In b=false:=by first | exact zew _ | rfl):PuT X (.Compare a [.In] [b] pos) (tBl (t2 (pIn false) ta tb)):=zfc (zrx hu) zrw ha hb hm
theorem zdw (hu:X.A.units+16<cLine)(ha:PuE X a ta)(hb:PuE X b tb)(hm:behindInMarks .NotIn b=false:=by first | exact zew _ | rfl):PuT X (.Compare a [.NotIn] [b] pos) (tBl (t2 (pIn true) ta tb)):=zfc (zlM hu) zrw ha hb hm
end
theorem zry:bootBuiltins "list" = some (.type "list"):=by decide +kernel
theorem zoz:bootBuiltins "tuple" = some (.type "tuple"):=by decide +kernel
theorem bSet:bootBuiltins "set" = some (.type "set"):=by decide +kernel
theorem bInt:bootBuiltins "int" = some (.type "int"):=by decide +kernel
theorem zsW:bootBuiltins "bool" = some (.type "bool"):=by decide +kernel
theorem bLen:bootBuiltins "len" = some (.builtin "len"):=by decide +kernel
theorem zgl:bootBuiltins "sorted" = some (.builtin "sorted"):=by decide +kernel
theorem bIsi:bootBuiltins "isinstance" = some (.builtin "isinstance"):=by decide +kernel
theorem bMin:bootBuiltins "min" = some (.builtin "min"):=by decide +kernel
theorem zcV {K:PySem.W.Frag}{Fz:FZ}{H:Hp}{d:PV}{vs:List V}(h:znz K Fz H [d] vs):∃v,vs=[v]/\Root K Fz H d v:=by
 cases h with
 | cons r t=>cases t;exact⟨_,rfl,r⟩
theorem zlO {K:PySem.W.Frag}{Fz:FZ}{H:Hp}{d e:PV}{vs:List V}(h:znz K Fz H [d,e] vs):∃v u,vs=[v,u]/\Root K Fz H d v/\Root K Fz H e u:=by
 cases h with
 | cons r t=>
  cases t with
  | cons r2 t=>cases t;exact⟨_,_,rfl,r,r2⟩
theorem Post.newL {K:PySem.W.Frag}{Fz:FZ}{H:Hp}{p:Addr}{ds:List PV}{xs:List V}(al:∀b,Fz b->H b≠none)(hp:H p=none)(h:DenL K Fz H ds xs):Post K [] [] Fz H Fz (upd H p (.lst xs)) (.lst ds) .new (.ref p):=
 ⟨Ext.laid ⟨Same.refl H,λ_ h=>h,λ_ h=>.inl h,al⟩ hp,p,rfl,hp,λz=>al p z hp,xs,zag,DenL.mono (Keep.of (λb u e=>by rw[zaf (zau e hp)];exact e)) (λ_ h=>h) _ _ h⟩
theorem Post.newT {K:PySem.W.Frag}{Fz:FZ}{H:Hp}{p:Addr}{ds:List PV}{xs:List V}(al:∀b,Fz b->H b≠none)(hp:H p=none)(h:DenL K Fz H ds xs):Post K [] [] Fz H Fz (upd H p (.tup xs)) (.tup ds) .frz (.ref p):=by
 refine⟨Ext.laid ⟨Same.refl H,λ_ h=>h,λ_ h=>.inl h,al⟩ hp,?_⟩;show Den _ _ _ _ _;simp only[Den];exact⟨p,xs,rfl,zag,DenL.mono (Keep.of (λb u e=>by rw[zaf (zau e hp)];exact e)) (λ_ h=>h) _ _ h⟩
noncomputable def LenP:PV->Nat->Prop
 | .str y,n=>y.length<=sizeLine/\n=y.length
 | .lst ds,n=>n=ds.length
 | .tup ds,n=>n=ds.length
 | .dK ks _,n=>n=ks.length
 | _,_=>False
noncomputable def fLen:PF:=λds Q=>∃d n,ds=[d]/\LenP d n/\Q (.int n) .frz
noncomputable def rLen (K:PySem.W.Frag):List V->Hp->VK->Prop:=λxs H Q=>(∃x n,xs=[x]/\LenV K x H n/\Q (.int n) H)\/∃a kvs,xs=[.ref a]/\Rd H a (.dK kvs)/\Q (.int kvs.length) H
theorem zlP {X:Cx}:zcd X (.builtin "len") (rLen X.K):=by
 intro pins s σ H xs us Q I r h;rcases h with h | ⟨a,kvs,rfl,ha,q⟩
 ·exact znf pins s σ H xs us Q I r h
 ·obtain⟨u,rfl,ru⟩:=vals1 r;cases ru;exact zsP I ha λt s' I'=>⟨.int kvs.length,H,I',⟨t,rfl⟩,q⟩
theorem zrz {K:PySem.W.Frag}:zdZ K (rLen K) fLen where
 mono ds Q Q' m h:=by obtain⟨d,n,e1,e2,q⟩:=h;exact⟨d,n,e1,e2,m _ _ q⟩
 run Fz H ds vs Q al r h:=by
  obtain⟨d,n,rfl,e,q⟩:=h;obtain⟨v,rfl,rv⟩:=zcV r;have q':=q (.int n) Fz H (.val al (by simp only[Den]));cases d with
  | str y=>cases zaN rv;exact .inl ⟨_,n,rfl,e,q'⟩
  | lst ds=>obtain⟨a,xs,rfl,h1,h2⟩:=zak rv;exact .inl ⟨_,n,rfl,.inl ⟨xs,h1,by rw[<- h2.length];exact e⟩,q'⟩
  | tup ds=>obtain⟨a,xs,rfl,h1,h2⟩:=zaO rv;exact .inl ⟨_,n,rfl,.inr ⟨xs,h1,by rw[<- h2.length];exact e⟩,q'⟩
  | dK ks ds=>
   simp only[Root]at rv;obtain⟨a,xs,rfl,h1,h2,h3⟩:=rv;have e':n=ks.length:=e;refine .inr ⟨a,_,rfl,h1,?_⟩;rw[List.length_zip,<- h2,Nat.min_self,<- e'];exact q'
  | non=>exact e.elim
  | bl b=>exact e.elim
  | int i=>exact e.elim
  | ty n=>exact e.elim
  | dT ks ds=>exact e.elim
noncomputable def zdx:PF:=λds Q=>∃es,(ds=[.lst es]\/ds=[.tup es])/\Q (.lst es) .new
noncomputable def zbV:PF:=λds Q=>∃es,(ds=[.lst es]\/ds=[.tup es])/\Q (.tup es) .frz
theorem zpp {K:PySem.W.Frag}:zdZ K (zpi K) zdx where
 mono ds Q Q' m h:=by obtain⟨es,e,q⟩:=h;exact⟨es,e,m _ _ q⟩
 run Fz H ds vs Q al r h:=by
  obtain⟨es,e,q⟩:=h;rcases e with rfl | rfl
  ·obtain⟨v,rfl,rv⟩:=zcV r;obtain⟨a,xs,rfl,h1,h2⟩:=zak rv;exact⟨a,xs,rfl,.inl h1,λl hl=>q _ Fz _ (.newL al hl h2)⟩
  ·obtain⟨v,rfl,rv⟩:=zcV r;obtain⟨a,xs,rfl,h1,h2⟩:=zaO rv;exact⟨a,xs,rfl,.inr h1,λl hl=>q _ Fz _ (.newL al hl h2)⟩
theorem znF {K:PySem.W.Frag}:zdZ K (zrf K) zbV where
 mono ds Q Q' m h:=by obtain⟨es,e,q⟩:=h;exact⟨es,e,m _ _ q⟩
 run Fz H ds vs Q al r h:=by
  obtain⟨es,e,q⟩:=h;rcases e with rfl | rfl
  ·obtain⟨v,rfl,rv⟩:=zcV r;obtain⟨a,xs,rfl,h1,h2⟩:=zak rv;exact⟨a,xs,rfl,.inl ⟨h1,λl hl=>q _ Fz _ (.newT al hl h2)⟩⟩
  ·obtain⟨v,rfl,rv⟩:=zcV r;obtain⟨a,xs,rfl,h1,h2⟩:=zdq rv;exact⟨a,xs,rfl,.inr ⟨SqT.of h1,q _ Fz H (.val al (by simp only[Den];exact⟨a,xs,rfl,h1,h2⟩))⟩⟩
theorem zhp {K:PySem.W.Frag}{Fz:FZ}{H:Hp}:∀ {ss:List Str}{xs:List V},DenL K Fz H (ss.map PV.str) xs->xs=ss.map V.str
 | [],xs,h=>by rw[List.map_nil]at h;simp only[DenL]at h;exact h
 | s::r,xs,h=>by
  rw[List.map_cons]at h;simp only[DenL]at h;obtain⟨v,t,z,h1,h2⟩:=h;simp only[Den]at h1;subst z h1;rw[List.map_cons,zhp h2]
theorem zfg {K:PySem.W.Frag}{Fz:FZ}{H:Hp}:∀(ss:List Str),DenL K Fz H (ss.map PV.str) (ss.map V.str)
 | []=>DenL.nil
 | s::r=>by rw[List.map_cons,List.map_cons];exact DenL.cons (by simp only[Den]) (zfg r)
section
variable {X:Cx}{e:Expr}{es:List Expr}{te:TPE}{t:TPA}{p p1 p2 pos pos2:Pos}
theorem zdy (hg:Gl X "len") (hm:X.mg "len" = none) (ha:PuA X (e::es) t) (he:starEach (e::es) X.env=(false,eval e X.env)::starEach es X.env:=by rfl) (hpl:(backTo pos (starEach es X.env)).any (·.1)=false:=by rfl):PuE X (.Call (.Name "len" p) (e::es) [] pos) (tB fLen t):=
 zbS zlP zrz hg hm bLen ha (by decide) (by decide) he hpl
theorem zpq (hg:Gl X "list") (hm:X.mg "list" = none) (ha:PuA X (e::es) t) (he:starEach (e::es) X.env=(false,eval e X.env)::starEach es X.env:=by rfl) (hpl:(backTo pos (starEach es X.env)).any (·.1)=false:=by rfl):PuE X (.Call (.Name "list" p) (e::es) [] pos) (tB zdx t):=
 zhk zgU zpp hg hm zry ha (by decide) (by decide) he hpl
theorem zdz (hg:Gl X "tuple") (hm:X.mg "tuple" = none) (ha:PuA X (e::es) t) (he:starEach (e::es) X.env=(false,eval e X.env)::starEach es X.env:=by rfl) (hpl:(backTo pos (starEach es X.env)).any (·.1)=false:=by rfl):PuE X (.Call (.Name "tuple" p) (e::es) [] pos) (tB zbV t):=
 zhk zgc znF hg hm zoz ha (by decide) (by decide) he hpl
noncomputable def zaQ (te:TPE):TPE:=λρ Q=>te ρ λd _=>∃ss:List Str,d=.lst (ss.map PV.str)/\ss.length<64/\∀zs,zs.Nodup->(∀x,x∈zs↔x∈ss)->sortedS zs=true->Q (.lst (zs.map PV.str)) .new
theorem zfJ:∀(ys xs:List Str),xs.Nodup->(ys.foldl JS.addS xs).Nodup
 | [],_,h=>h
 | y::ys,xs,h=>by
  rw[List.foldl_cons];refine zfJ ys _ ?_;unfold JS.addS;split
  ·exact h
  ·rename_i hy
   exact List.nodup_cons.mpr ⟨hy,h⟩
theorem zkD (hc:X.calm=true)(hg:Gl X "sorted") (hm:X.mg "sorted" = none) (hg2:Gl X "set") (hm2:X.mg "set" = none) (he:PuE X e te)
  (hs1:starEach [e] X.env=(false,eval e X.env)::starEach [] X.env:=by rfl) (hpl1:(backTo pos2 (starEach [] X.env)).any (·.1)=false:=by rfl)
  (hs2:starEach [Expr.Call (.Name "set" p2) [e] [] pos2] X.env=(false,eval (Expr.Call (.Name "set" p2) [e] [] pos2) X.env)::starEach [] X.env:=by rfl) (hpl2:(backTo pos (starEach [] X.env)).any (·.1)=false:=by rfl) :
  PuE X (.Call (.Name "sorted" p) [.Call (.Name "set" p2) [e] [] pos2] [] pos) (zaQ te) where
 mono ρ Q Q' m h:=he.mono ρ _ _ (λd k ⟨ss,e1,e2,q⟩=>⟨ss,e1,e2,λzs h1 h2 h3=>m _ _ (q zs h1 h2 h3)⟩) h
 run:=PE.weak (zeK (zhe hc) hg hm zgl (zbA (zeW (zly hc) hg2 hm2 bSet (zbA he.run zce hs1) (by decide) (by decide) hs1 hpl1) zce hs2) (by decide) (by decide) hs2 hpl2) λσ H Q h=>by
  obtain⟨ρ,Fz,R,h⟩:=h;refine⟨ρ,Fz,R,he.mono ρ _ _ (λd k q v F1 H1 p1=>?_) h⟩;obtain⟨ss,rfl,e2,q⟩:=q;obtain⟨a,xs,rfl,h1,h2⟩:=zak (p1.root R);have:=zhp h2;subst this;refine⟨a,ss,rfl,h1,by unfold scanBound;lia,λst hst=>?_⟩;have q1:=JS.zcE ss [];simp only[List.length_nil,Nat.zero_add]at q1;refine⟨st,_,rfl,zag,by lia,λl zs hl hz hs=>?_⟩;have hne:l≠st:=λz=>by subst z;rw[zag]at hl;cases hl
  have hl':H1 l=none:=by rw[zaf hne]at hl;exact hl
  have x2:Ext F1 H1 F1 (upd H1 st (SetO X.prog X.w st (ss.foldl JS.addS []))):=Ext.laid ⟨Same.refl _,λ_ h=>h,λ_ h=>.inl h,p1.ext.al⟩ hst;have p3:Post X.K [] [] F1 (upd H1 st (SetO X.prog X.w st (ss.foldl JS.addS []))) F1 (upd (upd H1 st (SetO X.prog X.w st (ss.foldl JS.addS []))) l (.lst (zs.map V.str))) (.lst (zs.map PV.str)) .new (.ref l):=Post.newL x2.al hl (zfg zs);refine q zs (hz.nodup_iff.mpr (zfJ ss [] List.nodup_nil)) (λx=>?_) hs _ F1 _ (p3.behind (p1.ext.trans x2));rw[hz.mem_iff,JS.zdo];simp
end
noncomputable def tyP:PV->String
 | .non=>"NoneType"
 | .bl _=>"bool"
 | .int _=>"int"
 | .str _=>"str"
 | .ty _=>"type"
 | .tup _=>"tuple"
 | .lst _=>"list"
 | .dK _ _=>"dict"
 | .dT _ _=>"dict"
theorem zjv {X:Cx}{pins:List (Addr×Obj)}{σ:St}{H:Hp}{s:Shared}{Fz:FZ}{d:PV}{x:V}{u:Value}(I:Inv X pins σ H s)(r:Root X.K Fz H d x)(rx:RelV x u)(hd:∀n,d≠.ty n):∃P:Heap->Prop,PySem.W.KitX X.K u (.type (tyP d)) P/\P s.heap/\u≠.builtin "__main__.__loader__#opaque":=by
 cases d with
 | non=>cases zbH r;cases (show u=Value.none from rx);exact⟨_,PySem.W.kitx_none,True.intro,λz=>nomatch z⟩
 | bl y=>cases zgg r;cases (show u=Value.bool y from rx);exact⟨_,PySem.W.kitx_bool,True.intro,λz=>nomatch z⟩
 | int i=>cases zat r;obtain⟨t,q⟩:=(show ∃t,u=Value.int i t from rx);cases q;exact⟨_,PySem.W.kitx_int,True.intro,λz=>nomatch z⟩
 | str y=>cases zaN r;obtain⟨t,q⟩:=(show ∃t,u=Value.str y t from rx);cases q;exact⟨_,PySem.W.kitx_str,True.intro,λz=>nomatch z⟩
 | ty n=>exact absurd rfl (hd n)
 | lst ds=>
  obtain⟨a,xs,rfl,h1,_⟩:=zak r;cases (show u=Value.ref a from rx);obtain⟨its,_,⟨o,n,e,c,_⟩,_⟩:=I.list h1;exact⟨_,PySem.W.kitx_list,⟨o,e,c⟩,λz=>nomatch z⟩
 | tup ds=>
  obtain⟨a,xs,rfl,h1,_⟩:=zaO r;cases (show u=Value.ref a from rx);obtain⟨its,_,⟨o,e,c,_⟩,_⟩:=I.tuple h1;exact⟨_,PySem.W.kitx_tuple,⟨o,e,c⟩,λz=>nomatch z⟩
 | dK ks ds=>
  simp only[Root]at r;obtain⟨a,xs,rfl,h1,_⟩:=r;cases (show u=Value.ref a from rx);obtain⟨_,_,vs,_,o,es,ep,e,ex,_⟩:=zfz I.hok h1;exact⟨_,PySem.W.kitx_dict,⟨o,e,ex.1⟩,λz=>nomatch z⟩
 | dT ks ds=>
  simp only[Root]at r;obtain⟨a,xs,rfl,h1,_⟩:=r;cases (show u=Value.ref a from rx);obtain⟨_,_,vs,_,o,es,ep,e,ex,_⟩:=zlb I.hok h1;exact⟨_,PySem.W.kitx_dict,⟨o,e,ex.1⟩,λz=>nomatch z⟩
noncomputable def fIsi (K:PySem.W.Frag):PF:=λds Q=>(∃d c,ds=[d,.ty c]/\(∀n,d≠.ty n)/\∃b,PySem.W.kitOne K (.type (tyP d)) (.type c)=some b/\Q (.bl b) .frz)\/
 ∃d es,ds=[d,.tup es]/\(∀n,d≠.ty n)/\∃(cs:List String) (b:Bool),es=cs.map PV.ty/\PySem.W.kitAny K (.type (tyP d)) (cs.map Value.type)=some b/\Q (.bl b) .frz
noncomputable def zrA (K:PySem.W.Frag):List V->Hp->VK->Prop:=λxs H Q=>∃Fz d x b,Root K Fz H d x/\(∀n,d≠.ty n)/\((∃c,xs=[x,.ty c]/\PySem.W.kitOne K (.type (tyP d)) (.type c)=some b)\/∃(p:Addr)(cs:List String),xs=[x,.ref p]/\SqT K H p (cs.map V.ty)/\PySem.W.kitAny K (.type (tyP d)) (cs.map Value.type)=some b)/\Q (.bl b) H
theorem zlQ {X:Cx}:zcd X (.builtin "isinstance") (zrA X.K):=by
 intro pins s σ H xs us Q I r h;obtain⟨Fz,d,x,b,rt,hd,e,q⟩:=h;rcases e with ⟨c,rfl,e⟩ | ⟨p,cs,rfl,hp,e⟩
 ·obtain⟨u,w',rfl,r1,r2⟩:=vals2 r;cases r2;obtain⟨P,Z,hP,ne⟩:=zjv I rt r1 hd;exact PySem.W.kia_one Z I.kIn hP e ne λtk=>⟨.bl b,H,I.tok tk,rfl,q⟩
 ·obtain⟨u,w',rfl,r1,r2⟩:=vals2 r;cases r2;obtain⟨P,Z,hP,ne⟩:=zjv I rt r1 hd;obtain⟨its,rv,⟨⟨cls,dd,data,sl⟩,ho,hc,n,hdt⟩,hzz⟩:=I.tuple hp;simp only at hc hdt;subst hc hdt;have ei:its=cs.map Value.type:=by
   clear hp ho e hzz;induction cs generalizing its with
   | nil=>cases rv;rfl
   | cons c cs ih=>
    cases rv with
    | cons q1 q2=>rw[show _=Value.type c from q1,ih _ q2];rfl
  subst ei;exact PySem.W.kia_tup Z I.kIn hP ho e ne λtk=>⟨.bl b,H,I.tok tk,rfl,q⟩
theorem zjw {K:PySem.W.Frag}{Fz:FZ}{H:Hp}:∀ {ss:List String}{xs:List V},DenL K Fz H (ss.map PV.ty) xs->xs=ss.map V.ty
 | [],xs,h=>by rw[List.map_nil]at h;simp only[DenL]at h;exact h
 | s::r,xs,h=>by
  rw[List.map_cons]at h;simp only[DenL]at h;obtain⟨v,t,z,h1,h2⟩:=h;simp only[Den]at h1;subst z h1;rw[List.map_cons,zjw h2]
theorem zrB {K:PySem.W.Frag}:zdZ K (zrA K) (fIsi K) where
 mono ds Q Q' m h:=by
  rcases h with ⟨d,c,e,hd,b,e2,q⟩ | ⟨d,es,e,hd,cs,b,e2,e3,q⟩
  ·exact .inl ⟨d,c,e,hd,b,e2,m _ _ q⟩
  ·exact .inr ⟨d,es,e,hd,cs,b,e2,e3,m _ _ q⟩
 run Fz H ds vs Q al r h:=by
  rcases h with ⟨d,c,rfl,hd,b,e,q⟩ | ⟨d,es,rfl,hd,cs,b,rfl,e,q⟩
  ·have q':=q (.bl b) Fz H (.val al (by simp only[Den]));obtain⟨v,u,rfl,r1,r2⟩:=zlO r;simp only[Root,Den]at r2;subst r2;exact⟨Fz,d,v,b,r1,hd,.inl ⟨c,rfl,e⟩,q'⟩
  ·have q':=q (.bl b) Fz H (.val al (by simp only[Den]));obtain⟨v,u,rfl,r1,r2⟩:=zlO r;obtain⟨a,xs,rfl,h1,h2⟩:=zaO r2;have:=zjw h2;subst this;exact⟨Fz,d,v,b,r1,hd,.inr ⟨a,cs,rfl,h1,e⟩,q'⟩
section
variable {X:Cx}{e:Expr}{es:List Expr}{te:TPE}{t:TPA}{p p1 p2 pos pos2:Pos}
theorem zjx {K:PySem.W.Frag}(hK:X.K=K)(hg:Gl X "isinstance") (hm:X.mg "isinstance" = none) (ha:PuA X (e::es) t) (he:starEach (e::es) X.env=(false,eval e X.env)::starEach es X.env:=by rfl) (hpl:(backTo pos (starEach es X.env)).any (·.1)=false:=by rfl):PuE X (.Call (.Name "isinstance" p) (e::es) [] pos) (tB (fIsi K) t):=by
 subst hK;exact zbS zlQ zrB hg hm bIsi ha (by decide) (by decide) he hpl
end
noncomputable abbrev TPO:=PEnv->(Option Int->Prop)->Prop
noncomputable def zsX (K:PySem.W.Frag)(t:TPO):TO:=λσ H Q=>∃ρ Fz,Rel K Fz ρ σ H/\t ρ λo=>∀Fz' H',Ext Fz H Fz' H'->Q o H'
structure PuO (X:Cx)(e:Option Expr)(t:TPO):Prop where
 mono:∀ρ Q Q',(∀o,Q o->Q' o)->t ρ Q->t ρ Q'
 run:PO X e (zsX X.K t)
theorem PO.weak {X:Cx}{e:Option Expr}{t t':TO}(h:PO X e t)(w:∀σ H Q,t' σ H Q->t σ H Q):PO X e t':=λpins s σ H Q I q=>h pins s σ H Q I (w σ H Q q)
noncomputable def zdA:TPO:=λ_ Q=>Q none
noncomputable def zdB (te:TPE):TPO:=λρ Q=>te ρ λd _=>∃i,d=.int i/\Q (some i)
theorem zjy {X:Cx}:PuO X none zdA where
 mono ρ Q Q' m h:=m _ h
 run:=PO.weak zoW λσ H Q h=>by
  obtain⟨ρ,Fz,R,h⟩:=h;exact h Fz H ⟨Same.refl H,λ_ h=>h,λ_ h=>.inl h,R.al⟩
theorem zjz {X:Cx}{e:Expr}{te:TPE}(h:PuE X e te):PuO X (some e) (zdB te) where
 mono ρ Q Q' m q:=h.mono ρ _ _ (λd k ⟨i,e,q⟩=>⟨i,e,m _ q⟩) q
 run:=PO.weak (zoX h.run) λσ H Q q=>by
  obtain⟨ρ,Fz,R,q⟩:=q;exact⟨ρ,Fz,R,h.mono ρ _ _ (λd k ⟨i,e,q⟩ v F1 H1 p1=>⟨i,by subst e;exact zat (p1.root R),q F1 H1 p1.ext⟩) q⟩
noncomputable def cutP (xs:List PV)(lo hi:Option Int):List PV:=(xs.drop (HT.sIx xs.length 0 lo)).take (HT.sIx xs.length xs.length hi-HT.sIx xs.length 0 lo)
noncomputable def pSlL (te:TPE)(tl th:TPO):TPE:=λρ Q=>te ρ λd _=>tl ρ λl=>th ρ λu=>∃ds,d=.lst ds/\Q (.lst (cutP ds l u)) .new
theorem zpr {K:PySem.W.Frag}{Fz:FZ}{H:Hp}{ds:List PV}{xs:List V}{lo hi:Option Int}(h:DenL K Fz H ds xs):DenL K Fz H (cutP ds lo hi) (cutV xs lo hi):=by
 unfold cutP cutV;rw[h.length];exact(h.drop _).take _
section
variable {X:Cx}{e a b:Expr}{te ta tb:TPE}{lo hi:Option Expr}{tl th:TPO}{pos p2:Pos}
theorem zjA (he:PuE X e te)(hl:PuO X lo tl)(hu:PuO X hi th):PuE X (.Subscript e (.Slice lo hi none p2) pos) (pSlL te tl th) where
 mono ρ Q Q' m h:=he.mono ρ _ _ (λd k h=>hl.mono ρ _ _ (λl h=>hu.mono ρ _ _ (λu ⟨ds,e,q⟩=>⟨ds,e,m _ _ q⟩) h) h) h
 run:=PE.weak (znh zpa he.run hl.run hu.run) λσ H Q h=>by
  obtain⟨ρ,Fz,R,h⟩:=h;refine⟨ρ,Fz,R,he.mono ρ _ _ (λd k q v F1 H1 p1=>?_) h⟩;refine⟨ρ,F1,R.ext p1.ext,hl.mono ρ _ _ (λl q F2 H2 x2=>?_) q⟩;refine⟨ρ,F2,(R.ext p1.ext).ext x2,hu.mono ρ _ _ (λu q3 F3 H3 x3=>?_) q⟩;obtain⟨ds,e3,q4⟩:=q3;subst e3;obtain⟨a,xs,rfl,h1,h2⟩:=zak (((p1.root R).mono x2.same x2.sub).mono x3.same x3.sub);exact⟨a,xs,rfl,h1,λp hp=>q4 _ F3 _ ((Post.newL x3.al hp (zpr h2)).behind (p1.ext.trans (x2.trans x3)))⟩
noncomputable def zrC (K:PySem.W.Frag):R2:=λx y H Q=>∃l b xs zs,x=.ref l/\y=.ref b/\(Rd H l (.lst xs)\/KX K l xs)/\(Rd H b (.lst zs)\/KX K b zs)/\xs.length+zs.length<=sizeLine/\∀p,H p=none->Q (.ref p) (upd H p (.lst (xs++zs)))
theorem zrD {pins:List (Addr×Obj)}{σ:St}{H:Hp}{s:Shared}{l:Addr}{xs:List V}(I:Inv X pins σ H s)(h:Rd H l (.lst xs)\/KX X.K l xs):∃(its:List Value)(n:Nat),Vals xs its/\s.heap.get? l=some { cls:=.type "list",data:=.seq its.toArray n }:=by
 rcases h with h | ⟨its,n,h1,_,h3⟩
 ·obtain⟨z,its,n,r,e⟩:=(show zaV X.prog X.w H s.heap l (.lst xs) from h.ok I.hok);exact⟨its,n,r,e⟩
 ·exact⟨its.toList,n,h3,by rw[Array.toArray_toList];exact I.kIn l _ h1⟩
theorem zps:OpR X (binaryOp .Add) (zrC X.K):=by
 intro pins s σ H x y v u Q I rx ry h;obtain⟨l,b,xs,zs,rfl,rfl,hH,hB,hz,q⟩:=h;cases rx;cases ry;obtain⟨its,n,r,e⟩:=zrD I hH;obtain⟨its2,n2,r2,e2⟩:=zrD I hB;have l1:=r.length;have l2:=r2.length;refine PySem.P.add_list e e2 ?_ (by rw[List.size_toArray,List.size_toArray];lia);have ea:its.toArray++its2.toArray=(its++its2).toArray:=by simp
 rw[ea];exact⟨.ref _,_,I.lnew (t':=s.toks) (r.append r2) (by rw[List.length_append];lia),rfl,q _ I.fresh⟩
noncomputable def pCat:P2:=λd e Q=>∃ds es,d=.lst ds/\e=.lst es/\ds.length+es.length<=sizeLine/\Q (.lst (ds++es)) .new
theorem zrE {K:PySem.W.Frag}:POp K (zrC K) pCat where
 mono d e Q Q' m h:=by obtain⟨ds,es,e1,e2,e3,q⟩:=h;exact⟨ds,es,e1,e2,e3,m _ _ q⟩
 run Fz H x y d e Q al rx ry h:=by
  obtain⟨ds,es,rfl,rfl,e3,q⟩:=h;obtain⟨a,xs,rfl,h1,h2⟩:=zhh rx;obtain⟨b,ys,rfl,g1,g2⟩:=zhh ry;have l1:=h2.length;have l2:=g2.length;exact⟨a,b,xs,ys,rfl,rfl,h1,g1,by lia,λp hp=>q _ Fz _ (.newL al hp (h2.append g2))⟩
theorem zrF (ha:PuE X a ta)(hb:PuE X b tb):PuE X (.BinOp a .Add b pos) (t2 pCat ta tb):=zhg zps zrE ha hb
end
structure Fx (K:PySem.W.Frag)(mg:Str->Option Value)(x:Str)(st:Stmt)(ps:List Str)(f:Addr)(fd:FuncData):Prop where
 fn:Fun K x x st f fd
 bd:Binds K fd ps []
 mg:mg x=some (.ref f)
structure Bl (mg:Str->Option Value):Prop where
 range:mg "range" = none
 len:mg "len" = none
 list:mg "list" = none
 tuple:mg "tuple" = none
 sorted:mg "sorted" = none
 set:mg "set" = none
 isi:mg "isinstance" = none
 str:mg "str" = none
 int:mg "int" = none
 bool:mg "bool" = none
 dict:mg "dict" = none
 enumerate:mg "enumerate" = none
 zip:mg "zip" = none
 min:mg "min" = none
 max:mg "max" = none
 sum:mg "sum" = none
 all:mg "all" = none
 any:mg "any" = none
 reversed:mg "reversed" = none
 abs:mg "abs" = none
 ord:mg "ord" = none
theorem zlR {K:PySem.W.Frag}{T c:String}{b:Bool}(h1:PySem.W.kitMeta c=true)(h2:(fastBuiltinMro T).map (·.contains (.type c))=some b)(h3:(Value.type T == Value.type c)=false):PySem.W.kitOne K (.type T) (.type c)=some b:=by
 unfold PySem.W.kitOne PySem.W.kitCls;rw[if_neg (by rw[h3];decide)];dsimp only;rw[if_pos h1];exact h2
theorem zgm {K:PySem.W.Frag}{T:String}:PySem.W.kitOne K (.type T) (.type T)=some true:=by
 unfold PySem.W.kitOne;rw[if_pos (by simp)]
theorem zhq {K:PySem.W.Frag}:PySem.W.kitOne K (.type "int") (.type "bool")=some false:=zlR (by decide +kernel) (by decide +kernel) (by decide +kernel)
theorem loc2 {k i j:Nat}(h:i<k)(h2:j<k):zrt k (zbu (zaY i) (zbu (zaY j) zdb)):=λds ρ Q ⟨d,r,e,d2,r2,e2,q⟩=>
 ⟨d,r,e,d2,r2,e2,q.1,q.2,by rw[List.length_set,List.length_set],λl hl=>by rw[List.getElem?_set_ne (by lia),List.getElem?_set_ne (by lia)]⟩
theorem zlS {P:Program}{w:World}{K:PySem.W.Frag}{mg mb:Str->Option Value}{CX:CXT}{k:Nat}{fa a:Addr}{fd:FuncData}{x:Str}{sp:Sp}{s₁:Shared}{vs:List Value}{ns:List Int}
  (KX:K.In s₁.heap) (hns:s₁.heap.Ns mainGlobals mg) (hb:s₁.heap.Ns builtinsNs mb) (hbb:∀x:Str,x≠"__name__"->mb x=bootBuiltins x) (hlim:s₁.heap.NoLimit) (hg:s₁.gens = #[])
  (ha:s₁.heap.get? a=some { cls:=.type "list",data:=.seq vs.toArray }) (hi:IntsAre vs ns) (hl:ns.length<=sizeLine) (hr:Room k callerA)
  (F:∀base:Heap,K.In base->base.Ns mainGlobals mg->FnOk P w K mg base CX k fa fd [x] sp) (hbind:∀(s:Shared) (u:Value),BindsTo s fd ⟨[u],[]⟩ [(x,u)])
  (hsp:∀H:Hp,Only H->(Rd H a (.lst (ns.map V.int))\/PL.KX K a (ns.map V.int))->sp [.ref a] H (λv _=>v=.bl true) λ_ _ _=>False)
  (hCX:∀H e s',CX [] H s₁ (λ_ _ _=>False) e s'->False) :
  codeAny (model P w) callerA (.call (.ref fa) ⟨[.ref a],[]⟩) (λr s'=>r=.ok (.ret (.bool true))/\OldK s₁.heap s'.heap/\s'.os=s₁.os/\AllBare s'.gens) s₁:=by
 have rv:=zgY hi;have lenV:=hi.length;have core:∀H:Hp,Only H->(Rd H a (.lst (ns.map V.int))\/PL.KX K a (ns.map V.int))->HOk P w H s₁.heap->(∀b,H b≠none->b=a)->(H a≠none->K.lookup a=none)->
   codeAny (model P w) callerA (.call (.ref fa) ⟨[.ref a],[]⟩) (λr s'=>r=.ok (.ret (.bool true))/\OldK s₁.heap s'.heap/\s'.os=s₁.os/\AllBare s'.gens) s₁:=by
  intro H hO hS hok hA hK;have base_of:∀ {b:Addr} {o:Obj},s₁.heap.get? b=some o->H b=none->(hidT s₁.heap H).get? b=some o:=λe n=>zmX e n;have noA:∀ {b:Addr} {o:Obj} {es:Array DictEntry} {ep:Nat},s₁.heap.get? b=some o->o.data=.dict es ep->H b=none:=λ{b o es ep} e d=>by
   cases q:H b with
   | none=>rfl
   | some u=>
    have e':b=a:=hA b (by rw[q];simp);subst e';rw[ha]at e;cases e;have d':Data.seq vs.toArray _=Data.dict es ep:=d;cases d'
  have nsK:∀ {b:Addr} {m:Str->Option Value},s₁.heap.Ns b m->(hidT s₁.heap H).Ns b m:=λ{b m} ⟨o,es,ep,e,d,r⟩=>⟨o,es,ep,base_of e (noA e d),d,r⟩;have hKb:K.In (hidT s₁.heap H):=λb o e=>base_of (KX b o e) (by
   cases q:H b with
   | none=>rfl
   | some u=>
    have e':b=a:=hA b (by rw[q];simp);subst e';rw[hK (by rw[q];simp)]at e;cases e)
  have hM:Mod K mg (hidT s₁.heap H):=⟨hKb,nsK hns,⟨mb,nsK hb,hbb⟩,let ⟨mc,h1,h2⟩:=hlim;⟨mc,nsK h1,h2⟩⟩;have e0:Env0 P w K mg (hidT s₁.heap H) callerA [] s₁ H:=⟨rfl,hM,λb o e=>zoI e,Nat.le_of_eq (zkO _ _),trivial,λb hb=>absurd (show b∈([]:List Addr) from hb) (by simp),hok,.of_eq hg⟩;refine codeAny_mono ((F _ hKb (nsK hns)).run callerA [] s₁ H ⟨[.ref a],[]⟩ [.ref a] [.ref a] _ _ hr e0 (hbind s₁ (.ref a)) (.cons rfl .nil) (hsp H hO hS)) λr s' h=>?_;cases r with
  | error e=>exact(hCX H e s' h).elim
  | ok fl=>
   cases fl with
   | next=>exact False.elim h
   | brk=>exact False.elim h
   | cont=>exact False.elim h
   | ret u=>
    obtain⟨v,H',os,bare,un,hok',r',q⟩:=h;have q':v=.bl true:=q;subst q';obtain rfl:u=Value.bool true:=r';refine⟨rfl,OldK.of_keep λb o e=>?_,os,bare⟩;cases q:H b with
    | none=>exact un.keep b o e q (by intro z;exact absurd (show b∈([]:List Addr) from z) (by simp)) (by simp)
    | some u=>
     rcases hO b with z | ⟨ob,xs,z⟩
     ·rw[q]at z;cases z
     ·have z2:=un.frzs b ob _ z;obtain⟨e1,_⟩:=hok b _ z;obtain⟨e2,_⟩:=hok' b _ z2;rw[e]at e1;cases e1;exact e2
 cases hk:K.lookup a with
 | some o=>
  have e:=KX a o hk;rw[ha]at e;cases e;refine core (λ_=>none) (λ_=>.inl rfl) (.inr ⟨vs.toArray,_,hk,by rw[List.size_toArray,lenV];exact hl,by simpa using rv⟩) (λb u z=>by have z':(none:Option HO)=some u:=z;cases z') (λb z=>absurd rfl z) λz=>absurd rfl z
 | none=>
  refine core (λb=>if b=a then some (.frz { cls:=.type "list",data:=.seq vs.toArray } (.lst (ns.map V.int))) else none) (λb=>?_) (.inl (.inr ⟨{ cls:=.type "list",data:=.seq vs.toArray },if_pos rfl⟩)) (λb u z=>?_) (λb z=>?_) λ_=>hk
  ·by_cases hb:b=a
   ·exact .inr ⟨_,_,if_pos hb⟩
   ·exact .inl (if_neg hb)
  ·by_cases hb:b=a
   ·have z':=(if_pos hb).symm.trans z;cases z';subst hb;exact⟨ha,by rw[List.length_map];exact hl,vs,_,rv,ha⟩
   ·have z':=(if_neg hb).symm.trans z;cases z'
  ·by_cases hb:b=a
   ·exact hb
   ·exact absurd (if_neg hb) z
theorem zhr {K:PySem.W.Frag}{Fz:FZ}{H:Hp}:∀(ns:List Int),DenL K Fz H (ns.map PV.int) (ns.map V.int)
 | []=>DenL.nil
 | n::r=>by rw[List.map_cons,List.map_cons];exact DenL.cons (by simp only[Den]) (zhr r)
theorem zrG {K:PySem.W.Frag}{H:Hp}{a:Addr}{ns:List Int}{F:PF}{E:XK}(m:zbR F)(h:Rd H a (.lst (ns.map V.int))\/KX K a (ns.map V.int))(hF:F [.lst (ns.map PV.int)] λd k=>d=.bl true):spP K F [.ref a] H (λv _=>v=.bl true) E:=by
 refine⟨λb=>H b≠none,[.lst (ns.map PV.int)],λb hb=>hb,DenL.cons ?_ DenL.nil,m _ _ _ (λd k e v F' H' p=>?_) hF⟩
 ·simp only[Den];refine⟨a,ns.map V.int,rfl,?_,zhr ns⟩;rcases h with h | h
  ·refine .inl ⟨?_,h⟩;rcases h with h | ⟨o,h⟩<;>(show H a≠none;rw[h];exact λz=>nomatch z)
  ·exact .inr h
 ·subst e;cases k with
  | frz=>have q:Den K F' H' (.bl true) v:=p.opd;simpa only[Den]using q
  | new=>obtain⟨b,_,_,_,o⟩:=p.opd;exact o.elim
  | own i=>obtain⟨z,_⟩:=p.opd;simp at z
theorem zsY {l:PySem.W.OpenLaw}{k:Nat}{q:Program}{loose:List Str}{XP:(Str->Option Value)->Heap->Prop}{YP:World->Heap->Prop}{d:DefRec}{K:Params->PySem.W.Frag}{FL:PF}{x:Str}
  (hn:l.most=some 63) (hdf:d.params.defaults=[]) (hr:Room k callerA) (m:zbR FL)
  (hY:∀(w:World) (h:Heap),YP w h->(K w.params).In h)
  (F:∀(w:World) (mg:Str->Option Value) (fa:Addr) (h:Heap),(K w.params).In h->h.Ns mainGlobals mg->mg d.name=some (.ref fa)->
   ∃fd:FuncData,(∀(s:Shared) (u:Value),BindsTo s fd ⟨[u],[]⟩ [(x,u)])/\∀base:Heap,(K w.params).In base->base.Ns mainGlobals mg->FnOk l.prog w (K w.params) mg base CX0 k fa fd [x] (spP (K w.params) FL))
  (hF:∀ns:List Int,ns.length<=63->FL [.lst (ns.map PV.int)] λd k=>d=.bl true) :
  PySem.W.WalkO q loose XP YP l.row.toRowW d [] (λf vs=>PySem.call f vs):=by
 refine Att.ziw hn hdf λw s₀ s₁ mg mb fa o pm cd doc a vs ns G Y ho hd hcd hmg hobj hints hlen hg=>?_;have KX:=hY w _ Y;obtain⟨fd,hb,hFn⟩:=F w mg fa _ KX G.T.g hmg;exact zlS KX G.T.g G.T.b G.T.builtins G.T.nolimit hg hobj hints (Nat.le_trans hlen (by decide)) hr hFn hb (λH hO hS=>zrG m hS (hF ns hlen)) λH e s' z=>z
end PL
namespace L2
open PySem PySem.Spec PyProof.Rows
noncomputable def zcA (d:Addr)(H:Hp):Hp:=match H d with
 | some (.frz _ u)=>upd H d u
 | _=>H
noncomputable def Sw:HO->Prop
 | .dK _=>True
 | .dT _=>True
 | .frz _ _=>True
 | _=>False
section
variable {X:Cx}{pins:List (Addr×Obj)}{σ:List (Option V)}{H:Hp}{s:Shared}{d:Addr}{u v:HO}
theorem HOk.swap {P:Program}{w:World}{h:Heap}(ok:HOk P w H h)(e:H d=some u)(hu:Sw u)(new:zaV P w (upd H d v) h d v):HOk P w (upd H d v) h:=λb o q=>by
 by_cases hb:b=d
 ·subst hb;rw[zag]at q;cases q;exact new
 ·rw[zaf hb]at q;refine(ok b o q).stay (λc v hc r=>r) (λc r=>?_) λc xs r=>?_
  ·have ne:c≠d:=λz=>by subst z;rw[e]at r;cases r;exact hu
   rw[zaf ne];exact r
  ·have ne:c≠d:=λz=>by subst z;rw[e]at r;cases r;exact hu
   rw[zaf ne];exact r
theorem Inv.swap (I:Inv X pins σ H s)(e:H d=some u)(hu:Sw u)(hf:∀o t,X.H₀ d≠some (.frz o t))(new:zaV X.prog X.w (upd H d v) s.heap d v):Inv X pins σ (upd H d v) s:=by
 have ne:∀b,H b=none->b≠d:=λb n z=>by subst z;rw[e]at n;cases n
 refine⟨I.ok,I.os,I.bare,⟨I.base.keep,I.base.slot,λb o q n hx=>?_,I.base.there,λb xs q=>?_,λb o t q=>?_,λb ps q=>?_⟩,I.loc,I.cell,?_,λx c q=>?_,λp hp=>?_,I.hok.swap e hu new,I.len⟩
 ·have:=I.base.free b o q n hx;rw[zaf (ne b this)];exact this
 ·have:=I.base.tups b xs q;have nb:b≠d:=λz=>by subst z;rw[e]at this;cases this;exact hu
  rw[zaf nb];exact this
 ·have nb:b≠d:=λz=>by subst z;exact hf o t q
  rw[zaf nb];exact I.base.frzs b o t q
 ·obtain⟨more,q'⟩:=I.base.tbls b ps q;have nb:b≠d:=λz=>by subst z;rw[e]at q';cases q';exact hu
  exact⟨more,by rw[zaf nb];exact q'⟩
 ·rw[zaf (ne _ I.free)];exact I.free
 ·rw[zaf (ne _ (I.freeC x c q))];exact I.freeC x c q
 ·obtain⟨p1,p2,p3⟩:=I.pin p hp;exact⟨p1,by rw[zaf (ne _ p2)];exact p2,p3⟩
theorem Inv.zrH (I:Inv X pins σ H s)(e:H d=some u)(hu:∀o t,u≠.frz o t):∀o t,X.H₀ d≠some (.frz o t):=λo t q=>by
 have:=I.base.frzs d o t q;rw[e]at this;exact hu o t (Option.some.inj this)
theorem Inv.zpt {kvs:List (Key×V)}(I:Inv X pins σ H s)(e:H d=some (.dK kvs)):∃o,s.heap.get? d=some o/\Inv X pins σ (upd H d (.frz o (.dK kvs))) s:=by
 obtain⟨z1,z2,vs,r,o,es,ep,ho,rest⟩:=(show zaV X.prog X.w H s.heap d (.dK kvs) from I.hok d _ e);exact⟨o,ho,I.swap e trivial (I.zrH e λ_ _ z=>nomatch z) ⟨ho,z1,z2,vs,r,o,es,ep,ho,rest⟩⟩
theorem Inv.thaw (I:Inv X pins σ H s)(hf:∀o t,X.H₀ d≠some (.frz o t)):Inv X pins σ (zcA d H) s:=by
 unfold zcA;split
 ·rename_i o t e
  obtain⟨ho,ot⟩:=(show zaV X.prog X.w H s.heap d (.frz o t) from I.hok d _ e);refine I.swap e trivial hf ?_;refine ot.stay (λc v hc r=>r) (λc r=>?_) λc xs r=>?_
  ·have ne:c≠d:=λz=>by subst z;rw[e]at r;cases r
   rw[zaf ne];exact r
  ·have ne:c≠d:=λz=>by subst z;rw[e]at r;cases r
   rw[zaf ne];exact r
 ·exact I
end
noncomputable def ItK (d:Addr)(o:Obj)(kvs:List (Key×V)):It:=
 ⟨λi H=>H d=some (.frz o (.dK kvs))/\i<kvs.length,λi H x H'=>H'=H/\∃kv,kvs[i]? = some kv/\x=kV kv.1,λi H=>H d=some (.frz o (.dK kvs))/\kvs.length<=i⟩
noncomputable def ItV (d:Addr)(o:Obj)(kvs:List (Key×V)):It:=
 ⟨λi H=>H d=some (.frz o (.dK kvs))/\i<kvs.length,λi H x H'=>H'=H/\∃kv,kvs[i]? = some kv/\x=kv.2,λi H=>H d=some (.frz o (.dK kvs))/\kvs.length<=i⟩
section
variable {P:Program}{w:World}{K:PySem.W.Frag}{tg:Expr}
theorem zoA {kvs:List (Key×V)}{vs:List (Key×Value)}{i:Nat}{kv:Key×V}(r:KV kvs vs)(h:kvs[i]? = some kv):∃u,vs[i]? = some (kv.1,u)/\RelV kv.2 u:=by
 induction r generalizing i with
 | nil=>simp at h
 | @cons p q ps qs h1 h2 ih=>
  cases i with
  | zero=>simp at h;subst h;exact⟨q.2,by simp[h1.1],h1.2⟩
  | succ i=>simpa using ih (by simpa using h)
theorem zpu {k:Key}{u:Value}(h:(zay P w).is k u=true):RelV (kV k) u:=by
 have h':zim k u=true:=h;rcases zaB h' with ⟨i,t,rfl,rfl⟩ | ⟨x,t,rfl,rfl⟩
 ·exact⟨t,rfl⟩
 ·exact⟨t,rfl⟩
theorem zjB {X:Cx}{pins:List (Addr×Obj)}{σ:St}{H:Hp}{s:Shared}{d:Addr}{o:Obj}{kvs:List (Key×V)}(I:Inv X pins σ H s)(e:H d=some (.frz o (.dK kvs))):s.heap.get? d=some o/\(d == sysModules)=false/\∃vs ep,KV kvs vs/\s.heap.DictAt (zay X.prog X.w) d vs ep:=by
 obtain⟨ho,_,hs,vs,r,hd⟩:=(show zaV X.prog X.w H s.heap d (.frz o (.dK kvs)) from I.hok d _ e);obtain⟨ep,hd⟩:=hd.dictAt;exact⟨ho,hs,vs,ep,r,hd⟩
theorem zlT {X:Cx}{pins:List (Addr×Obj)}{σ:St}{H:Hp}{s:Shared}{d:Addr}{o:Obj}{kvs:List (Key×V)}{es:Array DictEntry}{ep:Nat}(I:Inv X pins σ H s)(e:H d=some (.frz o (.dK kvs)))(hd:o.data=.dict es ep):(d == sysModules)=false/\∃vs,KV kvs vs/\s.heap.DictAt (zay X.prog X.w) d vs ep:=by
 obtain⟨ho,hs,vs,ep',r,o',es',ho',c,hd',rest⟩:=zjB I e;rw[ho]at ho';cases ho';rw[hd]at hd';injection hd' with e1 e2;subst e1 e2;exact⟨hs,vs,r,o,es,ho,c,hd,rest⟩
theorem zlU (d it:Addr)(o:Obj)(kvs:List (Key×V)){es:Array DictEntry}{ep:Nat}(hd:o.data=.dict es ep):Turn P w K tg (ItK d o kvs) [it] it (λi h=>h.IsKeyIter it d i kvs.length ep) where
 mem:=by simp
 obj:=λi h st b hb=>by
  have e:b=it:=by simpa using hb
  subst e;obtain⟨o,e,c,d⟩:=st;exact⟨o,e,λv z=>by rw[d]at z;cases z⟩
 keep:=λi h h' st k=>by
  obtain⟨o,e,r⟩:=st;exact⟨o,k it (by simp) o e,r⟩
 item:=by
  intro X hP hw hK hc i pins s σ H E I hf st hg;subst hP hw hK;obtain⟨hq,hi⟩:=hg;obtain⟨hs,vs,r,hm⟩:=zlT I hq hd;have hl:kvs.length=vs.length:=KV.length r;obtain⟨u,hu,ru⟩:=zoA r (List.getElem?_eq_getElem hi);obtain⟨f0,f1,f2,f3,f4,f5⟩:=hf it (by simp);rw[hl]at st;refine wpAny_pyNext_dict_item st hm hu λkey h' hk st' sb=>?_;have I1:Inv X pins σ H { s with heap:=h' }:=I.turned (t':=s.toks) (λb o hb e=>(sb.2 b hb).trans e) f0 f1 f3 f4 f5;obtain⟨o,e,c,d⟩:=id st';exact⟨key,rfl,znb (s:={ s with heap:=h' }) e c d (by decide) ⟨kV kvs[i].1,H,I1,zpu hk,⟨rfl,kvs[i],List.getElem?_eq_getElem hi,rfl⟩,by rw[hl];exact st',λb hb=>(hf b hb).1⟩⟩
 done:=by
  intro X hP hw hK hc i pins s σ H E I hf st hg;subst hP hw hK;obtain⟨hq,hi⟩:=hg;obtain⟨hs,vs,r,hm⟩:=zlT I hq hd;have hl:kvs.length=vs.length:=KV.length r;obtain⟨f0,f1,f2,f3,f4,f5⟩:=hf it (by simp);rw[hl]at st;exact wpAny_pyNext_dict_end (I.ok.hd hc) st hm (List.getElem?_eq_none (by lia)) λh' eb=>⟨rfl,I.turned (t':=s.toks) (λb o hb e=>eb b o hb e) f0 f1 f3 f4 f5⟩
 self:=λ_ _ _ _ _ st h=>wpAny_pyIter_keyiter st h
end
section
variable {X:Cx}{tg l:Expr}{td:TE}{apos cpos:Pos}
noncomputable def zkE (X:Cx)(d:Addr):Prop:=∀o t,X.H₀ d≠some (.frz o t)
noncomputable def iD (X:Cx)(It':Addr->Obj->List (Key×V)->It)(td:TE):TI:=λσ H R=>td σ H λx H1=>∃d kvs,x=.ref d/\((H1 d=some (.dK kvs)/\(zkE X d->∀o,R (It' d o kvs) (upd H1 d (.frz o (.dK kvs)))))\/∃o,H1 d=some (.frz o (.dK kvs))/\R (It' d o kvs) H1)
theorem zrI {It':Addr->Obj->List (Key×V)->It}{pins:List (Addr×Obj)}{σ:St}{H1:Hp}{s:Shared}{R:It->Hp->Prop}{d:Addr}{kvs:List (Key×V)}(I:Inv X pins σ H1 s)(h:(H1 d=some (.dK kvs)/\(zkE X d->∀o,R (It' d o kvs) (upd H1 d (.frz o (.dK kvs)))))\/∃o,H1 d=some (.frz o (.dK kvs))/\R (It' d o kvs) H1) :
  ∃(o:Obj) (es:Array DictEntry) (ep:Nat) (H2:Hp),o.data=.dict es ep/\Inv X pins σ H2 s/\H2 d=some (.frz o (.dK kvs))/\R (It' d o kvs) H2:=by
 have dat:∀ {H2:Hp} {o:Obj},Inv X pins σ H2 s->H2 d=some (.frz o (.dK kvs))->∃es ep,o.data=.dict es ep:=λ{H2 o} I2 e=>by
  obtain⟨ho,_,vs,ep,_,o',es,ho',_,hd',_⟩:=zjB I2 e;rw[ho]at ho';cases ho';exact⟨es,ep,hd'⟩
 rcases h with ⟨e,h⟩ | ⟨o,e,h⟩
 ·obtain⟨o,ho,I2⟩:=I.zpt e;obtain⟨es,ep,q⟩:=dat I2 zag;exact⟨o,es,ep,_,q,I2,zag,h (I.zrH e λ_ _ z=>nomatch z) o⟩
 ·obtain⟨es,ep,q⟩:=dat I e;exact⟨o,es,ep,H1,q,I,e,h⟩
theorem zpv (hl:PE X l td):PI X tg l (iD X ItK td):=by
 intro pins s σ H R I h;refine thn (hl pins s σ H _ I h) λv s1 ⟨x,H1,I1,r1,q1⟩=>?_;obtain⟨d,kvs,e,q1⟩:=q1;subst e;cases r1;obtain⟨o,es,ep,H2,hd,I2,e2,q2⟩:=zrI I1 q1;obtain⟨hs,vs,r,hm⟩:=zlT I2 e2 hd;have hl:kvs.length=vs.length:=KV.length r;refine wpAny_pyIter_dict hs hm ?_;refine⟨s1.heap.objs.size,[s1.heap.objs.size],_,_,H2,rfl,I2.kept (t':=s1.toks) λb o e=>Heap.get?_push_of_some _ e,zlU d _ o kvs hd,⟨_,Heap.get?_push_size _ rfl,rfl,by rw[hl];rfl⟩,λb hb=>?_,q2⟩;have e:b=s1.heap.objs.size:=by simpa using hb
 subst e;exact I2.fpOk (Nat.le_refl _) (I2.hok.fresh (Nat.le_refl _))
noncomputable def zjC (X:Cx)(D:Ends):Ends:=⟨λσ H=>D.nx σ H\/∃d,zkE X d/\D.nx σ (zcA d H),λv H=>D.rt v H\/∃d,zkE X d/\D.rt v (zcA d H),λσ H=>D.bk σ H\/∃d,zkE X d/\D.bk σ (zcA d H),λσ H=>D.ct σ H\/∃d,zkE X d/\D.ct σ (zcA d H)⟩
theorem PS.star {X:Cx}{st:Stmt}{t:TS}(h:PS X st t):PS X st (λD σ H=>t (zjC X D) σ H):=by
 intro pins s σ H D I q;refine thn (h pins s σ H (zjC X D) I q) λf s1 q1=>?_;cases f with
 | next=>
  obtain⟨σ',H',I',q' | ⟨d,hf,q'⟩⟩:=q1
  ·exact⟨σ',H',I',q'⟩
  ·exact⟨σ',_,I'.thaw hf,q'⟩
 | brk=>
  obtain⟨σ',H',I',q' | ⟨d,hf,q'⟩⟩:=q1
  ·exact⟨σ',H',I',q'⟩
  ·exact⟨σ',_,I'.thaw hf,q'⟩
 | cont=>
  obtain⟨σ',H',I',q' | ⟨d,hf,q'⟩⟩:=q1
  ·exact⟨σ',H',I',q'⟩
  ·exact⟨σ',_,I'.thaw hf,q'⟩
 | ret u=>
  obtain⟨v,σ',H',I',r',q' | ⟨d,hf,q'⟩⟩:=q1
  ·exact⟨v,σ',H',I',r',q'⟩
  ·exact⟨v,σ',_,I'.thaw hf,r',q'⟩
end
end L2
namespace PL
open PySem PySem.Spec L2
open PyProof.Rows hiding St
noncomputable def keyP:Key->PV
 | .inl i=>.int i
 | .inr x=>.str x
theorem zpw {K:PySem.W.Frag}{Fz:FZ}{H:Hp}(k:Key):Den K Fz H (keyP k) (kV k):=by
 cases k<;>simp only[keyP,kV,Den]
theorem zip_get {ks:List Key}{xs:List V}{i:Nat}{kv:Key×V}(h:(ks.zip xs)[i]? = some kv):ks[i]? = some kv.1/\xs[i]? = some kv.2:=by
 rw[List.getElem?_zip_eq_some]at h;exact h
section
variable {K:PySem.W.Frag}{Fz F':FZ}{ρ:PEnv}{σ:St}{H H1 H':Hp}{d:Addr}{o:Obj}{kvs:List (Key×V)}
theorem zfh (e:H1 d=some (.dK kvs)):Keep Fz H1 (upd H1 d (.frz o (.dK kvs))) where
 rd' b u pl f r:=by
  by_cases hb:b=d
  ·subst hb;rcases r with r | ⟨o',r⟩
   ·rw[e]at r;cases r;exact .inr ⟨o,zag⟩
   ·rw[e]at r;cases r
  ·rcases r with r | ⟨o',r⟩
   ·exact .inl (by rw[zaf hb];exact r)
   ·exact .inr ⟨o',by rw[zaf hb];exact r⟩
 tup b xs r:=by
  have hb:b≠d:=λz=>by subst z;rw[e]at r;cases r
  rw[zaf hb];exact r
theorem zee {u:HO}(e:H' d=some (.frz o u)):zcA d H'=upd H' d u:=by unfold zcA;rw[e]
theorem zhs (e:H' d=some (.frz o (.dK kvs))):Keep F' H' (zcA d H') where
 rd' b u pl f r:=by
  rw[zee e];by_cases hb:b=d
  ·subst hb;rcases r with r | ⟨o',r⟩
   ·rw[e]at r;cases r;exact pl.elim
   ·rw[e]at r;cases r;exact .inl zag
  ·rcases r with r | ⟨o',r⟩
   ·exact .inl (by rw[zaf hb];exact r)
   ·exact .inr ⟨o',by rw[zaf hb];exact r⟩
 tup b xs r:=by
  rw[zee e];have hb:b≠d:=λz=>by subst z;rw[e]at r;cases r
  rw[zaf hb];exact r
theorem Rel.keep (R:Rel K Fz ρ σ H)(kp:Keep Fz H H')(ha:∀b,Fz b->H' b≠none)(ho:∀a w,¬ Fz a->H a=some w->H' a=some w):Rel K Fz ρ σ H':=
 ⟨ha,R.len,λi d e=>by
  obtain⟨v,q1,q2⟩:=R.frz i d e;exact⟨v,q1,Den.mono kp (λ_ h=>h) _ _ q2⟩,λi d e=>by
  obtain⟨a,q1,q2,q3⟩:=R.own i d e;exact⟨a,q1,q2,q3.mono kp (λ_ h=>h) λw hw=>ho a w q2 hw⟩,R.inj⟩
theorem Rel.freeze (R:Rel K Fz ρ σ H1)(f:Fz d)(e:H1 d=some (.dK kvs)):Rel K Fz ρ σ (upd H1 d (.frz o (.dK kvs))):=
 R.keep (zfh e) (λb hb=>by
  by_cases z:b=d
  ·subst z;rw[zag];exact λz=>nomatch z
  ·rw[zaf z];exact R.al b hb) λa w na hw=>by
  have:a≠d:=λz=>by subst z;exact na f
  rw[zaf this];exact hw
theorem Rel.thaw (R:Rel K F' ρ σ H')(f:F' d)(e:H' d=some (.frz o (.dK kvs))):Rel K F' ρ σ (zcA d H'):=by
 have kp:=zhs (F':=F') e;rw[zee e]at kp ⊢;exact R.keep kp (λb hb=>by
  by_cases z:b=d
  ·subst z;rw[zag];exact λz=>nomatch z
  ·rw[zaf z];exact R.al b hb) λa w na hw=>by
  have:a≠d:=λz=>by subst z;exact na f
  rw[zaf this];exact hw
theorem Step.thaw (s:Step ρ σ Fz (upd H1 d (.frz o (.dK kvs))) F' H')(e:H1 d=some (.dK kvs))(no:¬ zax ρ σ d):Step ρ σ Fz H1 F' (zcA d H'):=by
 have e':H' d=some (.frz o (.dK kvs)):=s.keep d _ zag no;rw[zee e'];refine⟨s.sub,λb hb=>?_,λb w hw n=>?_⟩
 ·rcases s.new b hb with z | z | z
  ·exact .inl z
  ·by_cases hbd:b=d
   ·subst hbd;rw[zag]at z;cases z
   ·rw[zaf hbd]at z;exact .inr (.inl z)
  ·exact .inr (.inr z)
 ·by_cases hbd:b=d
  ·subst hbd;rw[e]at hw;cases hw;exact zag
  ·rw[zaf hbd];exact s.keep b w (by rw[zaf hbd];exact hw) n
end
noncomputable def zlV (V2:Bool):List Key->List PV->List PV:=λks ds=>if V2 then ds else ks.map keyP
noncomputable def iDic (V2:Bool)(te:TPE):TPI:=λρ Q=>te ρ λd k=>∃ks ds,d=.dK ks ds/\Q (zlV V2 ks ds) (isOwn k)
noncomputable def ItX (V2:Bool):Addr->Obj->List (Key×V)->It:=if V2 then ItV else ItK
theorem zht {K:PySem.W.Frag}{Fz:FZ}{V2:Bool}{d:Addr}{o:Obj}{ks:List Key}{ds:List PV}{xs:List V}{H:Hp}(hl:ks.length=xs.length)(f:Fz d)(e:H d=some (.frz o (.dK (ks.zip xs))))(hd:DenL K Fz H ds xs)(ow:Bool)
  (hst:∀H2,(Same H H2\/(ow=false/\ziz Fz H H2))->H2 d=some (.frz o (.dK (ks.zip xs)))/\Keep Fz H H2):Walk K Fz ow (ItX V2 d o (ks.zip xs)) (zlV V2 ks ds) H:=λH2 hH i=>by
 obtain⟨e2,kp⟩:=hst H2 hH;have g3:DenL K Fz H2 ds xs:=DenL.mono kp (λ_ h=>h) _ _ hd;have hlen:=g3.length;have zl:(ks.zip xs).length=xs.length:=by rw[List.length_zip];lia
 cases V2 with
 | true=>
  refine⟨λc hc=>?_,λhi=>⟨e2,by rw[zl];have:ds.length<=i:=hi;lia⟩⟩;have hc':ds[i]? = some c:=hc;obtain⟨v,q1,q2⟩:=g3.get hc';have hi:i<xs.length:=(List.getElem?_eq_some_iff.mp q1).1;refine⟨⟨e2,by lia⟩,λx H3 ⟨e3,kv,y1,y2⟩=>?_⟩;subst e3;have:=(zip_get y1).2;rw[q1]at this;cases this;subst y2;exact⟨Same.refl _,q2⟩
 | false=>
  refine⟨λc hc=>?_,λhi=>⟨e2,by rw[zl];have:(ks.map keyP).length<=i:=hi;rw[List.length_map]at this;lia⟩⟩;have hc':(ks.map keyP)[i]? = some c:=hc;rw[List.getElem?_map]at hc';cases hk:ks[i]? with
  | none=>rw[hk]at hc';cases hc'
  | some k=>
   rw[hk]at hc';cases hc';have hi:i<ks.length:=(List.getElem?_eq_some_iff.mp hk).1;refine⟨⟨e2,by lia⟩,λx H3 ⟨e3,kv,y1,y2⟩=>?_⟩;subst e3;have:=(zip_get y1).1;rw[hk]at this;cases this;subst y2;exact⟨Same.refl _,zpw _⟩
structure PuID (X:Cx)(tg iter:Expr)(V2:Bool)(te:TPE):Prop where
 mono:∀ρ Q Q',(∀d k,Q d k->Q' d k)->te ρ Q->te ρ Q'
 run:PI X tg iter (iD X (ItX V2) (lift X.K te))
theorem zlW {X:Cx}{tg e:Expr}{te:TPE}(he:PuE X e te):PuID X tg e false te:=⟨he.mono,zpv he.run⟩
theorem zlX {X:Cx}{tg iter:Expr}{V2:Bool}{te:TPE}(h:PuID X tg iter V2 te):∀ρ Q Q',(∀its o,Q its o->Q' its o)->iDic V2 te ρ Q->iDic V2 te ρ Q':=λρ Q Q' m q=>h.mono ρ _ _ (λd k ⟨ks,ds,e,q⟩=>⟨ks,ds,e,m _ _ q⟩) q
section
variable {X:Cx}{tg iter:Expr}{body:List Stmt}{V2:Bool}{te:TPE}{g:TPG}{tb:TPS}{pos:Pos}
theorem znG (hc:X.calm=true)(hp:PassesOwn (model X.prog X.w) X.A X.env X.xe)(hi:PuID X tg iter V2 te)(hg:PuG X tg g)(hb:PuSs X body tb)(hs:∀x,foldedSetIterable iter X.env x=pure x:=by intro _;rfl):PuS X (.For tg iter body [] pos) (pFor (iDic V2 te) g tb) where
 mono:=zhm (zlX hi) hg.mono hb.mono
 run:=PS.weak (zjc hp hc hi.run hg.run hb.run hs).star λD σ H h=>by
  obtain⟨ρ,Fz,R,h⟩:=h;refine⟨ρ,Fz,R,hi.mono ρ _ _ (λd k q v Fz1 H1 p=>?_) h⟩;obtain⟨ks,ds,rfl,ho,Iv,h0,hstep,hdone⟩:=q;have hk:k=.frz\/k=.new:=by
   cases k with
   | frz=>exact .inl rfl
   | new=>exact .inr rfl
   | own j=>cases ho
  obtain⟨F2,x2,s2,dn⟩:=p.frozen hk;simp only[Den]at dn;obtain⟨a,xs,rfl,fa,hr,hl,hd⟩:=dn;have R2:=R.ext x2;have no:¬ zax ρ σ a:=λ⟨i,e,h1,h2⟩=>by
   obtain⟨b,q1,q2,_⟩:=R2.own i e h1;rw[h2]at q1;cases q1;exact q2 fa
  refine⟨a,ks.zip xs,rfl,?_⟩;rcases hr with hr | ⟨o,hr⟩
  ·refine .inl ⟨hr,λnf o=>?_⟩;have kf:=zfh (Fz:=F2) (o:=o) hr;have R3:Rel X.K F2 ρ σ (upd H1 a (.frz o (.dK (ks.zip xs)))):=R2.freeze fa hr;refine zgk hg.mono hb.mono R3 (zht hl fa zag (DenL.mono kf (λ_ h=>h) _ _ hd) false λH2 hH=>?_) Iv h0 hstep ?_ hdone
   ·rcases hH with hH | ⟨_,hH⟩
    ·exact⟨hH _ _ zag,.of hH⟩
    ·exact⟨hH _ _ zag (.inr trivial),.mk' hH⟩
   ·have tr:∀ {F' H'},Step ρ σ F2 (upd H1 a (.frz o (.dK (ks.zip xs)))) F' H'->H' a=some (.frz o (.dK (ks.zip xs)))/\F' a/\Step ρ σ Fz H F' (zcA a H'):=λ{F' H'} s'=>
     ⟨s'.keep _ _ zag no,s'.sub _ fa,(Step.of x2).trans (zar.refl ρ σ H) (s'.thaw hr no)⟩
    have ow:∀ {ρ' σ'},zar ρ σ (upd H1 a (.frz o (.dK (ks.zip xs)))) ρ' σ'->zar ρ σ H ρ' σ':=λ{ρ' σ'} o' b hb=>by
     rcases o' b hb with z | z
     ·exact .inl z
     ·by_cases hba:b=a
      ·subst hba;rw[zag]at z;cases z
      ·rw[zaf hba]at z;exact .inr (x2.same.free z)
    refine⟨λρ' q σ' F' H' s' o' R'=>?_,λe ke q v F' H' s' al' r'=>?_,λρ' q σ' F' H' s' o' R'=>?_,λρ' q σ' F' H' s' o' R'=>?_⟩
    ·obtain⟨t1,t2,t3⟩:=tr s';exact .inr ⟨a,nf,q σ' F' _ t3 (ow o') (R'.thaw t2 t1)⟩
    ·obtain⟨t1,t2,t3⟩:=tr s';have kp:=zhs (F':=F') t1;refine .inr ⟨a,nf,q v F' _ t3 (λb hb=>?_) ?_⟩
     ·rw[zee t1];by_cases hba:b=a
      ·subst hba;rw[zag];exact λz=>nomatch z
      ·rw[zaf hba];exact al' b hb
     ·cases ke with
      | frz=>exact Den.mono kp (λ_ h=>h) _ _ r'
      | own j=>exact r'
      | new=>
       obtain⟨c,e,nfc,oc,w⟩:=r';have hca:c≠a:=λz=>by subst z;exact nfc t2
       refine⟨c,e,nfc,oc.mono kp (λ_ h=>h) (λw hw=>by rw[zee t1,zaf hca];exact hw),?_⟩;rcases w with w | w
       ·exact .inl w
       ·rw[zaf hca]at w;exact .inr (x2.same.free w)
    ·obtain⟨t1,t2,t3⟩:=tr s';exact .inr ⟨a,nf,q σ' F' _ t3 (ow o') (R'.thaw t2 t1)⟩
    ·obtain⟨t1,t2,t3⟩:=tr s';exact .inr ⟨a,nf,q σ' F' _ t3 (ow o') (R'.thaw t2 t1)⟩
  ·refine .inr ⟨o,hr,zgk hg.mono hb.mono R2 (zht hl fa hr hd false λH2 hH=>?_) Iv h0 hstep ?_ hdone⟩
   ·rcases hH with hH | ⟨_,hH⟩
    ·exact⟨hH _ _ hr,.of hH⟩
    ·exact⟨hH _ _ hr (.inr trivial),.mk' hH⟩
   ·have le:=zci (K:=X.K) (D:=D) (Step.of x2) (zar.refl ρ σ H);exact⟨λρ' q σ' F' H' s' o' R'=>.inl (le.nx ρ' q σ' F' H' s' o' R'),λe ke q v F' H' s' al' r'=>.inl (le.rt e ke q v F' H' s' al' r'),λρ' q σ' F' H' s' o' R'=>.inl (le.bk ρ' q σ' F' H' s' o' R'),λρ' q σ' F' H' s' o' R'=>.inl (le.ct ρ' q σ' F' H' s' o' R')⟩
end
noncomputable def dgP {κ:Type} [DecidableEq κ] (ks:List κ)(ds:List PV)(k:κ):Option PV:=((ks.zip ds).find? λkv=>decide (kv.1=k)).map (·.2)
section
variable {K:PySem.W.Frag}{Fz:FZ}{H:Hp}
theorem zhu {κ:Type} [DecidableEq κ]:∀(ks:List κ)(ds:List PV)(xs:List V)(k:κ),DenL K Fz H ds xs->(∀d,dgP ks ds k=some d->∃v,valV (ks.zip xs) k=some v/\Den K Fz H d v)/\(dgP ks ds k=none->valV (ks.zip xs) k=none)
 | [],ds,xs,k,h=>⟨λd e=>by simp[dgP]at e,λ_=>rfl⟩
 | c::ks,[],xs,k,h=>by
  simp only[DenL]at h;subst h;exact⟨λd e=>by simp[dgP]at e,λ_=>rfl⟩
 | c::ks,d0::ds,xs,k,h=>by
  simp only[DenL]at h;obtain⟨v,r,rfl,h1,h2⟩:=h;have ih:=zhu ks ds r k h2;by_cases e:c=k
  ·subst e;refine⟨λd hd=>⟨v,by simp[valV],?_⟩,λhn=>?_⟩
   ·have:d0=d:=by simpa[dgP]using hd
    subst this;exact h1
   ·simp[dgP]at hn
  ·refine⟨λd hd=>?_,λhn=>?_⟩
   ·have:dgP ks ds k=some d:=by simpa[dgP,List.find?_cons,e]using hd
    obtain⟨w,q1,q2⟩:=ih.1 d this;exact⟨w,by simpa[valV,List.find?_cons,e]using q1,q2⟩
   ·have:dgP ks ds k=none:=by simpa[dgP,List.find?_cons,e]using hn
    have:=ih.2 this;simpa[valV,List.find?_cons,e]using this
theorem zeO {k:Key}{x:V}(h:Root K Fz H (keyP k) x):x=kV k:=by
 cases k<;>simpa only[keyP,kV,Root,Den]using h
theorem zpx {ks:List Key}{ds:List PV}{x:V}(h:Root K Fz H (.dK ks ds) x):∃a xs,x=.ref a/\Rd H a (.dK (ks.zip xs))/\ks.length=xs.length/\DenL K Fz H ds xs:=by
 simpa only[Root]using h
noncomputable def rDI (neg:Bool):R2:=λy x H Q=>∃a o,x=.ref a/\DGet H a y o/\Q (.bl (if neg then !o.isSome else o.isSome)) H
noncomputable def pDI (neg:Bool):P2:=λe d Q=>∃ks ds k,d=.dK ks ds/\e=keyP k/\Q (.bl (if neg then !(dgP ks ds k).isSome else(dgP ks ds k).isSome)) .frz
theorem zrJ {neg:Bool}:POp K (rDI neg) (pDI neg) where
 mono d e Q Q' m h:=by obtain⟨ks,ds,k,e1,e2,q⟩:=h;exact⟨ks,ds,k,e1,e2,m _ _ q⟩
 run Fz H x y d e Q al rx ry h:=by
  obtain⟨ks,ds,k,rfl,rfl,q⟩:=h;obtain⟨a,xs,rfl,r,hl,hd⟩:=zpx ry;obtain rfl:=zeO rx;have e4:(valV (ks.zip xs) k).isSome=(dgP ks ds k).isSome:=by
   cases e:dgP ks ds k with
   | none=>rw[(zhu ks ds xs k hd).2 e];rfl
   | some d'=>obtain⟨v,e5,_⟩:=(zhu ks ds xs k hd).1 d' e;rw[e5];rfl
  refine⟨a,valV (ks.zip xs) k,rfl,.inl ⟨_,k,r,rfl,rfl⟩,?_⟩;rw[e4];exact q _ Fz H (.val al (by simp only[Den]))
end
noncomputable def zdC:PF:=λds Q=>∃i j:Int,ds=[.int i,.int j]/\Q (.int (if j<i then j else i)) .frz
theorem zpy {K:PySem.W.Frag}:zdZ K (λxs H Q=>∃i j,xs=[V.int i,.int j]/\Q (.int (if j<i then j else i)) H) zdC where
 mono ds Q Q' m h:=by obtain⟨i,j,e,q⟩:=h;exact⟨i,j,e,m _ _ q⟩
 run Fz H ds vs Q al hr h:=by
  obtain⟨i,j,rfl,q⟩:=h;obtain⟨u,v,rfl,h1,h2⟩:=zlO hr;exact⟨i,j,by rw[zat h1,zat h2],q _ Fz H (.val al (by simp only[Den]))⟩
section
variable {X:Cx}{e:Expr}{es:List Expr}{t:TPA}{p pos:Pos}
theorem zpz (hc:X.calm=true)(hg:Gl X "min") (hm:X.mg "min" = none) (ha:PuA X (e::es) t) (he:starEach (e::es) X.env=(false,eval e X.env)::starEach es X.env:=by rfl) (hpl:(backTo pos (starEach es X.env)).any (·.1)=false:=by rfl):PuE X (.Call (.Name "min" p) (e::es) [] pos) (tB zdC t):=
 zbS (zkW hc) zpy hg hm bMin ha (by decide) (by decide) he hpl
end
theorem DenL.rew' {K:PySem.W.Frag}{Fz:FZ}{H:Hp}{ds:List PV}{xs:List V}{a:Addr}{o u:HO}(ha:H a=some u)(hi:¬ Imm u)(nf:¬ Fz a)(h:DenL K Fz H ds xs):DenL K Fz (upd H a o) ds xs:=
 DenL.mono (.mk' λb w e hw=>by
  have ne:b≠a:=λz=>by
   subst z;rcases hw with hw | hw
   ·exact nf hw
   ·rw[ha]at e;cases e;exact hi hw
  rw[zaf ne];exact e) (λ_ h=>h) _ _ h
theorem zlY {K:PySem.W.Frag}{Fz:FZ}{ρ:PEnv}{σ:St}{H:Hp}{i:Nat}{ks:List Key}{ds:List PV}(R:Rel K Fz ρ σ H)(h:ρ[i]? = some (some (.dK ks ds,true))):∃a xs,σ[i]? = some (some (.ref a))/\H a=some (.dK (ks.zip xs))/\ks.length=xs.length/\DenL K Fz H ds xs/\¬ Fz a:=by
 obtain⟨a,e,nf,xs,h1,h2,h3⟩:=R.own i _ h;exact⟨a,xs,e,h1,h2,h3,nf⟩
theorem zgn {k:Kd}(hk:isOwn k=false):k=.frz\/k=.new:=by
 cases k with
 | frz=>exact .inl rfl
 | new=>exact .inr rfl
 | own j=>cases hk
noncomputable def putD (ks:List Key)(ds:List PV)(k:Key)(d:PV):List PV:=(ks.zip ds).map λkv=>if kv.1=k then d else kv.2
theorem zlZ {ks:List Key}{xs:List V}{k:Key}{v:V}:(ks.zip xs).map (λkv=>if kv.1=k then(kv.1,v) else kv)=ks.zip ((ks.zip xs).map λkv=>if kv.1=k then v else kv.2):=by
 induction ks generalizing xs with
 | nil=>rfl
 | cons c ks ih=>
  cases xs with
  | nil=>rfl
  | cons x xs=>
   simp only[List.zip_cons_cons,List.map_cons,ih];by_cases e:c=k<;>simp[e]
theorem ziF {K:PySem.W.Frag}{Fz:FZ}{H:Hp}(k:Key){d:PV}{v:V}(hd:Den K Fz H d v):∀(ks:List Key)(ds:List PV)(xs:List V),DenL K Fz H ds xs->DenL K Fz H (putD ks ds k d) ((ks.zip xs).map λkv=>if kv.1=k then v else kv.2)
 | [],ds,xs,h=>DenL.nil
 | c::ks,[],xs,h=>by simp only[DenL]at h;subst h;exact DenL.nil
 | c::ks,d0::ds,xs,h=>by
  simp only[DenL]at h;obtain⟨w,r,rfl,h1,h2⟩:=h;have ih:=ziF k hd ks ds r h2;simp only[putD,List.zip_cons_cons,List.map_cons]at ih ⊢;by_cases e:c=k
  ·rw[if_pos e,if_pos e];exact DenL.cons hd ih
  ·rw[if_neg e,if_neg e];exact DenL.cons h1 ih
noncomputable def hasK (ks:List Key)(c:Key):Bool:=ks.any λc'=>decide (c'=c)
noncomputable def zcm (i:Nat)(ti tv:TPE):TPS:=λρ O=>tv ρ λd k=>isOwn k=false/\∃ks ds,ρ[i]? = some (some (.dK ks ds,true))/\ks.length<sizeLine/\ti ρ λe _=>∃c:Key,e=keyP c/\
 O.nx (ρ.set i (some (if hasK ks c=true then .dK ks (putD ks ds c d) else .dK (ks++[c]) (ds++[d]),true)))
theorem zma {ks:List Key}{xs:List V}{c:Key}(h:ks.length=xs.length):((ks.zip xs).any λkv=>decide (kv.1=c))=hasK ks c:=by
 unfold hasK;induction ks generalizing xs with
 | nil=>simp
 | cons d ks ih=>
  cases xs with
  | nil=>simp at h
  | cons x xs=>
   simp only[List.zip_cons_cons,List.any_cons,ih (by simpa using h)]
section
variable {X:Cx}{x:Str}{ei ev:Expr}{ti tv:TPE}{p pos pos' apos cpos:Pos}
theorem zmb (i:Nat)(hu:X.A.units+1<cLine)(hi:PuE X ei ti)(hv:PuE X ev tv)(hN:X.N[i]? = some x:=by rfl)(hvs:Vis X.env.scope x:=by first | exact Or.inl rfl | exact Or.inr (Or.inl rfl) | exact Or.inr (Or.inr rfl))(hd:(x == ("__debug__" : Str))=false:=by decide) (hcd:(x == ("__classdict__" : Str))=false:=by decide)
  (hs:swapsWith ev (some (.Subscript (.Name x p) ei pos')) pos.line X.env=pure false:=by rfl):PuS X (.Assign [.Subscript (.Name x p) ei pos'] ev pos) (zcm i ti tv) where
 mono ρ O O' m h:=hv.mono ρ _ _ (λd k ⟨hk,ks,ds,e1,e2,h⟩=>⟨hk,ks,ds,e1,e2,hi.mono ρ _ _ (λe _ ⟨c,q1,q⟩=>⟨c,q1,m.nx _ q⟩) h⟩) h
 run:=PS.weak (zld hu (zcC hN hvs hd hcd) hi.run hv.run hs) λD σ H h=>by
  obtain⟨ρ,Fz,R,h⟩:=h;refine⟨ρ,Fz,R,hv.mono ρ _ _ (λd k q v F1 H1 p1=>?_) h⟩;obtain⟨hk,ks,ds,e1,e2,q⟩:=q;obtain⟨F2,x2,s2,d2⟩:=p1.frozen (zgn hk);have R2:=R.ext x2;obtain⟨a,xs,hs,ha,_,hd,nf⟩:=zlY R2 e1;refine⟨_,hs,ρ,F2,R2,hi.mono ρ _ _ (λe ke q u F3 H3 p3=>?_) q⟩;obtain⟨c,rfl,q⟩:=q;have R3:=R2.ext p3.ext;obtain⟨a',xs',hs',ha',hl',hd',nf'⟩:=zlY R3 e1;rw[hs]at hs';cases hs';obtain rfl:=zeO (p3.root R2);refine⟨a,_,rfl,DPut.k ha' (by rw[List.length_zip];lia),?_⟩;have d3:=Den.mono (.of p3.ext.same) p3.ext.sub _ _ d2;have x3:=x2.trans p3.ext;have ow:Own X.K F3 (upd H3 a (.dK (putK (ks.zip xs') c v))) (if hasK ks c=true then .dK ks (putD ks ds c d) else .dK (ks++[c]) (ds++[d])) a:=by
   unfold putK;rw[zma hl'];by_cases hc:hasK ks c=true
   ·rw[if_pos hc,if_pos hc,zlZ];exact⟨_,zag,by simp[hl'],DenL.rew' ha' (λz=>z) nf' (ziF c d3 ks ds xs' hd')⟩
   ·rw[if_neg hc,if_neg hc];refine⟨xs'++[v],?_,by simp[hl'],DenL.rew' ha' (λz=>z) nf' (DenL.snoc hd' d3)⟩;rw[zag,List.zip_append hl'];rfl
  obtain⟨R4,s4,o4⟩:=R3.mut e1 hs ha' ow;exact q σ F3 _ ((Step.of x3).trans (zar.refl ρ σ H) s4) (zar.trans (Step.of x3) (zar.refl ρ σ H) o4) R4
end
theorem bAll:bootBuiltins "all" = some (.builtin "all"):=by decide +kernel
section
variable {X:Cx}
theorem zmc (hc:X.calm=true):zcd X (.builtin "all") (λxs H Q=>∃(p:Addr) (bs:List Bool),xs=[V.ref p]/\SqL X.K H p (bs.map V.bl)/\Q (.bl (bs.all id)) H):=by
 intro pins s σ H xs us Q I r h;obtain⟨p,bs,rfl,hq,q⟩:=h;obtain⟨u,rfl,rx⟩:=vals1 r;cases rx;obtain⟨its,r',pl,hz⟩:=I.list hq;have hL:=pl.isList;have hpl:p<s.heap.objs.size:=by obtain⟨_,x,_⟩:=hL;exact Heap.lt_size x
 have hlen:its.length=bs.length:=by rw[<- r'.length];simp
 refine call_all_walk (wpAny_pyIter_list hL ?_);refine⟨_,[_,p],[_],_,_,_,λi=>bs.getD i true,rfl,Walks.list (A:=X.A.in1) (I.ok.hd hc) _ p (Nat.ne_of_lt hpl) its.toArray,⟨⟨_,Heap.get?_push_size _ rfl,rfl,rfl⟩,hL.push _⟩,?_,λh' tk hk=>?_⟩
 ·intro i v s' Q' E' hP hQ;have hv:its[i]? = some v:=by simpa using hP
  have hi:i<bs.length:=by rw[<- hlen];exact(List.getElem?_eq_some_iff.mp hv).1
  obtain⟨v',hv',rv⟩:=r'.get (i:=i) (x:=.bl bs[i]) (by simp[hi]);rw[hv]at hv';cases hv';cases rv;refine wpAny_truthy_bool ?_;have:bs.getD i true=bs[i]:=by rw[List.getD_eq_getElem?_getD,List.getElem?_eq_getElem hi];rfl
  rw[<- this];exact hQ
 ·refine⟨.bl (bs.all id),H,I.kept (t':=tk) (λb o x=>hk b o ?_ (Heap.get?_push_of_some _ x)),?_,q⟩
  ·have:=Heap.lt_size x;simp;exact Nat.ne_of_lt this
  ·have:(List.range its.toArray.size).all (λi=>bs.getD i true)=bs.all id:=by
    rw[List.size_toArray,hlen];rw[Bool.eq_iff_iff,List.all_eq_true,List.all_eq_true];constructor
    ·intro h x hx;obtain⟨i,hi,e⟩:=List.getElem_of_mem hx;have:=h i (List.mem_range.mpr hi);rw[List.getD_eq_getElem?_getD,List.getElem?_eq_getElem hi]at this;simpa[<- e]using this
    ·intro h i hi;have hi:=List.mem_range.mp hi;rw[List.getD_eq_getElem?_getD,List.getElem?_eq_getElem hi];simpa using h _ (List.getElem_mem hi)
   show RelV _ _;rw[this];rfl
theorem zjD {K:PySem.W.Frag}{Fz:FZ}{H:Hp}:∀ {bs:List Bool}{xs:List V},DenL K Fz H (bs.map PV.bl) xs->xs=bs.map V.bl
 | [],xs,h=>by simpa only[List.map,DenL]using h
 | b::bs,xs,h=>by
  simp only[List.map,DenL,Den]at h;obtain⟨v,r,rfl,rfl,h⟩:=h;rw[zjD h];rfl
noncomputable def fAll:PF:=λds Q=>∃bs:List Bool,ds=[.lst (bs.map PV.bl)]/\Q (.bl (bs.all id)) .frz
theorem zrK:zdZ X.K (λxs H Q=>∃(p:Addr)(bs:List Bool),xs=[V.ref p]/\SqL X.K H p (bs.map V.bl)/\Q (.bl (bs.all id)) H) fAll where
 mono ds Q Q' m h:=by obtain⟨bs,e,q⟩:=h;exact⟨bs,e,m _ _ q⟩
 run Fz H ds vs Q al hr h:=by
  obtain⟨bs,rfl,q⟩:=h;obtain⟨v,rfl,h1⟩:=zcV hr;obtain⟨a,xs,rfl,h2,h3⟩:=zak h1;rw[zjD h3]at h2;exact⟨a,bs,rfl,h2,q _ Fz H (.val al (by simp only[Den]))⟩
variable {e:Expr}{es:List Expr}{t:TPA}{p pos:Pos}
theorem zrL (hc:X.calm=true)(hg:Gl X "all") (hm:X.mg "all" = none) (ha:PuA X (e::es) t) (he:starEach (e::es) X.env=(false,eval e X.env)::starEach es X.env:=by rfl) (hpl:(backTo pos (starEach es X.env)).any (·.1)=false:=by rfl):PuE X (.Call (.Name "all" p) (e::es) [] pos) (tB fAll t):=
 zbS (zmc hc) zrK hg hm bAll ha (by decide) (by decide) he hpl
end
theorem hu1 {A:Around}(h:A.units+16<cLine):A.units+1<cLine:=by lia
noncomputable abbrev PFM:=PV->List PV->(PV->PV->Prop)->Prop
structure FOut where
 nx:PEnv->Prop
 rt:PEnv->Prop
structure FOut.le (O O':FOut):Prop where
 nx:∀ρ,O.nx ρ->O'.nx ρ
 rt:∀ρ,O.rt ρ->O'.rt ρ
noncomputable abbrev TPF:=PEnv->FOut->Prop
inductive BX where
 | L (ds:List PV)
 | K (ks:List Key) (ds:List PV)
 | T (ks:List (List Key)) (ds:List PV)
noncomputable def BX.cts:BX->List PV
 | .L ds=>ds
 | .K _ ds=>ds
 | .T _ ds=>ds
noncomputable def BX.pv:BX->PV
 | .L ds=>.lst ds
 | .K ks ds=>.dK ks ds
 | .T ks ds=>.dT ks ds
noncomputable def BX.ok:BX->Prop
 | .L _=>True
 | .K ks ds=>ks.length=ds.length
 | .T ks ds=>ks.length=ds.length
noncomputable def BX.obj:BX->List Addr->HO
 | .L _,bs=>.lst (bs.map V.ref)
 | .K ks _,bs=>.dK (ks.zip (bs.map V.ref))
 | .T ks _,bs=>.dT (ks.zip (bs.map V.ref))
noncomputable def OwnL (K:PySem.W.Frag)(Fz:FZ)(H:Hp):List PV->List Addr->Prop
 | [],bs=>bs=[]
 | d::ds,bs=>∃b r,bs=b::r/\Own K Fz H d b/\OwnL K Fz H ds r
theorem OwnL.length {K:PySem.W.Frag}{Fz:FZ}{H:Hp}:∀ {ds:List PV}{bs:List Addr},OwnL K Fz H ds bs->ds.length=bs.length
 | [],bs,h=>by unfold OwnL at h;subst h;rfl
 | d::ds,bs,h=>by
  unfold OwnL at h;obtain⟨b,r,rfl,_,h⟩:=h;simp[OwnL.length h]
theorem OwnL.mono {K:PySem.W.Frag}{Fz Fz':FZ}{H H':Hp}(k:Keep Fz H H')(s:∀b,Fz b->Fz' b):∀ {ds:List PV}{bs:List Addr},(∀b∈bs,∀o,H b=some o->H' b=some o)->OwnL K Fz H ds bs->OwnL K Fz' H' ds bs
 | [],bs,ha,h=>by unfold OwnL at h ⊢;exact h
 | d::ds,bs,ha,h=>by
  unfold OwnL at h ⊢;obtain⟨b,r,rfl,h1,h⟩:=h;exact⟨b,r,rfl,h1.mono k s (ha b (List.mem_cons_self ..)),OwnL.mono k s (λc hc=>ha c (List.mem_cons_of_mem _ hc)) h⟩
theorem OwnL.get {K:PySem.W.Frag}{Fz:FZ}{H:Hp}:∀ {ds:List PV}{bs:List Addr}{j:Nat}{d:PV},OwnL K Fz H ds bs->ds[j]? = some d->∃b,bs[j]? = some b/\Own K Fz H d b
 | [],bs,j,d,h,e=>by simp at e
 | d0::ds,bs,j,d,h,e=>by
  unfold OwnL at h;obtain⟨b,r,rfl,h1,h⟩:=h;cases j with
  | zero=>rw[List.getElem?_cons_zero]at e;cases e;exact⟨b,rfl,h1⟩
  | succ j=>rw[List.getElem?_cons_succ]at e ⊢;exact OwnL.get h e
theorem OwnL.has {K:PySem.W.Frag}{Fz:FZ}{H:Hp}:∀ {ds:List PV}{bs:List Addr}{b:Addr},OwnL K Fz H ds bs->b∈bs->∃o,H b=some o/\¬ Imm o
 | [],bs,b,h,e=>by unfold OwnL at h;subst h;cases e
 | d::ds,bs,b,h,e=>by
  unfold OwnL at h;obtain⟨b0,r,rfl,h1,h⟩:=h;rcases List.mem_cons.mp e with rfl | e
  ·exact h1.at
  ·exact OwnL.has h e
theorem OwnL.den {K:PySem.W.Frag}{Fz:FZ}{H:Hp}:∀ {ds:List PV}{bs:List Addr},OwnL K Fz H ds bs->(∀b∈bs,Fz b)->DenL K Fz H ds (bs.map V.ref)
 | [],bs,h,_=>by unfold OwnL at h;subst h;exact DenL.nil
 | d::ds,bs,h,f=>by
  unfold OwnL at h;obtain⟨b,r,rfl,h1,h⟩:=h;exact DenL.cons (h1.den (f b (List.mem_cons_self ..))) (OwnL.den h λc hc=>f c (List.mem_cons_of_mem _ hc))
theorem OwnL.put {K:PySem.W.Frag}{Fz:FZ}{H:Hp}{o u:HO}{b:Addr}{d:PV}(hu:H b=some u)(im:¬ Imm u)(nf:¬ Fz b)(hb:Own K Fz (upd H b o) d b):∀ {ds:List PV}{bs:List Addr}{j:Nat},OwnL K Fz H ds bs->bs.Nodup->bs[j]? = some b->OwnL K Fz (upd H b o) (ds.set j d) bs
 | [],bs,j,h,_,e=>by unfold OwnL at h;subst h;simp at e
 | d0::ds,bs,j,h,nd,e=>by
  have kp:Keep Fz H (upd H b o):=.mk' λc w e9 hw=>by
   have ne:c≠b:=λz=>by
    subst z;rcases hw with hw | hw
    ·exact nf hw
    ·rw[hu]at e9;cases e9;exact im hw
   rw[zaf ne];exact e9
  unfold OwnL at h;obtain⟨b0,r,rfl,h1,h⟩:=h;rw[List.nodup_cons]at nd;cases j with
  | zero=>
   rw[List.getElem?_cons_zero]at e;cases e;rw[List.set_cons_zero];unfold OwnL;refine⟨b,r,rfl,hb,h.mono kp (λ_ h=>h) λc hc w hw=>?_⟩;have ne:c≠b:=λz=>nd.1 (by rw[<- z];exact hc);rw[zaf ne];exact hw
  | succ j=>
   rw[List.getElem?_cons_succ]at e;rw[List.set_cons_succ];have ne:b0≠b:=λz=>nd.1 (z▸List.mem_of_getElem? e);unfold OwnL;exact⟨b0,r,rfl,h1.mono kp (λ_ h=>h) λw hw=>(by rw[zaf ne];exact hw),OwnL.put hu im nf hb h nd.2 e⟩
theorem OwnL.snoc {K:PySem.W.Frag}{Fz:FZ}{H:Hp}{d:PV}{b:Addr}(hb:Own K Fz H d b):∀ {ds:List PV}{bs:List Addr},OwnL K Fz H ds bs->OwnL K Fz H (ds++[d]) (bs++[b])
 | [],bs,h=>by
  unfold OwnL at h;subst h;show OwnL K Fz H [d] [b];unfold OwnL;exact⟨b,[],rfl,hb,by unfold OwnL;rfl⟩
 | d0::ds,bs,h=>by
  unfold OwnL at h;obtain⟨b0,r,rfl,h1,h⟩:=h;show OwnL K Fz H (d0::(ds++[d])) (b0::(r++[b]));unfold OwnL;exact⟨b0,_,rfl,h1,OwnL.snoc hb h⟩
structure Box (K:PySem.W.Frag)(Fz:FZ)(H:Hp)(β:BX)(a:Addr)(bs:List Addr):Prop where
 at_:H a=some (β.obj bs)
 ok:β.ok
 own:OwnL K Fz H β.cts bs
 nd:(a::bs).Nodup
 nf:∀b∈a::bs,¬ Fz b
theorem BX.nim (β:BX)(bs:List Addr):¬ Imm (β.obj bs):=by cases β<;>exact λz=>z
theorem Box.has {K:PySem.W.Frag}{Fz:FZ}{H:Hp}{β:BX}{a:Addr}{bs:List Addr}(B:Box K Fz H β a bs){b:Addr}(h:b∈a::bs):∃o,H b=some o/\¬ Imm o:=by
 rcases List.mem_cons.mp h with rfl | h
 ·exact⟨_,B.at_,β.nim bs⟩
 ·exact B.own.has h
theorem Box.keep {K:PySem.W.Frag}{Fz Fz':FZ}{H H':Hp}{β:BX}{a:Addr}{bs:List Addr}(B:Box K Fz H β a bs)(k:Keep Fz H H')(s:∀b,Fz b->Fz' b)(ha:∀b∈a::bs,∀o,H b=some o->H' b=some o)(nf:∀b∈a::bs,¬ Fz' b):Box K Fz' H' β a bs:=
 ⟨ha a (List.mem_cons_self ..) _ B.at_,B.ok,B.own.mono k s λb hb=>ha b (List.mem_cons_of_mem _ hb),B.nd,nf⟩
theorem Box.ext {K:PySem.W.Frag}{Fz Fz':FZ}{H H':Hp}{β:BX}{a:Addr}{bs:List Addr}(B:Box K Fz H β a bs)(x:Ext Fz H Fz' H'):Box K Fz' H' β a bs:=
 B.keep (.of x.same) x.sub (λb _ o e=>x.same b o e) λb hb z=>by
  obtain⟨o,e,_⟩:=B.has hb;rcases x.new b z with z | z
  ·exact B.nf b hb z
  ·rw[e]at z;cases z
structure RelB (K:PySem.W.Frag)(Fz:FZ)(ρ:PEnv)(β:BX)(σ:St)(H:Hp)(z:Nat)(a:Addr)(bs:List Addr):Prop where
 rel:Rel K Fz ρ σ H
 hz:ρ[z]? = some none
 sz:σ[z]? = some (some (.ref a))
 box:Box K Fz H β a bs
 no:∀b∈a::bs,¬ zax ρ σ b
theorem RelB.ext {K:PySem.W.Frag}{Fz Fz':FZ}{ρ:PEnv}{β:BX}{σ:St}{H H':Hp}{z:Nat}{a:Addr}{bs:List Addr}(R:RelB K Fz ρ β σ H z a bs)(x:Ext Fz H Fz' H'):RelB K Fz' ρ β σ H' z a bs:=
 ⟨R.rel.ext x,R.hz,R.sz,R.box.ext x,R.no⟩
structure zbf (O:Addr->Prop)(Fz:FZ)(H:Hp)(Fz':FZ)(H':Hp):Prop where
 sub:∀b,Fz b->Fz' b
 new:∀b,Fz' b->Fz b\/H b=none\/O b
 keep:∀b o,H b=some o->¬ O b->H' b=some o
noncomputable def InO (O:Addr->Prop)(H:Hp)(O':Addr->Prop):Prop:=∀b,O' b->O b\/H b=none
theorem zbf.of {O:Addr->Prop}{Fz Fz':FZ}{H H':Hp}(x:Ext Fz H Fz' H'):zbf O Fz H Fz' H':=
 ⟨x.sub,λb h=>(x.new b h).elim .inl (λh=>.inr (.inl h)),λb o e _=>x.same b o e⟩
theorem zbf.none {O:Addr->Prop}{Fz Fz':FZ}{H H':Hp}(s:zbf O Fz H Fz' H'){b:Addr}(h:H' b=Option.none):H b=Option.none\/O b:=by
 by_cases o:O b
 ·exact .inr o
 ·cases e:H b with
  | none=>exact .inl rfl
  | some u=>rw[s.keep b u e o]at h;cases h
theorem zbf.trans {O O':Addr->Prop}{F1 F2 F3:FZ}{H1 H2 H3:Hp}(a:zbf O F1 H1 F2 H2)(oi:InO O H1 O')(b:zbf O' F2 H2 F3 H3):zbf O F1 H1 F3 H3:=
 ⟨λc h=>b.sub c (a.sub c h),λc h=>by
  rcases b.new c h with h | h | h
  ·exact a.new c h
  ·exact .inr (a.none h)
  ·exact .inr ((oi c h).symm),λc o e n=>by
  refine b.keep c o (a.keep c o e n) λz=>?_;rcases oi c z with z | z
  ·exact n z
  ·rw[e]at z;cases z⟩
theorem InO.trans {O O' O'':Addr->Prop}{F1 F2:FZ}{H1 H2:Hp}(a:zbf O F1 H1 F2 H2)(oi:InO O H1 O')(oj:InO O' H2 O''):InO O H1 O'':=λc h=>by
 rcases oj c h with h | h
 ·exact oi c h
 ·exact(a.none h).symm
theorem InO.refl {O:Addr->Prop}{H:Hp}:InO O H O:=λ_ h=>.inl h
noncomputable def OB (ρ:PEnv)(σ:St)(A:List Addr):Addr->Prop:=λb=>zax ρ σ b\/b∈A
structure BOut where
 nx:PEnv->BX->Prop
 rt:PV->Kd->Prop
 bk:PEnv->BX->Prop
 ct:PEnv->BX->Prop
structure BOut.le (O O':BOut):Prop where
 nx:∀ρ β,O.nx ρ β->O'.nx ρ β
 rt:∀d k,O.rt d k->O'.rt d k
 bk:∀ρ β,O.bk ρ β->O'.bk ρ β
 ct:∀ρ β,O.ct ρ β->O'.ct ρ β
noncomputable abbrev TPB:=PEnv->BX->BOut->Prop
noncomputable def zfB (t:TPB)(O:BOut)(ρ:PEnv)(β:BX):Prop:=t ρ β O
theorem zeI {t:TPB}{O:BOut}{ρ:PEnv}{β:BX}(h:t ρ β O):zfB t O ρ β:=h
noncomputable def RetO (K:PySem.W.Frag)(O:Addr->Prop)(H:Hp)(Fz':FZ)(H':Hp)(d:PV):Kd->V->Prop
 | .frz,v=>Den K Fz' H' d v
 | .new,v=>∃a,v=.ref a/\¬ Fz' a/\Own K Fz' H' d a/\(O a\/H a=none)
 | .own _,_=>False
theorem RetO.back {K:PySem.W.Frag}{O O':Addr->Prop}{F1 F2 Fz':FZ}{H1 H2 H':Hp}{d:PV}{k:Kd}{v:V}(s:zbf O F1 H1 F2 H2)(oi:InO O H1 O')(r:RetO K O' H2 Fz' H' d k v):RetO K O H1 Fz' H' d k v:=by
 cases k with
 | frz=>exact r
 | own i=>exact r
 | new=>
  obtain⟨a,e,nf,o,w⟩:=r;refine⟨a,e,nf,o,?_⟩;rcases w with w | w
  ·exact oi a w
  ·exact(s.none w).symm
noncomputable def goB (K:PySem.W.Frag)(z:Nat)(E:St->Hp->Prop)(O:Addr->Prop)(Fz:FZ)(H:Hp)(ρ':PEnv)(β':BX):Prop:=
 ∀σ' Fz' H' a' bs',zbf O Fz H Fz' H'->InO O H (OB ρ' σ' (a'::bs'))->RelB K Fz' ρ' β' σ' H' z a' bs'->E σ' H'
noncomputable def outB (K:PySem.W.Frag)(z:Nat)(D:Ends)(O:Addr->Prop)(Fz:FZ)(H:Hp):BOut where
 nx:=goB K z D.nx O Fz H
 bk:=goB K z D.bk O Fz H
 ct:=goB K z D.ct O Fz H
 rt:=λd k=>∀v Fz' H',zbf O Fz H Fz' H'->(∀b,Fz' b->H' b≠none)->RetO K O H Fz' H' d k v->D.rt v H'
noncomputable def zpA (K:PySem.W.Frag)(z:Nat)(t:TPB):TS:=λD σ H=>∃ρ Fz β a bs,RelB K Fz ρ β σ H z a bs/\t ρ β (outB K z D (OB ρ σ (a::bs)) Fz H)
structure PuB1 (X:Cx)(z:Nat)(st:Stmt)(t:TPB):Prop where
 mono:∀ρ β O O',BOut.le O O'->t ρ β O->t ρ β O'
 run:PS X st (zpA X.K z t)
structure PuB (X:Cx)(z:Nat)(st:List Stmt)(t:TPB):Prop where
 mono:∀ρ β O O',BOut.le O O'->t ρ β O->t ρ β O'
 run:PSs X st (zpA X.K z t)
theorem zpB {K:PySem.W.Frag}{z:Nat}{D D':Ends}{O O':Addr->Prop}{Fz Fz':FZ}{H H':Hp}(s:zbf O Fz H Fz' H')(oi:InO O H O')(h1:∀σ H,D.nx σ H->D'.nx σ H)(h2:∀v H,D.rt v H->D'.rt v H)(h3:∀σ H,D.bk σ H->D'.bk σ H)(h4:∀σ H,D.ct σ H->D'.ct σ H) :
  (outB K z D O Fz H).le (outB K z D' O' Fz' H') where
 nx ρ2 β2 q σ2 F2 H2 a2 bs2 s2 o2 R2:=h1 _ _ (q σ2 F2 H2 a2 bs2 (s.trans oi s2) (InO.trans s oi o2) R2)
 bk ρ2 β2 q σ2 F2 H2 a2 bs2 s2 o2 R2:=h3 _ _ (q σ2 F2 H2 a2 bs2 (s.trans oi s2) (InO.trans s oi o2) R2)
 ct ρ2 β2 q σ2 F2 H2 a2 bs2 s2 o2 R2:=h4 _ _ (q σ2 F2 H2 a2 bs2 (s.trans oi s2) (InO.trans s oi o2) R2)
 rt d k q v F2 H2 s2 al r:=h2 _ _ (q v F2 H2 (s.trans oi s2) al (r.back s oi))
theorem zeP {K:PySem.W.Frag}{z:Nat}{D:Ends}{O O':Addr->Prop}{Fz Fz':FZ}{H H':Hp}(s:zbf O Fz H Fz' H')(oi:InO O H O'):(outB K z D O Fz H).le (outB K z D O' Fz' H'):=
 zpB s oi (λ_ _ h=>h) (λ_ _ h=>h) (λ_ _ h=>h) (λ_ _ h=>h)
theorem zbf.stay {K:PySem.W.Frag}{O:Addr->Prop}{Fz:FZ}{ρ:PEnv}{σ:St}{H:Hp}(R:Rel K Fz ρ σ H):zbf O Fz H Fz H:=.of ⟨Same.refl H,λ_ h=>h,λ_ h=>.inl h,R.al⟩
theorem RelB.frozen {K:PySem.W.Frag}{Fz:FZ}{ρ:PEnv}{β:BX}{σ:St}{H:Hp}{z:Nat}{a:Addr}{bs:List Addr}(R:RelB K Fz ρ β σ H z a bs):Rel K (λb=>Fz b\/b∈a::bs) (ρ.set z (some (β.pv,false))) σ H:=by
 have hz:z<ρ.length:=(List.getElem?_eq_some_iff.mp R.hz).1;have hd:Den K (λb=>Fz b\/b∈a::bs) H β.pv (.ref a):=by
  have hl:=R.box.own.length;have hok:=R.box.ok;have ow:=(R.box.own.mono (Fz':=λb=>Fz b\/b∈a::bs) (Keep.of (Same.refl H)) (λ_ h=>.inl h) (λ_ _ _ h=>h)).den λb hb=>.inr (List.mem_cons_of_mem _ hb);have hat:=R.box.at_;cases β with
  | L ds=>show Den _ _ _ (.lst ds) _;simp only[Den];exact⟨a,_,rfl,.inl ⟨.inr (List.mem_cons_self ..),.inl hat⟩,ow⟩
  | K ks ds=>show Den _ _ _ (.dK ks ds) _;simp only[Den];exact⟨a,_,rfl,.inr (List.mem_cons_self ..),.inl hat,by rw[List.length_map,<- hl];exact hok,ow⟩
  | T ks ds=>show Den _ _ _ (.dT ks ds) _;simp only[Den];exact⟨a,_,rfl,.inr (List.mem_cons_self ..),.inl hat,by rw[List.length_map,<- hl];exact hok,ow⟩
 refine⟨λb hb=>?_,by rw[List.length_set];exact R.rel.len,λj e he=>?_,λj e he=>?_,λj k d' e' b h1 h2 h3 h4=>?_⟩
 ·rcases hb with hb | hb
  ·exact R.rel.al b hb
  ·obtain⟨o,e,_⟩:=R.box.has hb;rw[e];exact λz=>nomatch z
 ·by_cases hj:z=j
  ·subst hj;rw[List.getElem?_set_self hz]at he;cases he;exact⟨_,R.sz,hd⟩
  ·rw[List.getElem?_set_ne hj]at he;obtain⟨v,q1,q2⟩:=R.rel.frz j e he;exact⟨v,q1,Den.mono (Keep.of (Same.refl _)) (λ_ h=>.inl h) _ _ q2⟩
 ·have hj:z≠j:=λy=>by
   subst y;rw[List.getElem?_set_self hz]at he;cases he
  rw[List.getElem?_set_ne hj]at he;obtain⟨b,q1,q2,q3⟩:=R.rel.own j e he;refine⟨b,q1,λy=>?_,q3.mono (Keep.of (Same.refl _)) (λ_ h=>.inl h) (λ_ h=>h)⟩;rcases y with y | y
  ·exact q2 y
  ·exact R.no b y ⟨j,e,he,q1⟩
 ·have nj:z≠j:=λy=>by subst y;rw[List.getElem?_set_self hz]at h1;cases h1
  have nk:z≠k:=λy=>by subst y;rw[List.getElem?_set_self hz]at h2;cases h2
  rw[List.getElem?_set_ne nj]at h1;rw[List.getElem?_set_ne nk]at h2;exact R.rel.inj j k d' e' b h1 h2 h3 h4
theorem zgo {ρ:PEnv}{σ:St}{z:Nat}{d:PV}:∀b,zax (ρ.set z (some (d,false))) σ b->zax ρ σ b:=λb ⟨j,e,h1,h2⟩=>by
 have nj:z≠j:=λy=>by
  subst y;by_cases hi:z<ρ.length
  ·rw[List.getElem?_set_self hi]at h1;cases h1
  ·rw[List.set_eq_of_length_le (by lia),List.getElem?_eq_none (by lia)]at h1;cases h1
 rw[List.getElem?_set_ne nj]at h1;exact⟨j,e,h1,h2⟩
noncomputable def rdE (z:Nat)(te:TPE)(ρ:PEnv)(β:BX)(Q:PV->Prop):Prop:=te (ρ.set z (some (β.pv,false))) λd k=>k=.frz/\zbO d=true/\Q d
noncomputable def rdT (z:Nat)(tc:TPT)(ρ:PEnv)(β:BX)(Q:Bool->Prop):Prop:=tc (ρ.set z (some (β.pv,false))) Q
theorem zfK {X:Cx}{e:Expr}{te:TPE}(he:PuE X e te){Fz:FZ}{ρ:PEnv}{β:BX}{σ:St}{H:Hp}{z:Nat}{a:Addr}{bs:List Addr}(R:RelB X.K Fz ρ β σ H z a bs){Q:PV->Prop}{W:V->Hp->Prop}
  (h:rdE z te ρ β Q) (hw:∀d v H',Q d->zbO d=true->Ext Fz H Fz H'->Den X.K Fz H' d v->W v H'):lift X.K te σ H W:=by
 refine⟨_,_,R.frozen,he.mono _ _ _ (λd k q v Fz' H' p=>?_) h⟩;obtain⟨rfl,nm,q⟩:=q;refine hw d v H' q nm ⟨p.ext.same,λ_ h=>h,λ_ h=>.inl h,λb hb y=>R.rel.al b hb (p.ext.same.free y)⟩ (zfe d v nm p.opd)
theorem zpC {X:Cx}{c:Expr}{tc:TPT}(hc:PuT X c tc){Fz:FZ}{ρ:PEnv}{β:BX}{σ:St}{H:Hp}{z:Nat}{a:Addr}{bs:List Addr}(R:RelB X.K Fz ρ β σ H z a bs){Q:Bool->Prop}{W:Bool->Hp->Prop}
  (h:rdT z tc ρ β Q) (hw:∀b H',Q b->Ext Fz H Fz H'->W b H'):liftT X.K tc σ H W:=by
 refine⟨_,_,R.frozen,hc.mono _ _ _ (λb q Fz' H' x=>?_) h⟩;exact hw b H' q ⟨x.same,λ_ h=>h,λ_ h=>.inl h,λb hb y=>R.rel.al b hb (x.same.free y)⟩
section
variable {X:Cx}{z:Nat}{st:Stmt}{rest a b body:List Stmt}{t u:TPB}{e c:Expr}{te:TPE}{tc:TPT}{pos pos' p:Pos}{x:Str}
noncomputable def zbW:TPB:=λρ β O=>O.nx ρ β
noncomputable def zdD (t u:TPB):TPB:=λρ β O=>t ρ β { O with nx:=zfB u O }
theorem zgp:PuB X z [] zbW where
 mono ρ β O O' m h:=m.nx _ _ h
 run:=PSs.weak ziq λD σ H h=>by
  obtain⟨ρ,Fz,β,a,bs,R,h⟩:=h;exact h σ Fz H a bs (zbf.stay R.rel) InO.refl R
theorem zfi (h1:PuB1 X z st t):PuB X z [st] t:=⟨h1.mono,zir h1.run⟩
theorem zcO (h1:PuB1 X z st t)(h2:PuB X z rest u):PuB X z (st::rest) (zdD t u) where
 mono ρ β O O' m h:=h1.mono ρ β { O with nx:=λρ' β'=>u ρ' β' O } _ ⟨λρ' β' q=>h2.mono ρ' β' O O' m q,m.rt,m.bk,m.ct⟩ h
 run:=PSs.weak (zcK h1.run h2.run) λD σ H h=>by
  obtain⟨ρ,Fz,β,a,bs,R,h⟩:=h;refine⟨ρ,Fz,β,a,bs,R,h1.mono ρ β { outB X.K z D (OB ρ σ (a::bs)) Fz H with nx:=λρ' β'=>u ρ' β' (outB X.K z D (OB ρ σ (a::bs)) Fz H) } _ ⟨λρ' β' q=>?_,λ_ _ q=>q,λ_ _ q=>q,λ_ _ q=>q⟩ h⟩;intro σ' Fz' H' a' bs' s oi R';exact⟨ρ',Fz',β',a',bs',R',h2.mono ρ' β' _ _ (zeP s oi) q⟩
noncomputable def bxIf (tc:TPT)(t u:TPB)(z:Nat):TPB:=λρ β O=>rdT z tc ρ β λb=>if b=true then zfB t O ρ β else zfB u O ρ β
theorem zmd (hc:PuT X c tc)(ha:PuB X z a t)(hb:PuB X z b u):PuB1 X z (.If c a b pos) (bxIf tc t u z) where
 mono ρ β O O' m h:=hc.mono _ _ _ (λb q=>by
  cases b with
  | true=>rw[if_pos rfl]at q ⊢;exact ha.mono ρ β _ _ m q
  | false=>rw[if_neg Bool.false_ne_true]at q ⊢;exact hb.mono ρ β _ _ m q) h
 run:=PS.weak (zoN hc.run ha.run hb.run) λD σ H h=>by
  obtain⟨ρ,Fz,β,a,bs,R,h⟩:=h;refine zpC hc R h λb H' q x=>?_;have le:=zeP (K:=X.K) (z:=z) (D:=D) (O:=OB ρ σ (a::bs)) (.of x) InO.refl;cases b with
  | true=>rw[if_pos rfl]at q;exact iteT ⟨ρ,Fz,β,a,bs,R.ext x,ha.mono ρ β _ _ le q⟩
  | false=>rw[if_neg Bool.false_ne_true]at q;exact iteF ⟨ρ,Fz,β,a,bs,R.ext x,hb.mono ρ β _ _ le q⟩
noncomputable def zef (i z:Nat)(te:TPE):TPB:=λρ β O=>rdE z te ρ β λd=>O.nx (ρ.set i (some (d,false))) β
theorem RelB.set {K:PySem.W.Frag}{Fz:FZ}{ρ:PEnv}{β:BX}{σ:St}{H:Hp}{z i:Nat}{a:Addr}{bs:List Addr}{d:PV}{v:V}(R:RelB K Fz ρ β σ H z a bs)(h:Den K Fz H d v)(hi:i≠z):RelB K Fz (ρ.set i (some (d,false))) β (σ.set i (some v)) H z a bs:=
 ⟨R.rel.set h,by rw[List.getElem?_set_ne hi];exact R.hz,by rw[List.getElem?_set_ne hi];exact R.sz,R.box,λb hb y=>R.no b hb (zea b y)⟩
theorem OB.set {ρ:PEnv}{σ:St}{i:Nat}{d:PV}{v:V}{A:List Addr}{H:Hp}:InO (OB ρ σ A) H (OB (ρ.set i (some (d,false))) (σ.set i (some v)) A):=λb hb=>by
 rcases hb with hb | hb
 ·exact .inl (.inl (zea b hb))
 ·exact .inl (.inr hb)
theorem ziG {i:Nat}(hN:X.N.Nodup)(hi:X.N[i]? = some x)(hx:Loc X.env.scope x)(he:PuE X e te)(hiz:i≠z:=by decide)(hs:swapsWith e (some (.Name x pos')) pos.line X.env=pure false:=by rfl)(hf:X.fn x=true\/X.env.scope.names.lookup x=some .local:=by first | exact .inl rfl | exact .inr rfl | assumption) :
  PuB1 X z (.Assign [.Name x pos'] e pos) (zef i z te) where
 mono ρ β O O' m h:=he.mono _ _ _ (λd k ⟨e1,e2,q⟩=>⟨e1,e2,m.nx _ _ q⟩) h
 run:=PS.weak (zjb hN hi hx he.run hs hf) λD σ H h=>by
  obtain⟨ρ,Fz,β,a,bs,R,h⟩:=h;refine zfK he R h λd v H' q nm x dv=>?_;exact q (σ.set i (some v)) Fz H' a bs (.of x) OB.set ((R.ext x).set dv hiz)
noncomputable def zeg (ti:TPI)(i:Nat)(tb:TPB):TPB:=λρ β O=>ti ρ λits o=>o=false/\∃Iv:Nat->PEnv->BX->Prop,Iv 0 ρ β/\(∀k d ρ' β',its[k]? = some d->Iv k ρ' β'->zfB tb { O with nx:=Iv (k+1),ct:=Iv (k+1),bk:=O.nx } (ρ'.set i (some (d,false))) β')/\∀ρ' β',Iv its.length ρ' β'->O.nx ρ' β'
theorem ziH {i:Nat}{iter:Expr}{ti:TPI}(hN:X.N.Nodup)(hi:X.N[i]? = some x)(hx:Loc X.env.scope x)(hc:X.calm=true)(hp:PassesOwn (model X.prog X.w) X.A X.env X.xe)(hit:PuI X (.Name x p) iter ti)(hb:PuB X z body t)(hiz:i≠z:=by decide)
  (hf:X.fn x=true\/X.env.scope.names.lookup x=some .local:=by first | exact .inl rfl | exact .inr rfl | assumption) (hs:∀x,foldedSetIterable iter X.env x=pure x:=by intro _;rfl):PuB1 X z (.For (.Name x p) iter body [] pos) (zeg ti i t) where
 mono ρ β O O' m h:=hit.mono ρ _ _ (λits o ⟨e,I,h0,hs,hd⟩=>⟨e,I,h0,λk d ρ' β' hk hI=>hb.mono _ _ { O with nx:=I (k+1),ct:=I (k+1),bk:=O.nx } _ ⟨λ_ _ q=>q,m.rt,m.nx,λ_ _ q=>q⟩ (hs k d ρ' β' hk hI),λρ' β' hI=>m.nx _ _ (hd ρ' β' hI)⟩) h
 run:=PS.weak (zjc hp hc hit.run (zis hN hi hx hf) hb.run hs) λD σ H h=>by
  obtain⟨ρ,Fz,β,a,bs,R,h⟩:=h;refine⟨ρ,Fz,R.rel,hit.mono ρ _ _ (λits o q J Fz1 H1 x wk=>?_) h⟩;obtain⟨rfl,Iv,h0,hstep,hdone⟩:=q;have R1:=R.ext x;have le:=zeP (K:=X.K) (z:=z) (D:=D) (O:=OB ρ σ (a::bs)) (.of x) InO.refl;refine⟨λi m σ' H'=>m=its.length-i/\i<=its.length/\∃ρ' F' β' a' bs',RelB X.K F' ρ' β' σ' H' z a' bs'/\Iv i ρ' β'/\zbf (OB ρ σ (a::bs)) Fz1 H1 F' H'/\InO (OB ρ σ (a::bs)) H1 (OB ρ' σ' (a'::bs')),
   ⟨its.length,by lia,Nat.zero_le _,ρ,Fz1,β,a,bs,R1,h0,zbf.stay R1.rel,InO.refl⟩,?_⟩
  rintro k m σ' H' ⟨rfl,hle,ρ',F',β',a',bs',R',hI,s',o'⟩;have kp:ziz Fz1 H1 H':=λb o e w=>by
   refine s'.keep b o e λy=>?_;rcases y with ⟨i,d,h1,h2⟩ | y
   ·obtain⟨a0,q1,q2,q3⟩:=R1.rel.own i d h1;rw[h2]at q1;cases q1;rcases w with w | w
    ·exact q2 w
    ·obtain⟨o',q4,q5⟩:=q3.at;rw[e]at q4;cases q4;exact q5 w
   ·rcases w with w | w
    ·exact R1.box.nf b y w
    ·obtain⟨o',q4,q5⟩:=R1.box.has y;rw[e]at q4;cases q4;exact q5 w
  obtain⟨wgo,wstop⟩:=wk H' (.inr ⟨rfl,kp⟩) k;by_cases hlt:k<its.length
  ·obtain⟨go,yl⟩:=wgo its[k] (List.getElem?_eq_getElem hlt);refine .inr ⟨go,λσ2 H2=>∃ρ2 F2 β2 a2 bs2,RelB X.K F2 ρ2 β2 σ2 H2 z a2 bs2/\Iv (k+1) ρ2 β2/\zbf (OB ρ σ (a::bs)) Fz1 H1 F2 H2/\InO (OB ρ σ (a::bs)) H1 (OB ρ2 σ2 (a2::bs2)),λσ2 H2 hN=>⟨its.length-(k+1),by lia,rfl,hlt,hN⟩,λxv H2 y=>?_⟩;obtain⟨sm,dn⟩:=yl xv H2 y;have x2:Ext F' H' F' H2:=⟨sm,λ_ h=>h,λ_ h=>.inl h,λb hb z=>R'.rel.al b hb (sm.free z)⟩;have R2:=(R'.ext x2).set (i:=i) (Den.mono (Keep.of (Same.refl _)) s'.sub _ _ dn) hiz;have so:InO (OB ρ σ (a::bs)) H1 (OB (ρ'.set i (some (its[k],false))) (σ'.set i (some xv)) (a'::bs')):=λb hb=>by
    rcases hb with hb | hb
    ·exact o' b (.inl (zea b hb))
    ·exact o' b (.inr hb)
   have st:zbf (OB ρ σ (a::bs)) Fz1 H1 F' H2:=s'.trans o' (.of x2);refine⟨_,F',β',a',bs',R2,hb.mono _ _ { outB X.K z D (OB ρ σ (a::bs)) Fz H with nx:=Iv (k+1),ct:=Iv (k+1),bk:=(outB X.K z D (OB ρ σ (a::bs)) Fz H).nx } _ ⟨λρ3 β3 q σ3 F3 H3 a3 bs3 s3 o3 R3=>?_,λd k q v F3 H3 s3 al r=>?_,λρ3 β3 q σ3 F3 H3 a3 bs3 s3 o3 R3=>?_,λρ3 β3 q σ3 F3 H3 a3 bs3 s3 o3 R3=>?_⟩ (hstep k its[k] ρ' β' (List.getElem?_eq_getElem hlt) hI)⟩
   ·exact⟨ρ3,F3,β3,a3,bs3,R3,q,st.trans so s3,InO.trans st so o3⟩
   ·exact le.rt d k q v F3 H3 (st.trans so s3) al (r.back st so)
   ·exact le.nx ρ3 β3 q σ3 F3 H3 a3 bs3 (st.trans so s3) (InO.trans st so o3) R3
   ·exact⟨ρ3,F3,β3,a3,bs3,R3,q,st.trans so s3,InO.trans st so o3⟩
  ·have e:k=its.length:=by lia
   subst e;exact .inl ⟨wstop (Nat.le_refl _),le.nx ρ' β' (hdone ρ' β' hI) σ' F' H' a' bs' s' o' R'⟩
noncomputable def zbX (z:Nat)(t:TPS):TPB:=λρ β O=>Hold t { nx:=λ_=>False,rt:=O.rt,bk:=λ_=>False,ct:=λ_=>False } (ρ.set z (some (β.pv,false)))
theorem zjE {t:TPS}(h:PuSs X rest t):PuB X z rest (zbX z t) where
 mono ρ β O O' m q:=h.mono _ { nx:=λ_=>False,rt:=O.rt,bk:=λ_=>False,ct:=λ_=>False } _ ⟨λ_ q=>q.elim,m.rt,λ_ q=>q.elim,λ_ q=>q.elim⟩ q
 run:=PSs.weak h.run λD σ H q=>by
  obtain⟨ρ,Fz,β,a,bs,R,q⟩:=q;have RF:=R.frozen;refine⟨_,_,RF,h.mono _ { nx:=λ_=>False,rt:=(outB X.K z D (OB ρ σ (a::bs)) Fz H).rt,bk:=λ_=>False,ct:=λ_=>False } _ ⟨λ_ q=>q.elim,λd k q v Fz' H' s al r=>?_,λ_ q=>q.elim,λ_ q=>q.elim⟩ q⟩;refine q v Fz' H' ⟨λb hb=>s.sub b (.inl hb),λb hb=>?_,λb o e n=>s.keep b o e λy=>n (.inl (zgo b y))⟩ al ?_
  ·rcases s.new b hb with (y | y) | y | y
   ·exact .inl y
   ·exact .inr (.inr (.inr y))
   ·exact .inr (.inl y)
   ·exact .inr (.inr (.inl (zgo b y)))
  ·cases k with
   | frz=>exact r
   | own i=>exact r
   | new=>
    obtain⟨a0,e,nf,o,w⟩:=r;refine⟨a0,e,nf,o,?_⟩;rcases w with w | w
    ·exact .inl (.inl (zgo a0 w))
    ·exact .inr w
end
theorem Rel.unset {K:PySem.W.Frag}{Fz:FZ}{ρ:PEnv}{σ:St}{H:Hp}{i:Nat}{v:V}(R:Rel K Fz ρ σ H):Rel K Fz (ρ.set i none) (σ.set i (some v)) H:=by
 have ne:∀(j:Nat) (p:PV×Bool),(ρ.set i none)[j]? = some (some p)->i≠j/\ρ[j]? = some (some p):=λj p h=>by
  have nj:i≠j:=λz=>by
   subst z;by_cases hi:i<ρ.length
   ·rw[List.getElem?_set_self hi]at h;cases h
   ·rw[List.set_eq_of_length_le (by lia),List.getElem?_eq_none (by lia)]at h;cases h
  rw[List.getElem?_set_ne nj]at h;exact⟨nj,h⟩
 refine⟨R.al,by rw[List.length_set,List.length_set];exact R.len,λj d h=>?_,λj d h=>?_,λj k d e a h1 h2 h3 h4=>?_⟩
 ·obtain⟨nj,h⟩:=ne j _ h;rw[List.getElem?_set_ne nj];exact R.frz j d h
 ·obtain⟨nj,h⟩:=ne j _ h;rw[List.getElem?_set_ne nj];exact R.own j d h
 ·obtain⟨nj,h1⟩:=ne j _ h1;obtain⟨nk,h2⟩:=ne k _ h2;rw[List.getElem?_set_ne nj]at h3;rw[List.getElem?_set_ne nk]at h4;exact R.inj j k d e a h1 h2 h3 h4
theorem zbx {ρ:PEnv}{σ:St}{i:Nat}{v:V}:∀b,zax (ρ.set i none) (σ.set i (some v)) b->zax ρ σ b:=λb ⟨j,e,h1,h2⟩=>by
 have nj:i≠j:=λz=>by
  subst z;by_cases hi:i<ρ.length
  ·rw[List.getElem?_set_self hi]at h1;cases h1
  ·rw[List.set_eq_of_length_le (by lia),List.getElem?_eq_none (by lia)]at h1;cases h1
 rw[List.getElem?_set_ne nj]at h1 h2;exact⟨j,e,h1,h2⟩
theorem RelB.put {K:PySem.W.Frag}{Fz:FZ}{ρ:PEnv}{β:BX}{σ:St}{H:Hp}{z:Nat}{a:Addr}{bs:List Addr}{j:Nat}{b:Addr}{d:PV}{o u:HO}(R:RelB K Fz ρ β σ H z a bs)(hb:bs[j]? = some b)(hu:H b=some u)(im:¬ Imm u)(ow:Own K Fz (upd H b o) d b)
  (β':BX) (hc:β'.cts=β.cts.set j d) (ho:β'.obj bs=β.obj bs) (hk:β'.ok):RelB K Fz ρ β' σ (upd H b o) z a bs/\zbf (OB ρ σ (a::bs)) Fz H Fz (upd H b o):=by
 have hm:b∈a::bs:=List.mem_cons_of_mem _ (List.mem_of_getElem? hb);have nf:=R.box.nf b hm;have no:=R.no b hm;have nd:=R.box.nd;rw[List.nodup_cons]at nd;have nea:a≠b:=λy=>nd.1 (by rw[y];exact List.mem_of_getElem? hb);refine⟨⟨R.rel.other hu im nf no,R.hz,R.sz,⟨by rw[zaf nea,ho];exact R.box.at_,hk,by rw[hc];exact OwnL.put hu im nf ow R.box.own nd.2 hb,R.box.nd,R.box.nf⟩,R.no⟩,⟨λ_ h=>h,λ_ h=>.inl h,λc w e n=>?_⟩⟩;have ne:c≠b:=λy=>n (.inr (by rw[y];exact hm));rw[zaf ne];exact e
section
variable {X:Cx}{z:Nat}{ei e:Expr}{ti te:TPE}{x:Str}{p p1 apos cpos pos:Pos}
noncomputable def zdE (z:Nat)(ti te:TPE):TPB:=λρ β O=>rdE z ti ρ β λdi=>∃(i:Int)(n:Nat)(ds es:List PV),di=.int i/\β=.L ds/\ixN ds.length i=some n/\ds[n]? = some (.lst es)/\es.length<sizeLine/\rdE z te ρ β λd=>O.nx ρ (.L (ds.set n (.lst (es++[d]))))
theorem zme (hi:PuE X ei ti)(he:PuE X e te)(hN:X.N[z]? = some x:=by rfl)(hv:Vis X.env.scope x:=by first | exact Or.inl rfl | exact Or.inr (Or.inl rfl) | exact Or.inr (Or.inr rfl))(hd:(x == ("__debug__" : Str))=false:=by decide) (hcd:(x == ("__classdict__" : Str))=false:=by decide)
  (hix:zfZ ei:=by exact λ_ _=>rfl) (hbase:attributeBase (.Subscript (.Name x p) ei p1) "append" X.env (eval (.Subscript (.Name x p) ei p1) X.env)=eval (.Subscript (.Name x p) ei p1) X.env:=by rfl)
  (hfew:((backTo cpos (starEach [e] X.env)).all (λx=>!x.1)&&(backToKw cpos (keywordEach [] X.env)).all (λx=>x.1.isSome)&&decide ([e].length+([]:List Keyword).length+(if ([]:List Keyword).isEmpty then 0 else 1)<30))=true:=by rfl)
  (hline:(apos.endLine == cpos.line)=true:=by rfl) (hst:starEach [e] X.env=(false,eval e X.env)::starEach [] X.env:=by rfl) (hplain:(backTo cpos (starEach [] X.env)).any (·.1)=false:=by rfl)
  (hs:swapsWith (.Call (.Attribute (.Subscript (.Name x p) ei p1) "append" apos) [e] [] cpos) none pos.line X.env=pure false:=by rfl) :
  PuB1 X z (.Expr (.Call (.Attribute (.Subscript (.Name x p) ei p1) "append" apos) [e] [] cpos) pos) (zdE z ti te) where
 mono ρ β O O' m h:=hi.mono _ _ _ (λd k ⟨e1,e2,i,n,ds,es,q1,q2,q3,q4,q5,q⟩=>⟨e1,e2,i,n,ds,es,q1,q2,q3,q4,q5,he.mono _ _ _ (λd k ⟨e1,e2,q⟩=>⟨e1,e2,m.nx _ _ q⟩) q⟩) h
 run:=PS.weak (zkS (zks PySem.F.plainAttrs_list PySem.F.slot_list_append PySem.F.type_list_append zdj (zqM zkZ (zcC hN hv hd hcd) hi.run hix) (zbA he.run zce hst) hbase hfew hline hst hplain) hs) λD σ H h=>by
  obtain⟨ρ,Fz,β,a,bs,R,h⟩:=h;refine⟨_,R.sz,zfK hi R h λdi iv H1 q nm x1 dv=>?_⟩;obtain⟨i,n,ds,es,rfl,rfl,q3,q4,q5,q⟩:=q;have R1:=R.ext x1;obtain⟨b,hb,ow⟩:=R1.box.own.get q4;have hlen:=R1.box.own.length;have hiv:iv=.int i:=by simpa only[Den]using dv
  subst hiv;have hat:atI (bs.map V.ref) i=some (V.ref b):=by
   unfold atI;rw[List.length_map,<- hlen];show(ixN ds.length i).bind _=_;rw[q3];show(bs.map V.ref)[n]? = _;rw[List.getElem?_map,hb];rfl
  obtain⟨xs,hbx,hxs⟩:=ow;refine⟨a,_,i,.ref b,rfl,rfl,SqL.of R1.box.at_,hat,.inl ⟨rfl,xs,SqL.of hbx⟩,zfK he R1 q λd v H2 q nm2 x2 dv2=>?_⟩;have R2:=R1.ext x2;have hbx2:=x2.same _ _ hbx;have hl2:=hxs.length;have nfb:¬ Fz b:=R2.box.nf b (List.mem_cons_of_mem _ (List.mem_of_getElem? hb));refine⟨b,xs,v,rfl,rfl,hbx2,by lia,?_⟩;have hxs2:=DenL.snoc (DenL.mono (.of x2.same) (λ_ h=>h) _ _ hxs) dv2;have ow2:Own X.K Fz (upd H2 b (.lst (xs++[v]))) (.lst (es++[d])) b:=⟨_,zag,DenL.rew hbx2 nfb hxs2⟩;obtain⟨R3,s3⟩:=R2.put hb hbx2 (λy=>y) ow2 (.L (ds.set n (.lst (es++[d])))) rfl rfl trivial;exact q σ Fz _ a bs ((zbf.of (x1.trans x2)).trans InO.refl s3) InO.refl R3
end
section
variable {X:Cx}{z:Nat}{tg iter:Expr}{sc:Scope}{pos pos' pos2 pos3:Pos}{N:List Str}{ti:TPI}{t:TPB}{x y:Str}{rest:List Stmt}
noncomputable def zaF (z:Nat)(ti:TPI)(t:TPB):TPS:=λρ O=>z<ρ.length/\ti ρ λits o=>its.length<=sizeLine/\zfB t { nx:=λ_ _=>False,rt:=O.rt,bk:=λ_ _=>False,ct:=λ_ _=>False } (ρ.set z none) (.L (List.replicate its.length (.lst [])))
theorem zeA {K:PySem.W.Frag}{Fz:FZ}{H:Hp}:∀ {bs:List Addr},(∀b∈bs,H b=some (.lst []))->OwnL K Fz H (List.replicate bs.length (.lst [])) bs
 | [],_=>by unfold OwnL;rfl
 | b::bs,h=>by
  rw[List.length_cons,List.replicate_succ];unfold OwnL;exact⟨b,bs,rfl,⟨[],h b (List.mem_cons_self ..),DenL.nil⟩,zeA λc hc=>h c (List.mem_cons_of_mem _ hc)⟩
theorem zhv {pos4:Pos}(hc:X.calm=true)(S:zcr X N 1 [] sc)(hi:PuI X (.Name y pos3) iter ti)(hg:∀C cells fp s H,PG (cxB X N sc C cells fp s H) (.Name y pos3) (zkn 0))(hN:X.N.Nodup)(hx:X.N[z]? = some x)(hk:X.env.scope.names.lookup x=some .local)
  (hr:PuB X z rest t) (hsw:swapsWith (.ListComp (.List [] pos') [⟨.Name y pos3,iter,[],0⟩] sc pos) (some (.Name x pos4)) pos2.line X.env=pure true:=by rfl) (hs:∀x,foldedSetIterable iter X.env x=pure x:=by intro _;rfl) :
  PuSs X (.Assign [.Name x pos4] (.ListComp (.List [] pos') [⟨.Name y pos3,iter,[],0⟩] sc pos) pos2::rest) (zaF z ti t) where
 mono ρ O O' m h:=⟨h.1,hi.mono ρ _ _ (λits o ⟨e,q⟩=>⟨e,hr.mono _ _ { nx:=λ_ _=>False,rt:=O.rt,bk:=λ_ _=>False,ct:=λ_ _=>False } _ ⟨λ_ _ q=>q.elim,m.rt,λ_ _ q=>q.elim,λ_ _ q=>q.elim⟩ q⟩) h.2⟩
 run:=PSs.weak (zcK (zlm hc S hi.run ⟨hg,λ_ _ _ _ _=>zlk,λ_ _ _ _ _=>zos zce⟩ hN hx hk hsw hs) hr.run) λD σ H h=>by
  obtain⟨ρ,Fz,R,hzl,h⟩:=h;refine⟨ρ,Fz,R,hi.mono ρ _ _ (λits o q J Fz1 H1 x1 wk l hl=>?_) h⟩;obtain⟨hz,q⟩:=q;refine⟨λi m σ' H'=>m=its.length-i/\i<=its.length/\∃bs:List Addr,bs.length=i/\H' l=some (.lst (bs.map V.ref))/\(∀b∈bs,H' b=some (.lst []))/\(l::bs).Nodup/\(∀b∈l::bs,H1 b=none)/\Same H1 H',
   ⟨its.length,by lia,Nat.zero_le _,[],rfl,zag,λb hb=>by simp at hb,by simp,λb hb=>by simp at hb;rw[hb];exact hl,(Same.refl H1).upd' hl⟩,?_⟩
  rintro i m σ' H' ⟨rfl,hle,bs,hbl,hlx,hbs,hnd,hfr,sm⟩;obtain⟨wgo,wstop⟩:=wk H' (.inl sm) i;by_cases hlt:i<its.length
  ·obtain⟨go,yl⟩:=wgo its[i] (List.getElem?_eq_getElem hlt);refine .inr ⟨go,λxv H2 y=>?_⟩;obtain⟨sm2,_⟩:=yl xv H2 y;have hl2:=sm2 _ _ hlx;simp only[zkn,zlj,if_true];refine⟨Nat.zero_le _,λb hb=>?_⟩;have hbl':b≠l:=λe=>by rw[e,hl2]at hb;cases hb
   have hbn:H1 b=none:=sm.free (sm2.free hb);have hbm:b∉bs:=λe=>by rw[sm2 _ _ (hbs b e)]at hb;cases hb
   refine⟨bs.map V.ref,by rw[zaf (Ne.symm hbl')];exact hl2,by rw[List.length_map];lia,its.length-(i+1),by lia,rfl,hlt,bs++[b],by simp[hbl],by rw[zag,List.map_append];rfl,λc hc=>?_,?_,λc hc=>?_,?_⟩
   ·rcases List.mem_append.mp hc with hc | hc
    ·have n1:c≠l:=λe=>(List.nodup_cons.mp hnd).1 (by rw[<- e];exact hc);have n2:c≠b:=λe=>hbm (by rw[<- e];exact hc);rw[zaf n1,zaf n2];exact sm2 _ _ (hbs c hc)
    ·have:=List.mem_singleton.mp hc;subst this;rw[zaf hbl',zag]
   ·rw[List.nodup_cons]at hnd ⊢;refine⟨λe=>?_,?_⟩
    ·rcases List.mem_append.mp e with e | e
     ·exact hnd.1 e
     ·exact hbl' (List.mem_singleton.mp e).symm
    ·rw[List.nodup_append];exact⟨hnd.2,by simp,λc hc d hd e=>hbm (by rw[<- List.mem_singleton.mp hd,<- e];exact hc)⟩
   ·rcases List.mem_cons.mp hc with rfl | hc
    ·exact hl
    ·rcases List.mem_append.mp hc with hc | hc
     ·exact hfr c (List.mem_cons_of_mem _ hc)
     ·rw[List.mem_singleton.mp hc];exact hbn
   ·exact((sm.trans sm2).upd' hbn).upd' hl
  ·have e:i=its.length:=by lia
   subst e;refine .inl ⟨wstop (Nat.le_refl _),?_⟩;have nfr:∀b∈l::bs,¬ Fz1 b:=λb hb w=>x1.al b w (hfr b hb);have x2:Ext Fz1 H1 Fz1 H':=⟨sm,λ_ h=>h,λ_ h=>.inl h,λb hb w=>x1.al b hb (sm.free w)⟩;have x3:=x1.trans x2;have hno:∀b∈l::bs,¬ zax ρ σ b:=λb hb ⟨j,d,h1,h2⟩=>by
    obtain⟨a,q1,_,q3⟩:=R.own j d h1;rw[h2]at q1;cases q1;obtain⟨o',q4,_⟩:=q3.at;have:=x1.same _ _ q4;rw[hfr b hb]at this;cases this
   have hzN:z<σ.length:=by rw[<- R.len];exact hzl
   have Rb:RelB X.K Fz1 (ρ.set z none) (.L (List.replicate its.length (.lst []))) (σ.set z (some (.ref l))) H' z l bs:=
    ⟨(R.ext x3).unset,List.getElem?_set_self (by rw[R.len];exact hzN),List.getElem?_set_self hzN,⟨hlx,trivial,by show OwnL _ _ _ (List.replicate its.length _) bs;rw[<- hbl];exact zeA hbs,hnd,nfr⟩,λb hb w=>hno b hb (zbx b w)⟩
   refine⟨_,Fz1,_,l,bs,Rb,hr.mono _ _ { nx:=λ_ _=>False,rt:=(zeH X.K D ρ σ Fz H).rt,bk:=λ_ _=>False,ct:=λ_ _=>False } _ ⟨λ_ _ q=>q.elim,λd k q v Fz' H'' s al r=>?_,λ_ _ q=>q.elim,λ_ _ q=>q.elim⟩ q⟩;have s0:zbf (zax ρ σ) Fz H Fz1 H':=.of x3;have oi:InO (zax ρ σ) H (OB (ρ.set z none) (σ.set z (some (.ref l))) (l::bs)):=λb hb=>by
    rcases hb with hb | hb
    ·exact .inl (zbx b hb)
    ·exact .inr (x1.same.free (hfr b hb))
   have s1:=s0.trans oi s;have r1:=r.back s0 oi;refine q v Fz' H'' ⟨s1.sub,s1.new,s1.keep⟩ al ?_;cases k with
   | frz=>exact r1
   | own i=>exact r1
   | new=>exact r1
end
end PL
namespace L2
open PySem PySem.Spec PyProof.Rows
section
variable {X:Cx}{pins:List (Addr×Obj)}{σ:List (Option V)}{H:Hp}{s:Shared}{h':Heap}
theorem Inv.zeh {t':Nat}{ch:List Addr}(I:Inv X pins σ H s)(k:∀b o,b∉ch->s.heap.get? b=some o->h'.get? b=some o)(hf:∀b∈ch,FpOk X pins H b):Inv X pins σ H { s with heap:=h',toks:=t' }:=by
 have nit:∀b u,H b=some u->b∉ch:=λb u e z=>by rw[(hf b z).1]at e;cases e
 refine I.step (g':=s.gens) (d':=s.drawn) (ch:=ch) (λb hb=>?_) (λb o _ _ hc e _=>k b o hc e) (λb o _ _ hc e _=>⟨o.slots,k b o hc e⟩) (λ_ _ _ _ n=>n)
  (λb o hc e=>⟨o,k b o hc e⟩) (λ_ _ e=>e) (λ_ _ _ e=>e) (λb ps e=>⟨#[],by rw[e];simp⟩) (λm hm=>?_) (λb u e=>?_) I.bare
 ·obtain⟨_,f1,_,f3,f4,f5⟩:=hf b hb;exact⟨f3,f1,f4,f5⟩
 ·obtain⟨o,es,ep,ho,r⟩:=hm;exact⟨o,es,ep,k _ o (λz=>(hf _ z).2.1 rfl) ho,r⟩
 ·refine(I.hok b u e).stay (λc v hc q=>k c v ?_ q) (λ_ q=>q) λ_ _ q=>q;rcases hc with z | z
  ·rw[z];exact nit b u e
  ·exact nit c _ z
end
noncomputable def Ite (K:PySem.W.Frag)(a:Addr):It:=
 ⟨λi H=>∃xs x,SqL K H a xs/\xs[i]? = some x,λi H x H'=>∃p y,x=.ref p/\H p=none/\(∀xs,SqL K H a xs->xs[i]? = some y)/\H'=upd H p (.tup [.int (i:Int),y]),λi H=>∃xs,SqL K H a xs/\xs.length<=i⟩
theorem zmf {P:Program}{w:World}{K:PySem.W.Frag}{elts:List Expr}{x1:Nat}{pos:Pos}(a e it:Addr)(hne:e≠it):Turn P w K (.Tuple elts x1 pos) (Ite K a) [e,it] e (λi h=>(∃old,IsEnum h e it (i:Int) old)/\h.IsListIter it a i) where
 mem:=by simp
 obj:=λi h st b hb=>by
  obtain⟨⟨old,he⟩,o,ho,c,d⟩:=st;rcases List.mem_cons.mp hb with rfl | hb
  ·exact⟨_,he,λv z=>by cases z⟩
  ·have:=List.mem_singleton.mp hb;subst this;exact⟨o,ho,λv z=>by rw[d]at z;cases z⟩
 keep:=λi h h' st k=>by
  obtain⟨⟨old,he⟩,hit⟩:=st;exact⟨⟨old,k e (by simp) _ he⟩,hit.at λo q=>k it (by simp) o q⟩
 item:=by
  intro X hP hw hK hc i pins s σ H E I hf st hg;subst hP hw hK;obtain⟨⟨old,he⟩,hit⟩:=st;obtain⟨xs,x,hq,hx⟩:=hg;obtain⟨its,rv,p,hz⟩:=I.list hq;obtain⟨u,hu,ru⟩:=rv.get hx;have hfr:H s.heap.objs.size=none:=I.hok.fresh (Nat.le_refl _);have heS:e<s.heap.objs.size:=Heap.lt_size he;have hiS:it<s.heap.objs.size:=by obtain⟨o,ho,_⟩:=id hit;exact Heap.lt_size ho
  refine wpAny_pyNext_enum_item he hit p.isList (x:=u) (by simpa using hu) hne λh1 heo hit1 ht1 hz1 hk1=>⟨.ref s.heap.objs.size,rfl,?_⟩;refine wpAny_letOwnedTupleGo_enum heo λh2 he2 hs2=>?_;replace hs2:Heap.SameBut e h1 h2:=hs2;have I1:=I.laid (a:=s.heap.objs.size) (o:=.tup [.int (i:Int),x]) (h':=s.heap.push { cls:=.type "tuple",data:=.seq #[.int i s.toks,u] }) (t':=s.toks+1) (λb u e=>Heap.get?_push_of_some _ e) (Nat.le_refl _)
   ⟨by show 2<=sizeLine;decide,[.int i s.toks,u],.cons ⟨_,rfl⟩ (.cons ru .nil),zcz.new _ _⟩
  have hfp:∀b∈[e,it],FpOk X pins (upd H s.heap.objs.size (.tup [.int (i:Int),x])) b:=λb hb=>by
   obtain⟨f0,fr⟩:=hf b hb;have hbS:b≠s.heap.objs.size:=by
    rcases List.mem_cons.mp hb with rfl | hb
    ·exact Nat.ne_of_lt heS
    ·rw[List.mem_singleton.mp hb];exact Nat.ne_of_lt hiS
   exact⟨by rw[zaf hbS];exact f0,fr⟩
  have I2:=I1.zeh (h':=h2) (t':=s.toks+1) (ch:=[e,it]) (λb o hb eb=>by
   have hb1:b≠e:=λz=>hb (by simp[z]);have hb2:b≠it:=λz=>hb (by simp[z]);refine(hs2.2 b hb1).trans ?_;rcases Heap.get?_push_cases eb with ⟨rfl,rfl⟩ | eb
   ·exact ht1
   ·exact hk1 b o hb1 hb2 eb) hfp
  refine⟨.ref s.heap.objs.size,_,I2,rfl,⟨_,x,rfl,hfr,λys hy=>by rw[I.zdg hy hq];exact hx,rfl⟩,⟨⟨u,?_⟩,?_⟩,λb hb=>(hfp b hb).1⟩
  ·have:((i+1:Nat):Int)=(i:Int)+1:=by lia
   rw[this];exact he2
  ·exact hit1.extBut hs2.extBut (Ne.symm hne)
 done:=by
  intro X hP hw hK hc i pins s σ H E I hf st hg;subst hP hw hK;obtain⟨⟨old,he⟩,hit⟩:=st;obtain⟨xs,hq,hx⟩:=hg;obtain⟨its,rv,p,hz⟩:=I.list hq;have hl:=rv.length;obtain⟨f0,f1,f2,f3,f4,f5⟩:=hf it (by simp);exact wpAny_pyNext_enum_end (I.ok.hd hc) he hit p.isList (by simp;lia) λh' eb=>⟨rfl,I.turned (t':=s.toks) (λb o hb e=>eb b o hb e) f0 f1 f3 f4 f5⟩
 self:=λ_ _ _ _ _ st h=>by obtain⟨⟨old,he⟩,_⟩:=st;exact wpAny_pyIter_enum he h
section
variable {X:Cx}{elts:List Expr}{x1:Nat}{tpos p pos:Pos}{e e2:Expr}{te te2:TE}
theorem zfj:bootBuiltins "enumerate" = some (.type "enumerate"):=by decide +kernel
noncomputable def zsZ (K:PySem.W.Frag)(te:TE):TI:=λσ H R=>te σ H λx H1=>∃a,x=.ref a/\(∃xs,SqL K H1 a xs)/\R (Ite K a) H1
theorem zpD (hg:Gl X "enumerate") (hm:X.mg "enumerate" = none) (he:PE X e te) (hs1:starEach [e] X.env=(false,eval e X.env)::starEach [] X.env:=by rfl) (hpl1:(backTo pos (starEach [] X.env)).any (·.1)=false:=by rfl) :
  PI X (.Tuple elts x1 tpos) (.Call (.Name "enumerate" p) [e] [] pos) (zsZ X.K te):=by
 intro pins s σ H R I h;refine wpAny_Call_Name_kw (zet I hg hm zfj ?_ (by decide) (by decide));refine PyProof.Rows.callWith_type1 ?_ hs1 hpl1;rw[hs1];show wpAny _ _ (spliced ((false,eval _ X.env)::backTo pos (starEach [] X.env))) _ _ s;refine Calls.spliced_cons (thn (he pins s σ H _ I h) λu s1 ⟨x,H1,I1,r1,a,ex,⟨xs,hq⟩,q⟩=>Calls.spliced_nil ?_);subst ex;obtain rfl:u=Value.ref a:=r1;obtain⟨its,r,pl,hz⟩:=I1.list hq;refine call_enumerate_list pl.isList λh' hE hit hsz hk=>?_;refine wpAny_pyIter_enum (s:={ s1 with heap:=h' }) hE ?_;have I2:Inv X pins σ H1 { s1 with heap:=h' }:=I1.kept (t':=s1.toks) hk;refine⟨s1.heap.objs.size+1,[s1.heap.objs.size+1,s1.heap.objs.size],_,_,H1,rfl,I2,zmf a _ _ (Nat.succ_ne_self _),⟨⟨_,hE⟩,hit⟩,λb hb=>?_,q⟩;have hb':s1.heap.objs.size<=b:=by
  rcases List.mem_cons.mp hb with rfl | hb
  ·exact Nat.le_succ _
  ·rw[List.mem_singleton.mp hb];exact Nat.le_refl _
 exact I1.fpOk hb' (I1.hok.fresh hb')
end
end L2
namespace PL
open PySem PySem.Spec L2
open PyProof.Rows hiding St
noncomputable def ziI (ds:List PV):List PV:=(List.range ds.length).map λ(i:Nat)=>.tup [.int (i:Int),ds.getD i .non]
theorem zfk {ds:List PV}{i:Nat}{d:PV}(h:(ziI ds)[i]? = some d):∃x,ds[i]? = some x/\d=.tup [.int (i:Int),x]:=by
 unfold ziI at h;rw[List.getElem?_map]at h;rcases Nat.lt_or_ge i ds.length with hi | hi
 ·rw[List.getElem?_range hi]at h;cases h;exact⟨ds[i],List.getElem?_eq_getElem hi,by show PV.tup [PV.int (i:Int),ds.getD i PV.non]=_;rw[List.getD_eq_getElem?_getD,List.getElem?_eq_getElem hi];rfl⟩
 ·rw[List.getElem?_eq_none (by simpa using hi)]at h;cases h
theorem zdF (ds:List PV):(ziI ds).length=ds.length:=by simp[ziI]
noncomputable def zbY (te:TPE):TPI:=λρ Q=>te ρ λd k=>∃ds,d=.lst ds/\Q (ziI ds) (isOwn k)
section
variable {X:Cx}{elts:List Expr}{x1:Nat}{tpos p pos:Pos}{e:Expr}{te:TPE}
theorem zjF (hg:Gl X "enumerate") (hm:X.mg "enumerate" = none) (he:PuE X e te) (hs1:starEach [e] X.env=(false,eval e X.env)::starEach [] X.env:=by rfl) (hpl1:(backTo pos (starEach [] X.env)).any (·.1)=false:=by rfl) :
  PuI X (.Tuple elts x1 tpos) (.Call (.Name "enumerate" p) [e] [] pos) (zbY te) where
 mono ρ Q Q' m h:=he.mono ρ _ _ (λd k ⟨ds,e,q⟩=>⟨ds,e,m _ _ q⟩) h
 run:=PI.weak (zpD hg hm he.run hs1 hpl1) λσ H Rr h=>by
  obtain⟨ρ,Fz,R,h⟩:=h;refine⟨ρ,Fz,R,he.mono ρ _ _ (λd k q v Fz' H' p=>?_) h⟩;obtain⟨ds,e,q⟩:=q;subst e;have rt:=p.root R;obtain⟨a,xs,rfl,h1,h2⟩:=zak rt;refine⟨a,rfl,⟨xs,h1⟩,?_⟩;have one:∀(F2:FZ) (H2:Hp) (zs:List V),SqL X.K H2 a zs->DenL X.K F2 H2 ds zs->∀i:Nat,(∀d,(ziI ds)[i]? = some d->(Ite X.K a).go i H2/\∀x H3,(Ite X.K a).yld i H2 x H3->Same H2 H3/\Den X.K F2 H3 d x)/\((ziI ds).length<=i->(Ite X.K a).stop i H2):=λF2 H2 zs g1 g3 i=>by
   have hl:=g3.length;refine⟨λd hd=>?_,λhi=>⟨zs,g1,by rw[zdF]at hi;lia⟩⟩;obtain⟨x,hx,rfl⟩:=zfk hd;obtain⟨v,q1,q2⟩:=g3.get hx;refine⟨⟨zs,v,g1,q1⟩,λy H3 ⟨pp,w,ey,hn,gy,e3⟩=>?_⟩;subst ey e3;have exy:=gy zs g1;rw[q1]at exy;cases exy;have sm:Same H2 (upd H2 pp (.tup [.int (i:Int),v])):=λb o hb=>by rw[zaf (zau hb hn)];exact hb
   refine⟨sm,?_⟩;simp only[Den];exact⟨pp,_,rfl,zag,DenL.cons (by simp only[Den]) (DenL.cons (Den.mono (.of sm) (λ_ h=>h) _ _ q2) DenL.nil)⟩
  cases k with
  | own i=>
   refine q _ Fz' H' p.ext λH2 hH=>?_;rcases hH with hH | ⟨z,_⟩
   ·exact one Fz' H2 xs (hH.seq h1) (DenL.mono (.of hH) (λ_ h=>h) _ _ h2)
   ·cases z
  | frz=>
   have pd:Den X.K Fz' H' (.lst ds) (.ref a):=p.opd;simp only[Den]at pd;obtain⟨a',xs',e,h3,h4⟩:=pd;cases e;refine q _ Fz' H' p.ext λH2 hH=>?_;have kp:Keep Fz' H' H2:=hH.elim (λz=>.of z) (λz=>.mk' z.2);exact one Fz' H2 xs' (h3.elim (λh=>.inl (kp.rd trivial h.1 h.2)) KX.sq) (DenL.mono kp (λ_ h=>h) _ _ h4)
  | new=>
   obtain⟨b,e,hn,nf,o⟩:=p.opd;cases e;obtain⟨xs',o1,o2⟩:=o;refine q _ (λb=>Fz' b\/b=a) H' (p.ext.add hn (by rw[o1];exact λz=>nomatch z)) λH2 hH=>?_;have kp:Keep (λb=>Fz' b\/b=a) H' H2:=hH.elim (λz=>.of z) (λz=>.mk' z.2);exact one _ H2 xs' (.inl (kp.rd trivial (.inr rfl) (.inl o1))) (DenL.mono kp (λ_ h=>h) _ _ (DenL.mono (Keep.of (Same.refl _)) (λ_ h=>.inl h) _ _ o2))
end
end PL
namespace L2
open PySem PySem.Spec PyProof.Rows
noncomputable def Itz (K:PySem.W.Frag)(a b:Addr):It:=
  ⟨λi H=>∃xs ys x y,SqL K H a xs/\xs[i]? = some x/\SqL K H b ys/\ys[i]? = some y,
   λi H x H'=>∃p u v,x=.ref p/\H p=none/\(∀xs,SqL K H a xs->xs[i]? = some u)/\(∀ys,SqL K H b ys->ys[i]? = some v)/\H'=upd H p (.tup [u,v]),
   λi H=>∃xs ys,SqL K H a xs/\SqL K H b ys/\(xs.length<=i\/ys.length<=i)⟩
theorem znH {P:Program}{w:World}{K:PySem.W.Frag}{elts:List Expr}{x1:Nat}{pos:Pos}(a b z TI TO i1 i2:Addr)(D:ZipApart z TI TO i1 i2 a b) :
  Turn P w K (.Tuple elts x1 pos) (Itz K a b) [z,TI,TO,i1,i2] z (λi h=>IsZip h z TI TO .none/\IsPair h TI (.ref i1) (.ref i2)/\(∃u v,IsPair h TO u v)/\h.IsListIter i1 a i/\h.IsListIter i2 b i) where
 mem:=by simp
 obj:=λi h st c hc=>by
  obtain⟨h1,h2,⟨u,v,h3⟩,⟨o4,h4,_,d4⟩,⟨o5,h5,_,d5⟩⟩:=st;simp only[List.mem_cons,List.not_mem_nil,or_false]at hc;rcases hc with rfl | rfl | rfl | rfl | rfl
  ·exact⟨_,h1,λv z=>by cases z⟩
  ·exact⟨_,h2,λv z=>by cases z⟩
  ·exact⟨_,h3,λv z=>by cases z⟩
  ·exact⟨_,h4,λv z=>by rw[d4]at z;cases z⟩
  ·exact⟨_,h5,λv z=>by rw[d5]at z;cases z⟩
 keep:=λi h h' st k=>by
  obtain⟨h1,h2,⟨u,v,h3⟩,h4,h5⟩:=st;exact⟨k z (by simp) _ h1,k TI (by simp) _ h2,⟨u,v,k TO (by simp) _ h3⟩,h4.at λo q=>k i1 (by simp) o q,h5.at λo q=>k i2 (by simp) o q⟩
 item:=by
  intro X hP hw hK hc i pins s σ H E I hf st hg;subst hP hw hK;obtain⟨h1,h2,⟨c1,c2,h3⟩,h4,h5⟩:=st;obtain⟨xs,ys,x,y,hq,hx,hq2,hy⟩:=hg;obtain⟨its,rv,p,hz⟩:=I.list hq;obtain⟨u,hu,ru⟩:=rv.get hx;obtain⟨its2,rv2,p2,hz2⟩:=I.list hq2;obtain⟨u2,hu2,ru2⟩:=rv2.get hy;have hfr:H s.heap.objs.size=none:=I.hok.fresh (Nat.le_refl _);have lt:∀c∈[z,TI,TO,i1,i2],c<s.heap.objs.size:=λc hc=>by
   simp only[List.mem_cons,List.not_mem_nil,or_false]at hc;rcases hc with rfl | rfl | rfl | rfl | rfl
   ·exact Heap.lt_size h1
   ·exact Heap.lt_size h2
   ·exact Heap.lt_size h3
   ·obtain⟨o,ho,_⟩:=id h4;exact Heap.lt_size ho
   ·obtain⟨o,ho,_⟩:=id h5;exact Heap.lt_size ho
  refine wpAny_pyNext_zip_item D h1 h2 h3 h4 h5 p.isList p2.isList (x:=u) (y:=u2) (by simpa using hu) (by simpa using hu2) λhp1 g1 g3 g4 g5 gt gz gk=>⟨.ref s.heap.objs.size,rfl,?_⟩;refine wpAny_letOwnedTupleGo_zip g1 λhp2 k1 ks=>?_;replace ks:Heap.SameBut z hp1 hp2:=ks;have I1:=I.laid (a:=s.heap.objs.size) (o:=.tup [x,y]) (h':=s.heap.push { cls:=.type "tuple",data:=.seq #[u,u2] }) (t':=s.toks) (λb u e=>Heap.get?_push_of_some _ e) (Nat.le_refl _)
   ⟨by show 2<=sizeLine;decide,[u,u2],.cons ru (.cons ru2 .nil),zcz.new _ _⟩
  have hfp:∀c∈[z,TI,TO,i1,i2],FpOk X pins (upd H s.heap.objs.size (.tup [x,y])) c:=λc hc=>by
   obtain⟨f0,fr⟩:=hf c hc;exact⟨by rw[zaf (Nat.ne_of_lt (lt c hc))];exact f0,fr⟩
  have I2:=I1.zeh (h':=hp2) (t':=s.toks) (ch:=[z,TI,TO,i1,i2]) (λc o hc ec=>by
   have n1:c≠z:=λe=>hc (by simp[e]);refine(ks.2 c n1).trans ?_;rcases Heap.get?_push_cases ec with ⟨rfl,rfl⟩ | ec
   ·exact gt
   ·exact gk c o n1 (λe=>hc (by simp[e])) (λe=>hc (by simp[e])) (λe=>hc (by simp[e])) ec) hfp
  refine⟨.ref s.heap.objs.size,_,I2,rfl,⟨_,x,y,rfl,hfr,λzs hz=>by rw[I.zdg hz hq];exact hx,λzs hz=>by rw[I.zdg hz hq2];exact hy,rfl⟩,⟨k1,?_,⟨u,u2,?_⟩,?_,?_⟩,λc hc=>(hfp c hc).1⟩
  ·exact(ks.2 TI D.TIz).trans (gk TI _ D.TIz D.TITO D.TIi1 D.TIi2 h2)
  ·exact(ks.2 TO D.TOz).trans g3
  ·exact g4.extBut ks.extBut D.i1z
  ·exact g5.extBut ks.extBut D.i2z
 done:=by
  intro X hP hw hK hc i pins s σ H E I hf st hg;subst hP hw hK;obtain⟨h1,h2,⟨c1,c2,h3⟩,h4,h5⟩:=st;obtain⟨xs,ys,hq,hq2,hx⟩:=hg;obtain⟨its,rv,p,hz⟩:=I.list hq;obtain⟨its2,rv2,p2,hz2⟩:=I.list hq2;have hl:=rv.length;have hl2:=rv2.length;refine wpAny_pyNext_zip_end (I.ok.hd hc) D h1 h2 h3 h4 h5 p.isList p2.isList (hx.imp (λe=>by simp;lia) (λe=>by simp;lia)) λh' gk=>⟨rfl,?_⟩;exact I.zeh (t':=s.toks) (ch:=[z,TI,TO,i1,i2]) (λc o hc ec=>gk c o (λe=>hc (by simp[e])) (λe=>hc (by simp[e])) (λe=>hc (by simp[e])) (λe=>hc (by simp[e])) ec) hf
 self:=λ_ _ _ _ _ st h=>wpAny_pyIter_zip st.1 h
section
variable {X:Cx}{elts:List Expr}{x1:Nat}{tpos p pos:Pos}{e e2:Expr}{t:TA}
theorem zmg:bootBuiltins "zip" = some (.type "zip"):=by decide +kernel
noncomputable def iZip (K:PySem.W.Frag)(t:TA):TI:=λσ H R=>t σ H λvs H1=>∃a b,vs=[.ref a,.ref b]/\(∃xs,SqL K H1 a xs)/\(∃ys,SqL K H1 b ys)/\R (Itz K a b) H1
theorem zrM (hg:Gl X "zip") (hm:X.mg "zip" = none) (ha:PA X [e,e2] t) (he:starEach [e,e2] X.env=(false,eval e X.env)::starEach [e2] X.env:=by rfl) (hpl:(backTo pos (starEach [e2] X.env)).any (·.1)=false:=by rfl) :
  PI X (.Tuple elts x1 tpos) (.Call (.Name "zip" p) [e,e2] [] pos) (iZip X.K t):=by
 intro pins s σ H R I h;refine wpAny_Call_Name_kw (zet I hg hm zmg ?_ (by decide) (by decide));refine PyProof.Rows.callWith_type1 (thn (ha pos pins s σ H _ I h) λus s1 ⟨vs,H1,I1,r1,a,b,ev,⟨xs,hq⟩,⟨ys,hq2⟩,q⟩=>?_) he hpl;subst ev;obtain⟨u1,u2,rfl,r2,r3⟩:=vals2 r1;obtain rfl:u1=Value.ref a:=r2;obtain rfl:u2=Value.ref b:=r3;obtain⟨its,r,pl,hz⟩:=I1.list hq;obtain⟨its2,r',pl2,hz2⟩:=I1.list hq2;have ha':@LT.lt Nat _ a s1.heap.objs.size:=by obtain⟨o,ho,_⟩:=pl.isList;exact Heap.lt_size ho
 have hb':@LT.lt Nat _ b s1.heap.objs.size:=by obtain⟨o,ho,_⟩:=pl2.isList;exact Heap.lt_size ho
 refine call_zip_2 pl.isList pl2.isList λh' g1 g2 g3 g4 g5 gz gk=>?_;refine wpAny_pyIter_zip (s:={ s1 with heap:=h' }) g1 ?_;have I2:Inv X pins σ H1 { s1 with heap:=h' }:=I1.kept (t':=s1.toks) gk;have D:ZipApart (s1.heap.objs.size+4) (s1.heap.objs.size+2) (s1.heap.objs.size+3) s1.heap.objs.size (s1.heap.objs.size+1) a b:=by constructor<;>first | exact Nat.ne_of_lt (by lia) | exact Nat.ne_of_gt (by lia)
 refine⟨_,_,_,_,H1,rfl,I2,znH a b _ _ _ _ _ D,⟨g1,g2,⟨_,_,g3⟩,g4,g5⟩,λc hc=>?_,q⟩;have hc':s1.heap.objs.size<=c:=by
  simp only[List.mem_cons,List.not_mem_nil,or_false]at hc;rcases hc with rfl | rfl | rfl | rfl | rfl<;>lia
 exact I1.fpOk hc' (I1.hok.fresh hc')
end
end L2
namespace PL
open PySem PySem.Spec L2
open PyProof.Rows hiding St
noncomputable def zipP (ds es:List PV):List PV:=List.zipWith (λd e=>.tup [d,e]) ds es
theorem zjG {ds es:List PV}{i:Nat}{d:PV}(h:(zipP ds es)[i]? = some d):∃x y,ds[i]? = some x/\es[i]? = some y/\d=.tup [x,y]:=by
 unfold zipP at h;rw[List.getElem?_zipWith]at h;cases h1:ds[i]? with
 | none=>rw[h1]at h;cases h
 | some x=>
  cases h2:es[i]? with
  | none=>rw[h1,h2]at h;cases h
  | some y=>rw[h1,h2]at h;cases h;exact⟨x,y,rfl,rfl,rfl⟩
theorem zgq (ds es:List PV):(zipP ds es).length=min ds.length es.length:=by simp[zipP]
noncomputable def zei (t:TPA):TPI:=λρ Q=>t ρ λops=>noOwn ops=true/\∃ds es,ops.map (·.1)=[.lst ds,.lst es]/\Q (zipP ds es) false
section
variable {X:Cx}{elts:List Expr}{x1:Nat}{tpos p pos:Pos}{e e2:Expr}{t:TPA}
theorem zpE (hg:Gl X "zip") (hm:X.mg "zip" = none) (ha:PuA X [e,e2] t) (he:starEach [e,e2] X.env=(false,eval e X.env)::starEach [e2] X.env:=by rfl) (hpl:(backTo pos (starEach [e2] X.env)).any (·.1)=false:=by rfl) :
  PuI X (.Tuple elts x1 tpos) (.Call (.Name "zip" p) [e,e2] [] pos) (zei t) where
 mono ρ Q Q' m h:=ha.mono ρ _ _ (λops ⟨e1,ds,es,e,q⟩=>⟨e1,ds,es,e,m _ _ q⟩) h
 run:=PI.weak (zrM hg hm ha.run he hpl) λσ H Rr h=>by
  obtain⟨ρ,Fz,R,h⟩:=h;refine⟨ρ,Fz,R,ha.mono ρ _ _ (λops q vs Fz' H' x o=>?_) h⟩;obtain⟨hn,ds,es,eo,q⟩:=q;obtain⟨F2,x2,s2,d2⟩:=o.frozen x hn;rw[eo]at d2;simp only[DenL]at d2;obtain⟨v1,r1,rfl,d1,v2,r2,rfl,d3,rfl⟩:=d2;simp only[Den]at d1 d3;obtain⟨a,xs,rfl,a1,a2⟩:=d1;obtain⟨b,ys,rfl,b1,b2⟩:=d3;have sq:∀ {c:Addr} {zs:List V} {H2:Hp},Keep F2 H' H2->((F2 c/\Rd H' c (.lst zs))\/KX X.K c zs)->SqL X.K H2 c zs:=λkp h=>h.elim (λh=>.inl (kp.rd trivial h.1 h.2)) KX.sq;refine⟨a,b,rfl,⟨xs,sq (.of (Same.refl _)) a1⟩,⟨ys,sq (.of (Same.refl _)) b1⟩,q _ F2 H' x2 λH2 hH i=>?_⟩;have kp:Keep F2 H' H2:=hH.elim (λz=>.of z) (λz=>.mk' z.2);have g1:=sq kp a1;have g2:=sq kp b1;have m1:=DenL.mono kp (λ_ h=>h) _ _ a2;have m2:=DenL.mono kp (λ_ h=>h) _ _ b2;have l1:=m1.length;have l2:=m2.length;refine⟨λd hd=>?_,λhi=>⟨xs,ys,g1,g2,by rw[zgq]at hi;lia⟩⟩;obtain⟨u,w,hu,hw,rfl⟩:=zjG hd;obtain⟨v,q1,q2⟩:=m1.get hu;obtain⟨v',q3,q4⟩:=m2.get hw;refine⟨⟨xs,ys,v,v',g1,q1,g2,q3⟩,λy H3 ⟨pp,c1,c2,ey,hnp,gy,gy2,e3⟩=>?_⟩;subst ey e3;have e1:=gy xs g1;rw[q1]at e1;cases e1;have e2:=gy2 ys g2;rw[q3]at e2;cases e2;have sm:Same H2 (upd H2 pp (.tup [v,v'])):=λb o hb=>by rw[zaf (zau hb hnp)];exact hb
  refine⟨sm,?_⟩;simp only[Den];exact⟨pp,_,rfl,zag,DenL.cons (Den.mono (.of sm) (λ_ h=>h) _ _ q2) (DenL.cons (Den.mono (.of sm) (λ_ h=>h) _ _ q4) DenL.nil)⟩
end
end PL
namespace PySem.SeqAt
open MeetsSeq
theorem zhw {M:Model}{A:Around}{E:Value->Shared->Prop}{s:Shared}{β:Type}{a b:Nat}{f:Nat->β->Sem (ForInStep β)}(I:Nat->β->Shared->Prop)(Q:β->Shared->Prop)
  (turn:∀i c s,a<=i->i<b->I i c s->wpAny M A (f i c) (λr s'=>match r with | .yield c'=>I (i+1) c' s' | .done c'=>Q c' s') E s)
  (fin:∀c s,I (max a b) c s->Q c s) (c:β) (h:I a c s):wpAny M A (forIn ([a:b]:Std.Legacy.Range) c f) Q E s:=by
 rw[Std.Legacy.Range.forIn_eq_forIn_range'];have hz:([a:b]:Std.Legacy.Range).size=b-a:=by simp[Std.Legacy.Range.size]
 show wpAny M A (forIn (List.range' a ([a:b]:Std.Legacy.Range).size 1) c f) Q E s;rw[hz];refine wpAny_forIn_list f (λl c s=>∃i,a<=i/\i<=max a b/\l=List.range' i (max a b-i) 1/\I i c s) Q ?_ ?_ _ c ⟨a,Nat.le_refl _,by lia,by congr 1;lia,h⟩
 ·rintro x rest c s ⟨i,h1,h2,hl,hI⟩;have lt:i<max a b:=by
   rcases Nat.lt_or_ge i (max a b)with h' | h'
   ·exact h'
   ·rw[show max a b-i=0 by lia]at hl;simp at hl
  obtain⟨n,hn⟩:∃n,max a b-i=n+1:=⟨max a b-i-1,by lia⟩;rw[hn,List.range'_succ]at hl;obtain⟨rfl,rfl⟩:=List.cons.inj hl;refine wpAny_mono (turn x c s h1 (by lia) hI) (λr s' h'=>?_) λ_ _ h'=>h';cases r with
  | done c'=>exact h'
  | yield c'=>exact⟨x+1,by lia,by lia,by congr 1;lia,h'⟩
 ·rintro c s ⟨i,h1,h2,hl,hI⟩;have e:i=max a b:=by
   rcases Nat.lt_or_ge i (max a b)with h' | h'
   ·obtain⟨n,hn⟩:∃n,max a b-i=n+1:=⟨max a b-i-1,by lia⟩;rw[hn,List.range'_succ]at hl;simp at hl
   ·lia
  subst e;exact fin _ _ hI
theorem zgr (l:Addr)(items:Array Value)(n:Nat)(dd:Option Addr)(sl:Array (Option Value))(x:Value)(e:Value->Bool)(j:Nat)(hj:j<items.size)
  (hit:e items[j]=true) (hno:∀m (hm:m<items.size),m<j->e items[m]=false) :
  Meets (Builtin.«tuple.index» ⟨[.ref l,x],[]⟩)
   (λA R s=>s.heap.get? l=some { cls:=.type "tuple",dict:=dd,data:=.seq items n,slots:=sl }/\(∀y,y∈items->EqAt A.in1 s y x (e y))/\R (.ok (.ret (.int j s.toks))) { s with toks:=s.toks+1 }):=
 .of_wp λprog w A R s h=>by
  obtain⟨hp,g,d,tk,os⟩:=s;obtain⟨hl,he,h⟩:=h
  wp_walk using wpAny_loadPart' hl,zhw (λi (b:Option _×Unit) s'=>b.1=none/\s'=⟨hp,g,d,tk,os⟩/\i<=j) _
  case turn=>
   rintro i b s' h0 hi ⟨hb,rfl,hij⟩;have hi':i<items.size:=by lia
   rw[show items[i]? = some items[i] from Array.getElem?_eq_getElem hi'];refine wpAny_bind (he _ (Array.getElem_mem hi') prog w _ _ ?_);by_cases ej:i=j
   ·subst ej;rw[hit]
    wp_walk
    exact⟨_,rfl,h⟩
   ·rw[hno i hi' (by lia)]
    wp_walk
    exact⟨rfl,rfl,by lia⟩
  case fin=>
   rintro b s' ⟨hb,rfl,hij⟩;exact absurd hij (by lia)
  case h=>exact⟨rfl,rfl,Nat.zero_le _⟩
end PySem.SeqAt
namespace L2
open PySem PySem.Spec PyProof.Rows
section
variable {X:Cx}
noncomputable def rIdx (sq:Hp->Addr->List V->Prop):V->List V->Hp->VK->Prop:=λx vs H Q=>∃(p:Addr)(xs:List V)(y:V)(j:Nat),x=.ref p/\vs=[y]/\sq H p xs/\zdi y=true/\xs.all zdi=true/\(∃w,xs[j]? = some w/\eqV w y=true)/\(∀m w,m<j->xs[m]? = some w->eqV w y=false)/\Q (.int (j:Int)) H
theorem zmh:∀ {xs:List V}{us:List Value}{m:Nat}{u:Value},Vals xs us->us[m]? = some u->∃w,xs[m]? = some w/\RelV w u
 | _,_,m,u,.nil,h=>by simp at h
 | x::xs,v::us,0,u,.cons r t,h=>by simp at h;subst h;exact⟨x,rfl,r⟩
 | x::xs,v::us,m+1,u,.cons r t,h=>by simpa using zmh t (by simpa using h)
theorem zpF {xs:List V}{m:Nat}{w:V}(f:xs.all zdi=true)(h:xs[m]? = some w):zdi w=true:=List.all_eq_true.mp f w (List.mem_of_getElem? h)
theorem zhx {xs:List V}{its:List Value}{y:V}{j:Nat}(r:Vals xs its)(fs:xs.all zdi=true)(h1:∃w,xs[j]? = some w/\eqV w y=true)(h2:∀m w,m<j->xs[m]? = some w->eqV w y=false) :
  ∃hj:j<its.toArray.size,eqU y its.toArray[j]=true/\∀m (hm:m<its.toArray.size),m<j->eqU y its.toArray[m]=false:=by
 have hl:=r.length;obtain⟨w,hw,ew⟩:=h1;have hj:j<xs.length:=(List.getElem?_eq_some_iff.mp hw).1;have hj':j<its.length:=by lia
 have at_:∀m (hm:m<its.length),∀w,xs[m]? = some w->eqU y its[m]=eqV w y:=λm hm w hx=>by
  obtain⟨w',q1,q2⟩:=zmh r (List.getElem?_eq_getElem hm);rw[hx]at q1;cases q1;exact zot q2 (zpF fs hx)
 refine⟨by simpa using hj',?_,λm hm hlt=>?_⟩
 ·have:=at_ j hj' w hw;simpa[ew]using this
 ·have hm':m<its.length:=by simpa using hm
  have hx:xs[m]? = some xs[m]:=List.getElem?_eq_getElem (by lia);have:=at_ m hm' _ hx;rw[h2 m _ hlt hx]at this;simpa using this
theorem zmi:MtR X "list.index" (rIdx λH p xs=>SqL X.K H p xs):=by
 intro pins s σ H x vs v us Q I rx rv h;obtain⟨p,xs,y,j,rfl,rfl,hq,fy,fs,h1,h2,q⟩:=h;cases rx;obtain⟨u,rfl,ru⟩:=rv.one;obtain⟨its,r,pl,hz⟩:=I.list hq;obtain⟨hj,e1,e2⟩:=zhx r fs h1 h2;obtain⟨⟨cls,dd,data,sl⟩,n,ho,hc,hd,hs⟩:=id pl;simp only at hc hd hs;subst hc hd hs;have hl:=r.length;have hz':=hz;rw[sizeLine_eq]at hz';have hj2:j<its.length:=by simpa using hj
 exact call_meets PySem.F.slot_list_index ⟨_,ho,rfl⟩ PySem.F.entry_list_index (PySem.F.args_list_index_2 _ _) (SeqAt.list_indexAt p its.toArray n _ sl u (eqU y) j hj (by lia) e1 e2) ⟨ho,λz hz=>zgb ru fy r fs z (by simpa using hz),⟨.int (j:Int),H,I.tok _,⟨_,rfl⟩,q⟩⟩
theorem zmj:MtR X "tuple.index" (rIdx λH p xs=>SqT X.K H p xs):=by
 intro pins s σ H x vs v us Q I rx rv h;obtain⟨p,xs,y,j,rfl,rfl,hq,fy,fs,h1,h2,q⟩:=h;cases rx;obtain⟨u,rfl,ru⟩:=rv.one;obtain⟨its,r,pl,hz⟩:=I.tuple hq;obtain⟨hj,e1,e2⟩:=zhx r fs h1 h2;obtain⟨⟨cls,dd,data,sl⟩,ho,hc,n,hd⟩:=id pl;simp only at hc hd;subst hc hd;exact call_meets PySem.F.slot_tuple_index ⟨_,ho,rfl⟩ PySem.F.entry_tuple_index (PySem.F.args_tuple_index_2 _ _) (SeqAt.zgr p its.toArray n dd sl u (eqU y) j hj e1 e2) ⟨ho,λz hz=>zgb ru fy r fs z (by simpa using hz),⟨.int (j:Int),H,I.tok _,⟨_,rfl⟩,q⟩⟩
theorem Inv.zrN {pins:List (Addr×Obj)}{σ:St}{H:Hp}{s:Shared}{a:Addr}{xs:List V}(I:Inv X pins σ H s)(h:SqT X.K H a xs):∃ob,s.heap.get? a=some ob/\ob.cls=.type "tuple"/\ob.dict=none:=by
 rcases h with h | ⟨o,its,n,hk,hc,hs,hz,r,hd⟩
 ·obtain⟨z,its,r,o,h1,h2,h3,h4⟩:=h.ok I.hok;exact⟨o,h1,h2,h4⟩
 ·exact⟨o,I.kIn a o hk,hc,hd⟩
variable {o e:Expr}{to te:TE}{name:Str}{apos cpos:Pos}{id:String}{r:V->List V->Hp->VK->Prop}
end
end L2
namespace PL
open PySem PySem.Spec L2
open PyProof.Rows hiding St
noncomputable def zfl:PV->Bool
 | .non=>true
 | .int _=>true
 | .str _=>true
 | _=>false
noncomputable def idxP (ds:List PV)(e:PV):Nat:=ds.findIdx λx=>decide (x=e)
section
variable {K:PySem.W.Frag}{Fz:FZ}{H:Hp}
theorem zjH {d:PV}{v:V}(f:zfl d=true)(h:Den K Fz H d v):zdi v=true:=by
 cases d with
 | non=>simp only[Den]at h;subst h;rfl
 | int i=>simp only[Den]at h;subst h;rfl
 | str x=>simp only[Den]at h;subst h;rfl
 | _=>exact absurd (show false=true from f) Bool.false_ne_true
theorem zmk {d e:PV}{v w:V}(fd:zfl d=true)(fe:zfl e=true)(hd:Den K Fz H d v)(he:Den K Fz H e w):eqV v w=decide (d=e):=by
 cases d with
 | non=>
  simp only[Den]at hd;subst hd;cases e with
  | non=>simp only[Den]at he;subst he;simp[eqV]
  | int i=>simp only[Den]at he;subst he;simp[eqV]
  | str x=>simp only[Den]at he;subst he;simp[eqV]
  | _=>exact absurd (show false=true from fe) Bool.false_ne_true
 | int i=>
  simp only[Den]at hd;subst hd;cases e with
  | non=>simp only[Den]at he;subst he;simp[eqV]
  | int i=>simp only[Den]at he;subst he;rw[zjp];rfl
  | str x=>simp only[Den]at he;subst he;simp[eqV]
  | _=>exact absurd (show false=true from fe) Bool.false_ne_true
 | str x=>
  simp only[Den]at hd;subst hd;cases e with
  | non=>simp only[Den]at he;subst he;simp[eqV]
  | int i=>simp only[Den]at he;subst he;simp[eqV]
  | str x=>simp only[Den]at he;subst he;rw[zjq];rfl
  | _=>exact absurd (show false=true from fe) Bool.false_ne_true
 | _=>exact absurd (show false=true from fd) Bool.false_ne_true
theorem zhy:∀ {ds:List PV}{xs:List V},ds.all zfl=true->DenL K Fz H ds xs->xs.all zdi=true
 | [],xs,_,h=>by simp only[DenL]at h;subst h;rfl
 | d::ds,xs,f,h=>by
  simp only[DenL]at h;obtain⟨v,r,rfl,h1,h2⟩:=h;rw[List.all_cons,Bool.and_eq_true]at f ⊢;exact⟨zjH f.1 h1,zhy f.2 h2⟩
theorem zpG {ds:List PV}{xs:List V}{e:PV}{y:V}(f:ds.all zfl=true)(fe:zfl e=true)(h:DenL K Fz H ds xs)(hy:Den K Fz H e y)(hm:e∈ds) :
  (∃w,xs[idxP ds e]? = some w/\eqV w y=true)/\∀m w,m<idxP ds e->xs[m]? = some w->eqV w y=false:=by
 have hi:idxP ds e<ds.length:=List.findIdx_lt_length_of_exists ⟨e,hm,by simp⟩;have hl:=h.length;refine⟨?_,λm w hlt hw=>?_⟩
 ·obtain⟨w,q1,q2⟩:=h.get (List.getElem?_eq_getElem hi);refine⟨w,q1,?_⟩;have:=List.findIdx_getElem (p:=λx=>decide (x=e)) (xs:=ds) (w:=hi);rw[zmk (List.all_eq_true.mp f _ (List.getElem_mem hi)) fe q2 hy];exact this
 ·have hm':m<ds.length:=by
   have:=(List.getElem?_eq_some_iff.mp hw).1;lia
  obtain⟨w',q1,q2⟩:=h.get (List.getElem?_eq_getElem hm');rw[hw]at q1;cases q1;rw[zmk (List.all_eq_true.mp f _ (List.getElem_mem hm')) fe q2 hy];have:=List.not_of_lt_findIdx (p:=λx=>decide (x=e)) (xs:=ds) hlt;simpa using this
end
theorem zml {K:PySem.W.Frag}{Fz:FZ}{H:Hp}{d:PV}{v:V}(f:zfl d=true)(h:Root K Fz H d v):Den K Fz H d v:=by
 cases d with
 | non=>exact h
 | int i=>exact h
 | str x=>exact h
 | _=>exact absurd (show false=true from f) Bool.false_ne_true
end PL
namespace L2
open PySem PySem.Spec PyProof.Rows
section
variable {X:Cx}
theorem zmm (hc:X.calm=true):zcd X (.builtin "sum") (λxs H Q=>∃(p:Addr) (ns:List Int),xs=[V.ref p]/\SqL X.K H p (ns.map V.int)/\Q (.int ns.sum) H):=by
 intro pins s σ H xs us Q I r h;obtain⟨p,ns,rfl,hq,q⟩:=h;obtain⟨u,rfl,rx⟩:=vals1 r;cases rx;obtain⟨its,r',pl,hz⟩:=I.list hq;have hI:IntsAre its ns:=intsAre_of r';have hl:=pl.isList;have hall:=hI.allInts;obtain⟨zs,ez⟩:=hall.items;rw[ez]at hl;refine sum_intListG (I.ok.hd hc) hl λh' tk t' hk=>?_;have en:preSum (numAt zs) zs.size=ns.sum:=by
  have e1:numsOf its.toArray.toList=ns:=hI.numsOf;rw[ez,nums_intItems]at e1;rw[preSum_eq,List.take_of_length_le (by simp),e1]
 rw[en];exact⟨.int ns.sum,H,I.kept hk,⟨_,rfl⟩,q⟩
theorem zmn (hc:X.calm=true){pins:List (Addr×Obj)}{σ:St}{H:Hp}{p it:Addr}{as:List Addr}{yss:List (List V)}{R:Result->Shared->Prop}(hq:SqL X.K H p (as.map V.ref))(hl:as.length=yss.length)(hy:∀(i:Nat) a ys,as[i]? = some a->yss[i]? = some ys->SqL X.K H a ys)(hf:FpOk X pins H it) :
  ∀(k i:Nat) (s:Shared),as.length-i=k->i<=as.length->Inv X pins σ H s->s.heap.IsListIter it p i->(∀s',Inv X pins σ H s'->R (.ok (.ret (.bool ((yss.drop i).all λys=>!ys.isEmpty)))) s')->codeAny (model X.prog X.w) X.A (.builtin "all.loop" ⟨[.ref it],[]⟩) R s:=by
 intro k;obtain⟨f0,f1,f2,f3,f4,f5⟩:=hf;induction k with
 | zero=>
  intro i s hk hi I st hR;obtain⟨its,rv,pl,hz⟩:=I.list hq;have hlen:=rv.length;rw[List.length_map]at hlen;refine codeAny_builtin F.entry_all_loop ?_;rw[Around.under_plainId F.plain_all_loop _];show wpAny _ X.A.in1 (pyNext (.ref it) >>= _) _ _ s;refine wpAny_bind (wpAny_pyNext_list_end (I.ok.hd hc) st pl.isList (by simp;lia) λh' eb=>?_);have I1:Inv X pins σ H { s with heap:=h' }:=I.turned (t':=s.toks) (λb o hb e=>eb b o hb e) f0 f1 f3 f4 f5;refine wpAny_bind (wpAny_rule (wpAny_pure ?_));have:=hR _ I1;rw[List.drop_of_length_le (by lia)]at this;exact this
 | succ k ih=>
  intro i s hk hi I st hR;obtain⟨its,rv,pl,hz⟩:=I.list hq;have hlt:i<as.length:=by lia
  have hlt2:i<yss.length:=by lia
  obtain⟨u,hu,ru⟩:=rv.get (i:=i) (x:=.ref as[i]) (by simp[hlt]);cases ru;have hys:=hy i _ _ (List.getElem?_eq_getElem hlt) (List.getElem?_eq_getElem hlt2);have hd:yss.drop i=yss[i]::yss.drop (i+1):=List.drop_eq_getElem_cons hlt2;refine codeAny_builtin F.entry_all_loop ?_;rw[Around.under_plainId F.plain_all_loop _];show wpAny _ X.A.in1 (pyNext (.ref it) >>= _) _ _ s;refine wpAny_bind (wpAny_pyNext_list_item st pl.isList (x:=.ref as[i]) (by simpa using hu) λh' st' sb=>?_);have I1:Inv X pins σ H { s with heap:=h' }:=I.turned (t':=s.toks) (λb o hb e=>(sb.2 b hb).trans e) f0 f1 f3 f4 f5;obtain⟨its2,rv2,pl2,hz2⟩:=I1.list hys;have hlen2:=rv2.length;rw[sizeLine_eq]at hz2;refine wpAny_bind (wpAny_holding (wpAny_truthy_list pl2.isList (by simp only[List.size_toArray];lia) ?_));refine wpAny_bind (wpAny_letGo ?_);rw[zdS rv2];have I2:=I1.tok (s.toks+1+1);cases hb:(yss[i]).isEmpty with
  | false=>
   refine wpAny_pure ⟨plainId_quiet F.plain_all_loop _,ih (i+1) _ (by lia) hlt I2 st' λs' I'=>?_⟩;have:=hR s' I';rw[hd,List.all_cons,hb]at this;simpa using this
  | true=>
   refine wpAny_bind (wpAny_rule (wpAny_pure ?_));have:=hR _ I2;rw[hd,List.all_cons,hb]at this;simpa using this
theorem zmo (hc:X.calm=true):zcd X (.builtin "all") (λxs H Q=>∃(p:Addr) (as:List Addr) (yss:List (List V)),xs=[V.ref p]/\SqL X.K H p (as.map V.ref)/\as.length=yss.length/\(∀(i:Nat) a ys,as[i]? = some a->yss[i]? = some ys->SqL X.K H a ys)/\Q (.bl (yss.all λys=>!ys.isEmpty)) H):=by
 intro pins s σ H xs us Q I r h;obtain⟨p,as,yss,rfl,hq,hl,hy,q⟩:=h;obtain⟨u,rfl,rx⟩:=vals1 r;cases rx;obtain⟨its,r',pl,hz⟩:=I.list hq;have I1:Inv X pins σ H { s with heap:=s.heap.push { cls:=.type "list_iterator",data:=.fields #[.ref p,.int 0 0] } }:=I.kept (t':=s.toks) λb o e=>Heap.get?_push_of_some _ e;refine call_function_tree F.kind_all F.plain_all F.entry_all (F.args_all1 _) ?_;unfold Builtin.«all»;refine wpAny_bind (m:=oneArg "all" _) (wpAny_pure ?_);refine wpAny_bind (wpAny_pyIter_list pl.isList (wpAny_pure ⟨plainId_quiet F.plain_all_loop _,?_⟩));refine zmn hc hq hl hy (I.fpOk (Nat.le_refl _) (I.hok.fresh (Nat.le_refl _))) _ 0 _ rfl (Nat.zero_le _) I1 ⟨_,Heap.get?_push_size _ rfl,rfl,rfl⟩ λs' I'=>?_;exact⟨.bl _,H,I',rfl,by simpa using q⟩
end
end L2
namespace PL
open PySem PySem.Spec L2
open PyProof.Rows hiding St
section
variable {X:Cx}
noncomputable def fSum:PF:=λds Q=>∃ns:List Int,ds=[.lst (ns.map PV.int)]/\Q (.int ns.sum) .frz
theorem zfL {K:PySem.W.Frag}{Fz:FZ}{H:Hp}:∀ {ns:List Int}{xs:List V},DenL K Fz H (ns.map PV.int) xs->xs=ns.map V.int
 | [],xs,h=>by simpa only[List.map,DenL]using h
 | n::ns,xs,h=>by
  simp only[List.map,DenL,Den]at h;obtain⟨v,r,rfl,rfl,h⟩:=h;rw[zfL h];rfl
theorem zrO:zdZ X.K (λxs H Q=>∃(p:Addr)(ns:List Int),xs=[V.ref p]/\SqL X.K H p (ns.map V.int)/\Q (.int ns.sum) H) fSum where
 mono ds Q Q' m h:=by obtain⟨ns,e,q⟩:=h;exact⟨ns,e,m _ _ q⟩
 run Fz H ds vs Q al hr h:=by
  obtain⟨ns,rfl,q⟩:=h;obtain⟨v,rfl,h1⟩:=zcV hr;obtain⟨a,xs,rfl,h2,h3⟩:=zak h1;rw[zfL h3]at h2;exact⟨a,ns,rfl,h2,q _ Fz H (.val al (by simp only[Den]))⟩
noncomputable def fOrd:PF:=λds Q=>∃x:Str,ds=[.str x]/\x.length=1/\Q (.int (x.cps.getD 0 0:Nat)) .frz
theorem zrP:zdZ X.K (λxs H Q=>∃x,xs=[V.str x]/\x.length=1/\Q (.int (x.cps.getD 0 0:Nat)) H) fOrd where
 mono ds Q Q' m h:=by obtain⟨x,e,e2,q⟩:=h;exact⟨x,e,e2,m _ _ q⟩
 run Fz H ds vs Q al hr h:=by
  obtain⟨x,rfl,e2,q⟩:=h;obtain⟨v,rfl,h1⟩:=zcV hr;exact⟨x,by rw[zaN h1],e2,q _ Fz H (.val al (by simp only[Den]))⟩
noncomputable def zdG:PF:=λds Q=>∃dss:List (List PV),ds=[.lst (dss.map PV.lst)]/\Q (.bl (dss.all λd=>!d.isEmpty)) .frz
theorem zhz {K:PySem.W.Frag}{Fz:FZ}{H:Hp}:∀ {dss:List (List PV)}{xs:List V},DenL K Fz H (dss.map PV.lst) xs->∃(as:List Addr)(yss:List (List V)),xs=as.map V.ref/\as.length=yss.length/\(∀(i:Nat) a ys,as[i]? = some a->yss[i]? = some ys->SqL K H a ys)/\(yss.all λys=>!ys.isEmpty)=dss.all λd=>!d.isEmpty
 | [],xs,h=>by
  simp only[List.map,DenL]at h;exact⟨[],[],by rw[h];rfl,rfl,λi a ys h=>by simp at h,rfl⟩
 | d::dss,xs,h=>by
  simp only[List.map,DenL,Den]at h;obtain⟨v,r,rfl,⟨a,ys,rfl,h1,h2⟩,h⟩:=h;obtain⟨as,yss,e,el,hs,hb⟩:=zhz h;have hl:=h2.length;refine⟨a::as,ys::yss,by rw[e];rfl,by simp[el],λi b zs q1 q2=>?_,?_⟩
  ·cases i with
   | zero=>simp at q1 q2;subst q1 q2;exact h1.elim (λz=>.inl z.2) KX.sq
   | succ i=>exact hs i b zs (by simpa using q1) (by simpa using q2)
  ·rw[List.all_cons,List.all_cons,hb];cases d with
   | nil=>cases ys with
    | nil=>rfl
    | cons _ _=>simp at hl
   | cons _ _=>cases ys with
    | nil=>simp at hl
    | cons _ _=>rfl
theorem zpH:zdZ X.K (λxs H Q=>∃(p:Addr)(as:List Addr)(yss:List (List V)),xs=[V.ref p]/\SqL X.K H p (as.map V.ref)/\as.length=yss.length/\(∀(i:Nat) a ys,as[i]? = some a->yss[i]? = some ys->SqL X.K H a ys)/\Q (.bl (yss.all λys=>!ys.isEmpty)) H) zdG where
 mono ds Q Q' m h:=by obtain⟨ns,e,q⟩:=h;exact⟨ns,e,m _ _ q⟩
 run Fz H ds vs Q al hr h:=by
  obtain⟨dss,rfl,q⟩:=h;obtain⟨v,rfl,h1⟩:=zcV hr;obtain⟨a,xs,rfl,h2,h3⟩:=zak h1;obtain⟨as,yss,rfl,el,hs,hb⟩:=zhz h3;exact⟨a,as,yss,rfl,h2,el,hs,q _ Fz H (.val al (by simp only[Den];rw[hb]))⟩
variable {e:Expr}{es:List Expr}{t:TPA}{p pos:Pos}
theorem bSum:bootBuiltins "sum" = some (.builtin "sum"):=by decide +kernel
theorem bOrd:bootBuiltins "ord" = some (.builtin "ord"):=by decide +kernel
theorem zta:bootBuiltins "all" = some (.builtin "all"):=by decide +kernel
theorem zrQ (hc:X.calm=true)(hg:Gl X "sum") (hm:X.mg "sum" = none) (ha:PuA X (e::es) t) (he:starEach (e::es) X.env=(false,eval e X.env)::starEach es X.env:=by rfl) (hpl:(backTo pos (starEach es X.env)).any (·.1)=false:=by rfl):PuE X (.Call (.Name "sum" p) (e::es) [] pos) (tB fSum t):=
 zbS (zmm hc) zrO hg hm bSum ha (by decide) (by decide) he hpl
theorem zrR (hg:Gl X "ord") (hm:X.mg "ord" = none) (ha:PuA X (e::es) t) (he:starEach (e::es) X.env=(false,eval e X.env)::starEach es X.env:=by rfl) (hpl:(backTo pos (starEach es X.env)).any (·.1)=false:=by rfl):PuE X (.Call (.Name "ord" p) (e::es) [] pos) (tB fOrd t):=
 zbS zne zrP hg hm bOrd ha (by decide) (by decide) he hpl
theorem zpI (hc:X.calm=true)(hg:Gl X "all") (hm:X.mg "all" = none) (ha:PuA X (e::es) t) (he:starEach (e::es) X.env=(false,eval e X.env)::starEach es X.env:=by rfl) (hpl:(backTo pos (starEach es X.env)).any (·.1)=false:=by rfl):PuE X (.Call (.Name "all" p) (e::es) [] pos) (tB zdG t):=
 zbS (zmo hc) zpH hg hm zta ha (by decide) (by decide) he hpl
end
section
variable {X:Cx}{pos:Pos}
noncomputable def zej:TPE:=λ_ Q=>Q (.dK [] []) .new
theorem zmp:PuE X (.Dict [] [] pos) zej where
 mono ρ Q Q' m h:=m _ _ h
 run:=PE.weak zjg λσ H Q h=>by
  obtain⟨ρ,Fz,R,h⟩:=h;exact λp hp=>h _ Fz _ ⟨Ext.laid ⟨Same.refl H,λ_ h=>h,λ_ h=>.inl h,R.al⟩ hp,p,rfl,hp,λz=>R.al p z hp,[],zag,rfl,DenL.nil⟩
end
noncomputable def keyT (k:List Key):PV:=.tup (k.map keyP)
section
variable {K:PySem.W.Frag}{Fz:FZ}{H:Hp}
theorem zhA:∀ {k:List Key}{xs:List V},DenL K Fz H (k.map keyP) xs->xs=k.map kV
 | [],xs,h=>by simpa only[List.map,DenL]using h
 | c::k,xs,h=>by
  simp only[List.map,DenL]at h;obtain⟨v,r,rfl,h1,h2⟩:=h;rw[zhA h2,zeO (show Root K Fz H (keyP c) v by cases c<;>exact h1)];rfl
theorem zhB {k:List Key}{x:V}(h:Root K Fz H (keyT k) x):∃b,x=.ref b/\H b=some (.tup (k.map kV)):=by
 obtain⟨b,xs,rfl,h1,h2⟩:=zdq h;rw[zhA h2]at h1;exact⟨b,rfl,h1⟩
end
section
variable {X:Cx}{a b c:Expr}{ta tb tc:TPE}{pos apos cpos:Pos}
theorem zpJ {p:P2}(hp:POp X.K (rDI false) p)(ha:PuE X a ta)(hb:PuE X b tb){σ:St}{H:Hp}{Q:VK}(h:lift X.K (t2 p ta tb) σ H Q):tDIn (lift X.K ta) (lift X.K tb) σ H Q:=by
 have:=zhf hp ha hb h;exact this
theorem zrS (hu:X.A.units+1<cLine)(ha:PuE X a ta)(hb:PuE X b tb)(hm:behindInMarks .In b=false:=by rfl):PuE X (.Compare a [.In] [b] pos) (t2 (pDI false) ta tb):=
 ⟨zdV zrJ ha hb,PE.weak (zqq (zqX hu ha.run hb.run) hm) λ_ _ _ h=>zpJ zrJ ha hb h⟩
noncomputable def zcn (ta tb tc:TPE):TPE:=λρ Q=>ta ρ λd kd=>∃ks ds,d=.dT ks ds/\isOwn kd=false/\tb ρ λe _=>∃k,e=keyT k/\tc ρ λf kf=>isOwn kf=false/\Q ((dgP ks ds k).getD f) .frz
theorem znI (hu:X.A.units+1<cLine)(ha:PuE X a ta)(hb:PuE X b tb)(hc:PuE X c tc)(m:M2 X a "get" apos b c cpos:=by exact⟨rfl,rfl,rfl,rfl⟩):PuE X (.Call (.Attribute a "get" apos) [b,c] [] cpos) (zcn ta tb tc) where
 mono ρ Q Q' mm h:=ha.mono ρ _ _ (λd _ ⟨ks,ds,e1,e2,h⟩=>⟨ks,ds,e1,e2,hb.mono ρ _ _ (λe _ ⟨k,e3,h⟩=>⟨k,e3,hc.mono ρ _ _ (λf _ ⟨e4,q⟩=>⟨e4,mm _ _ q⟩) h⟩) h⟩) h
 run:=PE.weak (znn hu ha.run hb.run hc.run m) λσ H Q h=>by
  obtain⟨ρ,Fz,R,h⟩:=h;refine⟨ρ,Fz,R,ha.mono ρ _ _ (λd kd q v F1 H1 p1=>?_) h⟩;obtain⟨ks,ds,rfl,ho,q⟩:=q;obtain⟨F1',x1,s1,d1⟩:=p1.frozen (zgn ho);have R1:=R.ext x1;simp only[Den]at d1;obtain⟨a,xs,rfl,f1,r1,l1,dl1⟩:=d1;refine⟨a,rfl,.inr ⟨_,r1⟩,ρ,F1',R1,hb.mono ρ _ _ (λe ke q w F2 H2 p2=>?_) q⟩;obtain⟨k,rfl,q⟩:=q;have R2:=R1.ext p2.ext;obtain⟨bb,rfl,hbb⟩:=zhB (p2.root R1);refine⟨ρ,F2,R2,hc.mono ρ _ _ (λf kf q u F3 H3 p3=>?_) q⟩;obtain⟨ho3,q⟩:=q;obtain⟨F4,x4,s4,d4⟩:=p3.frozen (zgn ho3);have kp:Keep F1' H1 H3:=.of (p2.ext.same.trans x4.same);have sb:∀b,F1' b->F4 b:=λb h=>x4.sub b (p2.ext.sub b h);have r3:Rd H3 a (.dT (ks.zip xs)):=kp.rd trivial f1 r1;have dl3:DenL X.K F4 H3 ds xs:=DenL.mono kp sb _ _ dl1;refine⟨valV (ks.zip xs) k,.inr ⟨_,k,bb,r3,rfl,x4.same _ _ hbb,rfl⟩,q _ F4 H3 ⟨(x1.trans p2.ext).trans x4,?_⟩⟩;show Den _ _ _ _ _;cases e:dgP ks ds k with
  | none=>rw[(zhu ks ds xs k dl3).2 e];exact d4
  | some d'=>obtain⟨v,e5,h5⟩:=(zhu ks ds xs k dl3).1 d' e;rw[e5];exact h5
end
end PL
namespace PySem
section
variable {prog:Program}{w:World}{K:Type} [DecidableEq K] {knd:HeapKind prog w K}{A:Around}{E:Value->Shared->Prop}{s:Shared}
theorem zek {d a:Addr}{xs:List (K×Addr×Value)}{k:K}{v:Value}{Q:Value->Shared->Prop}(hu:knd.room A)(hkey:knd.is s.heap k a)(hm:s.heap.DictOfH knd d xs)
  (there:∀p,atKey xs k=some p->Q p.2 { s with toks:=s.toks+knd.draws k })
  (fresh:atKey xs k=none->∀h',h'.DictOfH knd d (storedH xs k a v)->Heap.SameBut d s.heap h'->Q v { s with heap:=h',toks:=s.toks+knd.draws k })
  (hsz:xs.length<=sizeLine):wpAny (model prog w) A (dictSetDefault d (.ref a) v) Q E s:=by
 obtain⟨ob,es,ep,hob,hcl,hdt,hes,hks,hnd⟩:=hm;unfold dictSetDefault;refine wpAny_holding ?_;refine wpAny_bind (knd.pyHash hu hkey (wpAny_bind (wpAny_dictFind_heap (s:={ s with toks:=s.toks+knd.draws k }) hu hkey hob hdt hes hks hnd (λhno=>?_) λj q hj=>?_)))
 ·have hk0:=atKey_none_of_get hno;have hnew:k∉xs.map (·.1):=not_mem_keys_of_get hno;refine wpAny_bind (wpAny_rule (wpAny_bind (wpAny_updateDictKeys (hz:=by have e:=size_of_entries hes;lia) (s:={ s with toks:=s.toks+knd.draws k }) hob hdt (wpAny_pure (fresh hk0 _ ?_ (Heap.SameBut.update ..))))));refine⟨_,_,ep+1,Heap.get?_update_self _ hob (Obj.isFreed_of_dict (Obj.data_mapDictKeys hdt _)),hcl.mapDictKeys _,Obj.data_mapDictKeys hdt _,?_,?_,?_⟩<;>rw[storedH_new hk0]
  ·simp[hes,entryOfKey]
  ·intro y hy;rcases List.mem_append.mp hy with hy | hy
   ·exact knd.keeps (hks y hy) hob hdt (Heap.SameBut.update ..)
   ·have:=List.mem_singleton.mp hy;subst this;exact knd.keeps hkey hob hdt (Heap.SameBut.update ..)
  ·rw[List.map_append,List.nodup_append];exact⟨hnd,by simp,λy hy z hz e=>hnew (by have:=List.mem_singleton.mp hz;rw[e,this]at hy;exact hy)⟩
 ·refine wpAny_bind (wpAny_dictEntries (s:={ s with toks:=s.toks+knd.draws k }) hob hdt ?_);rw[entry_at hes j,hj];exact wpAny_bind (wpAny_rule (wpAny_pure (there q (atKey_of_get hnd hj))))
end
section
variable {prog:Program}{w:World}{K:Type} [DecidableEq K] (knd:HeapKind prog w K)(d a:Addr)
theorem zel (hd:(d == sysModules)=false)(v:Value) :
  MeetsIn prog w (Builtin.«dict.setdefault» ⟨[.ref d,.ref a,v],[]⟩) (λA R s=>knd.room A.in1/\∃k xs,knd.is s.heap k a/\s.heap.DictOfH knd d xs/\xs.length<=sizeLine/\
   (∀p,atKey xs k=some p->R (.ok (.ret p.2)) { s with toks:=s.toks+knd.draws k })/\
   (atKey xs k=none->∀h',h'.DictOfH knd d (storedH xs k a v)->Heap.SameBut d s.heap h'->R (.ok (.ret v)) { s with heap:=h',toks:=s.toks+knd.draws k })):=
 .of_wp λA R s ⟨hu,k,xs,hkey,hm,hsz,h1,h2⟩=>by
  unfold Builtin.«dict.setdefault»;refine wpAny_bind ?_;unfold Builtin.Dict.keyAndDefault;refine wpAny_bind (wpAny_notOrdered_dict hm.typeIs (wpAny_pure ?_));show wpAny _ _ (if (d == sysModules)=true then _ else(dictSetDefault d (.ref a) v >>= _)) _ _ s
  rw[if_neg (by rw[hd];exact Bool.false_ne_true)];exact wpAny_bind (zek hu hkey hm (λp hp=>wpAny_pure ⟨_,rfl,h1 p hp⟩) (λhn h' hm' hs=>wpAny_pure ⟨_,rfl,h2 hn h' hm' hs⟩) hsz)
end
end PySem
namespace L2
open PySem PySem.Spec PyProof.Rows
section
variable {X:Cx}{pins:List (Addr×Obj)}{σ:St}{H:Hp}{s:Shared}{a b:Addr}{kvs:List (List Key×V)}{k:List Key}{z:V}{r:Value}{A:Around}{E:Value->Shared->Prop}
theorem zmq {Q:Value->Shared->Prop}(hu:A.units+1<cLine)(I:Inv X pins σ H s)(e:H a=some (.dT kvs))(eb:H b=some (.tup (k.map kV)))(l:kvs.length<sizeLine)(rz:RelV z r)
  (h1:∀v w' s',valV kvs k=some v->Inv X pins σ H s'->RelV v w'->Q w' s') (h2:valV kvs k=none->∀s',Inv X pins σ (upd H a (.dT (putK kvs k z))) s'->Q r s') :
  wpAny (model X.prog X.w) A (call (.builtin "dict.setdefault") [.ref a,.ref b,r]) Q E s:=by
 obtain⟨hz,hd,xs,rel,dd⟩:=zqU I.hok e;have hl:(putK kvs k z).length<=sizeLine:=by have:=zcY kvs k z;lia
 have rv:=rel.val k;refine call_meetsIn PySem.F.slot_dict_setdefault dd.typeIs PySem.F.entry_dict_setdefault (PySem.F.args_dict_setdefault_3 _ _ _) (zel (tupleKind (zay X.prog X.w)) a b hd r)
  ⟨tupleKind_room_in1 hu,k,xs,zgX I.hok eb,dd,by rw[<- Paired.length rel];exact hz,λp hp=>?_,λhn h' dd' hs=>?_⟩
 ·rw[hp]at rv;cases hv:valV kvs k with
  | none=>rw[hv]at rv;cases rv
  | some v=>
   rw[hv]at rv;exact h1 v p.2 _ hv (I.tok _) rv
 ·have hvn:valV kvs k=none:=by
   rw[hn]at rv;cases hv:valV kvs k with
   | none=>rfl
   | some v=>rw[hv]at rv;cases rv
  refine h2 hvn _ ?_;obtain⟨q,es,ep,hq,g2,g3,g4,_,g5⟩:=dd';refine ziv I (by rw[e];exact True.intro) hs ⟨q,hq⟩ ⟨hl,hd,_,(rel.put k eb rz).keeps λc ys ec=>?_,q,es,ep,hq,g2,g3,g4,g5⟩;rw[zaf (zqm ec e (λy=>nomatch y))];exact ec
end
noncomputable def ztb (td ty tx:TE):TE:=λσ H Q=>td σ H λx H1=>∃a,x=.ref a/\IsD H1 a/\ty σ H1 λy H2=>tx σ H2 λz H3=>∃kvs k b,H3 a=some (.dT kvs)/\y=.ref b/\H3 b=some (.tup (k.map kV))/\kvs.length<sizeLine/\
 (∀v,valV kvs k=some v->Q v H3)/\(valV kvs k=none->Q z (upd H3 a (.dT (putK kvs k z))))
section
variable {X:Cx}{o e f:Expr}{apos cpos:Pos}{td ty tx:TE}
theorem zpK (hu:X.A.units+1<cLine)(ho:PE X o td)(he:PE X e ty)(hf:PE X f tx)(m:M2 X o "setdefault" apos e f cpos):PE X (.Call (.Attribute o "setdefault" apos) [e,f] [] cpos) (ztb td ty tx):=by
 intro pins s σ H Q I h;refine wpAny_Call_method m.base m.few m.line PySem.F.plainAttrs_dict PySem.F.slot_dict_setdefault PySem.F.type_dict_setdefault (thn (ho pins s σ H _ I h) λu s1 ⟨x,H1,I1,rx,a,ex,d,q1⟩=>?_);subst ex;obtain rfl:u=Value.ref a:=rx;obtain⟨t1,t2,_⟩:=zov I1 d;refine⟨t1,t2,?_⟩;rw[m.trees];refine Calls.callWith_builtin rfl (Calls.evalArgs_plain (Calls.spliced_cons (thn (he pins s1 σ H1 _ I1 q1) λiv s2 ⟨y,H2,I2,ry,q2⟩=>
  Calls.spliced_cons (thn (hf pins s2 σ H2 _ I2 q2) λfv s3 ⟨z,H3,I3,rz,kvs,k,b,ea,ey,eb,hl,q3,q4⟩=>Calls.spliced_nil ?_))))
 subst ey;obtain rfl:iv=Value.ref b:=ry;exact zmq hu I3 ea eb hl rz (λv w' s' hv I' rv=>⟨v,H3,I',rv,q3 v hv⟩) λhn s' I'=>⟨z,_,I',rz,q4 hn⟩
end
end L2
namespace PL
open PySem PySem.Spec L2
open PyProof.Rows hiding St
noncomputable def hasT (ks:List (List Key))(k:List Key):Bool:=ks.any λc=>decide (c=k)
theorem zgs {ks:List (List Key)}{k:List Key}:hasT ks k=true↔k∈ks:=by
 unfold hasT;rw[List.any_eq_true];constructor
 ·rintro⟨c,hc,e⟩;have:c=k:=by simpa using e
  rw[<- this];exact hc
 ·exact λh=>⟨k,h,by simp⟩
noncomputable def zcu (ks:List (List Key))(ds:List PV)(k:List Key):List (List Key)×List PV:=if hasT ks k=true then(ks,ds) else(ks++[k],ds++[.dK [] []])
noncomputable def zhC (cs:List Key)(es:List PV)(c:Key)(d:PV):PV:=if hasK cs c=true then .dK cs (putD cs es c d) else .dK (cs++[c]) (es++[d])
noncomputable def ixK (ks:List (List Key))(k:List Key):Nat:=ks.findIdx λx=>decide (x=k)
noncomputable def zco (z iy:Nat)(tk ti tv:TPE):TPB:=λρ β O=>∃ks ds,β=.T ks ds/\iy<ρ.length/\rdE z tk ρ β λdk=>∃k,dk=keyT k/\ks.length<sizeLine/\
 rdE z tv (ρ.set iy none) (.T (zcu ks ds k).1 (zcu ks ds k).2) λdv=>rdE z ti (ρ.set iy none) (.T (zcu ks ds k).1 (zcu ks ds k).2) λdi=>∃c cs es,di=keyP c/\(zcu ks ds k).2[ixK (zcu ks ds k).1 k]? = some (.dK cs es)/\cs.length<sizeLine/\
  O.nx (ρ.set iy none) (.T (zcu ks ds k).1 ((zcu ks ds k).2.set (ixK (zcu ks ds k).1 k) (zhC cs es c dv)))
theorem zmr {ks:List (List Key)}{vs:List V}{k:List Key}(hl:ks.length=vs.length):valV (ks.zip vs) k=none↔k∉ks:=by
 unfold valV;rw[Option.map_eq_none_iff,List.find?_eq_none];constructor
 ·intro h hk;obtain⟨i,hi,e⟩:=List.getElem_of_mem hk;have:=h (ks[i],vs[i]'(by lia)) (by
   rw[List.mem_iff_getElem];exact⟨i,by simp;lia,by simp⟩)
  simp[e]at this
 ·intro h x hx;have:=(List.of_mem_zip (a:=x.1) (b:=x.2) hx).1;simp;exact λz=>h (z▸this)
theorem zms {ks:List (List Key)}{vs:List V}{k:List Key}{v:V}(hl:ks.length=vs.length)(h:valV (ks.zip vs) k=some v):k∈ks/\vs[ixK ks k]? = some v:=by
 induction ks generalizing vs with
 | nil=>simp[valV]at h
 | cons c ks ih=>
  cases vs with
  | nil=>simp at hl
  | cons x vs=>
   by_cases e:c=k
   ·subst e;have:x=v:=by simpa[valV]using h
    subst this;exact⟨List.mem_cons_self ..,by simp[ixK,List.findIdx_cons]⟩
   ·have h':valV (ks.zip vs) k=some v:=by simpa[valV,List.find?_cons,e]using h
    obtain⟨q1,q2⟩:=ih (by simpa using hl) h';refine⟨List.mem_cons_of_mem _ q1,?_⟩;have:ixK (c::ks) k=ixK ks k+1:=by unfold ixK;simp[List.findIdx_cons,e]
    rw[this,List.getElem?_cons_succ];exact q2
theorem ziJ {ks:List (List Key)}{k:List Key}(h:k∉ks):ixK (ks++[k]) k=ks.length:=by
 unfold ixK;induction ks with
 | nil=>simp[List.findIdx_cons]
 | cons c ks ih=>
  have e:¬ c=k:=λz=>h (z▸List.mem_cons_self ..);have:=ih λz=>h (List.mem_cons_of_mem _ z);simp[List.findIdx_cons,e,this]
theorem znJ {ks:List (List Key)}{vs:List V}{k:List Key}{v:V}(hl:ks.length=vs.length)(h:k∉ks):putK (ks.zip vs) k v=(ks++[k]).zip (vs++[v]):=by
 unfold putK;have:((ks.zip vs).any λkv=>decide (kv.1=k))=false:=by
  rw[List.any_eq_false];intro x hx;have:=(List.of_mem_zip (a:=x.1) (b:=x.2) hx).1;simp;exact λz=>h (z▸this)
 rw[this,List.zip_append hl];rfl
section
variable {X:Cx}{z iy:Nat}{ek ei ev:Expr}{tk ti tv:TPE}{x y:Str}{rest:List Stmt}{t:TPB}{p p1 p2 p3 p4 apos cpos pos1 pos2 dpos:Pos}
theorem znK (hu:X.A.units+1<cLine)(hN:X.N.Nodup)(hk:PuE X ek tk)(hi:PuE X ei ti)(hv:PuE X ev tv)(hr:PuB X z rest t)(hz:X.N[z]? = some x:=by rfl)(hy:X.N[iy]? = some y:=by rfl)(hly:Loc X.env.scope y:=by first | exact Or.inl rfl | exact Or.inr rfl)(hzy:iy≠z:=by decide)
  (hvx:Vis X.env.scope x:=by first | exact Or.inl rfl | exact Or.inr (Or.inl rfl) | exact Or.inr (Or.inr rfl)) (hvy:Vis X.env.scope y:=by first | exact Or.inl rfl | exact Or.inr (Or.inl rfl) | exact Or.inr (Or.inr rfl)) (hd:(x == ("__debug__" : Str))=false:=by decide) (hcd:(x == ("__classdict__" : Str))=false:=by decide) (hd2:(y == ("__debug__" : Str))=false:=by decide) (hcd2:(y == ("__classdict__" : Str))=false:=by decide)
  (m:M2 X (.Name x p) "setdefault" apos ek (.Dict [] [] dpos) cpos:=by exact⟨rfl,rfl,rfl,rfl⟩) (hs1:swapsWith (.Call (.Attribute (.Name x p) "setdefault" apos) [ek,.Dict [] [] dpos] [] cpos) (some (.Name y p1)) pos1.line X.env=pure false:=by rfl)
  (hf:X.fn y=true\/X.env.scope.names.lookup y=some .local:=by first | exact .inl rfl | exact .inr rfl | assumption) (hs2:swapsWith ev (some (.Subscript (.Name y p2) ei p3)) pos2.line X.env=pure false:=by rfl) :
  PuB X z (.Assign [.Name y p1] (.Call (.Attribute (.Name x p) "setdefault" apos) [ek,.Dict [] [] dpos] [] cpos) pos1::.Assign [.Subscript (.Name y p2) ei p3] ev pos2::rest) (zdD (zco z iy tk ti tv) t) where
 mono ρ β O O' m h:=by
  obtain⟨ks,ds,e0,el,h⟩:=h;exact⟨ks,ds,e0,el,hk.mono _ _ _ (λd k ⟨e1,e2,kk,q2,q3,q⟩=>⟨e1,e2,kk,q2,q3,hv.mono _ _ _ (λd k ⟨e1,e2,q⟩=>⟨e1,e2,hi.mono _ _ _ (λd k ⟨e1,e2,c,cs,es,q1,q2,q3,q⟩=>⟨e1,e2,c,cs,es,q1,q2,q3,hr.mono _ _ _ _ m q⟩) q⟩) q⟩) h⟩
 run:=PSs.weak (zcK (zjb hN hy hly (zpK hu (zcC hz hvx hd hcd) hk.run zjg m) hs1 hf) (zcK (zld hu (zcC hy hvy hd2 hcd2) hi.run hv.run hs2) hr.run)) λD σ H h=>by
  obtain⟨ρ,Fz,β,a,bs,R,ks,ds,rfl,hiyl,h⟩:=h;have hok:ks.length=ds.length:=R.box.ok;have hbl:=R.box.own.length;have hbl:ds.length=bs.length:=hbl;have fin:∀(k:List Key) (H':Hp) (ks1:List (List Key)) (ds1:List PV) (bs1:List Addr) (bb:Addr),RelB X.K Fz (ρ.set iy none) (.T ks1 ds1) (σ.set iy (some (.ref bb))) H' z a bs1->bs1[ixK ks1 k]? = some bb->zbf (OB ρ σ (a::bs)) Fz H Fz H'->InO (OB ρ σ (a::bs)) H (OB (ρ.set iy none) (σ.set iy (some (.ref bb))) (a::bs1))->
    (rdE z tv (ρ.set iy none) (.T ks1 ds1) λdv=>rdE z ti (ρ.set iy none) (.T ks1 ds1) λdi=>∃c cs es,di=keyP c/\ds1[ixK ks1 k]? = some (.dK cs es)/\cs.length<sizeLine/\zfB t (outB X.K z D (OB ρ σ (a::bs)) Fz H) (ρ.set iy none) (.T ks1 (ds1.set (ixK ks1 k) (zhC cs es c dv))))->
    tSeq (zqW (tVar iy) (lift X.K ti) (lift X.K tv)) (zpA X.K z t) D (σ.set iy (some (.ref bb))) H':=λk H' ks1 ds1 bs1 bb RB hbb st oi q=>by
   refine zfK hv RB q λdv v H2 q nm2 x2 dv2=>⟨.ref bb,List.getElem?_set_self (by rw[<- R.rel.len];exact hiyl),zfK hi (RB.ext x2) q λdi u H3 q nm3 x3 du=>?_⟩;obtain⟨c,cs,es,rfl,hcs,hcl,q⟩:=q;have RB3:=(RB.ext x2).ext x3;obtain⟨b',hb',ow⟩:=RB3.box.own.get (show(BX.T ks1 ds1).cts[ixK ks1 k]? = _ from hcs);rw[hbb]at hb';cases hb';obtain⟨xs,hbx,hxl,hxs⟩:=ow;have hu':u=kV c:=zeO du.root;subst hu';have nfb:¬ Fz bb:=RB3.box.nf bb (List.mem_cons_of_mem _ (List.mem_of_getElem? hbb));refine⟨bb,_,rfl,DPut.k hbx (by rw[List.length_zip];lia),?_⟩;have d3:=Den.mono (.of x3.same) (λ_ h=>h) _ _ dv2;have ow2:Own X.K Fz (upd H3 bb (.dK (putK (cs.zip xs) c v))) (zhC cs es c dv) bb:=by
    unfold zhC putK;rw[zma hxl];by_cases hc:hasK cs c=true
    ·rw[if_pos hc,if_pos hc,zlZ];exact⟨_,zag,by simp[hxl],DenL.rew' hbx (λz=>z) nfb (ziF c d3 cs es xs hxs)⟩
    ·rw[if_neg hc,if_neg hc];refine⟨xs++[v],?_,by simp[hxl],DenL.rew' hbx (λz=>z) nfb (DenL.snoc hxs d3)⟩;rw[zag,List.zip_append hxl];rfl
   have hok1:ks1.length=ds1.length:=RB3.box.ok;obtain⟨R4,s4⟩:=RB3.put hbb hbx (λy=>y) ow2 (.T ks1 (ds1.set (ixK ks1 k) (zhC cs es c dv))) rfl rfl (by show ks1.length=(ds1.set _ _).length;rw[List.length_set];exact hok1);have s5:zbf (OB ρ σ (a::bs)) Fz H Fz _:=st.trans oi ((zbf.of (x2.trans x3)).trans InO.refl s4);exact⟨_,Fz,_,a,bs1,R4,hr.mono _ _ _ _ (zeP s5 oi) q⟩
  refine⟨_,R.sz,a,rfl,.inr ⟨_,.inl R.box.at_⟩,zfK hk R h λdk w H1 q nm x1 dw p hp=>?_⟩;obtain⟨k,rfl,hkl,q⟩:=q;have R1:=R.ext x1;have x2:Ext Fz H1 Fz (upd H1 p (.dK [])):=Ext.laid ⟨Same.refl _,λ_ h=>h,λ_ h=>.inl h,R1.rel.al⟩ hp;have R2:=R1.ext x2;obtain⟨b,rfl,hb⟩:=zhB (Den.root dw);have hl2:ks.length=(bs.map V.ref).length:=by rw[List.length_map];lia
  refine⟨ks.zip (bs.map V.ref),k,b,R2.box.at_,rfl,x2.same _ _ hb,by rw[List.length_zip];lia,λv hv0=>?_,λhn=>?_⟩
  ·obtain⟨hkm,hat⟩:=zms hl2 hv0;rw[List.getElem?_map]at hat;cases hbb:bs[ixK ks k]? with
   | none=>rw[hbb]at hat;cases hat
   | some bb=>
    rw[hbb]at hat;cases hat;have es:zcu ks ds k=(ks,ds):=by unfold zcu;rw[if_pos (zgs.mpr hkm)]
    rw[es]at q;exact fin k _ ks ds bs bb ⟨R2.rel.unset,by rw[List.getElem?_set_ne hzy];exact R2.hz,by rw[List.getElem?_set_ne hzy];exact R2.sz,R2.box,λb hb w=>R2.no b hb (zbx b w)⟩ hbb (.of (x1.trans x2)) (λb hb=>.inl (hb.imp (zbx b) id)) q
  ·have hkm:k∉ks:=(zmr hl2).mp hn;have es:zcu ks ds k=(ks++[k],ds++[.dK [] []]):=by unfold zcu;rw[if_neg (λz=>hkm (zgs.mp z))]
   rw[es]at q;rw[znJ hl2 hkm];have hpb:∀c∈a::bs,c≠p:=λc hc e=>by
    obtain⟨o,ho,_⟩:=R1.box.has hc;rw[e,hp]at ho;cases ho
   have hpa:a≠p:=hpb a (List.mem_cons_self ..);have nfp:¬ Fz p:=λw=>R1.rel.al p w hp;have nop:¬ zax ρ σ p:=λ⟨i,d,g1,g2⟩=>by
    obtain⟨a0,q1,_,q3⟩:=R1.rel.own i d g1;rw[g2]at q1;cases q1;obtain⟨o,q4,_⟩:=q3.at;rw[hp]at q4;cases q4
   have hat2:(upd H1 p (HO.dK [])) a=some ((BX.T ks ds).obj bs):=R2.box.at_;have kp:Keep Fz (upd H1 p (.dK [])) (upd (upd H1 p (.dK [])) a (.dT ((ks++[k]).zip (bs.map V.ref++[.ref p])))):=.mk' λc o e hw=>by
    have ne:c≠a:=λy=>by
     subst y;rcases hw with hw | hw
     ·exact R2.box.nf c (List.mem_cons_self ..) hw
     ·rw[hat2]at e;cases e;exact hw
    rw[zaf ne];exact e
   have hbs:∀c∈bs,c≠a:=λc hc e=>(List.nodup_cons.mp R.box.nd).1 (by rw[<- e];exact hc);have rel3:=R2.rel.other (o:=.dT ((ks++[k]).zip (bs.map V.ref++[.ref p]))) hat2 (λy=>y) (R2.box.nf a (List.mem_cons_self ..)) (R2.no a (List.mem_cons_self ..));have Rn:RelB X.K Fz (ρ.set iy none) (.T (ks++[k]) (ds++[.dK [] []])) (σ.set iy (some (.ref p))) (upd (upd H1 p (.dK [])) a (.dT ((ks++[k]).zip (bs.map V.ref++[.ref p])))) z a (bs++[p]):=by
    refine⟨rel3.unset,by rw[List.getElem?_set_ne hzy];exact R2.hz,by rw[List.getElem?_set_ne hzy];exact R2.sz,⟨?_,?_,?_,?_,λc hc=>?_⟩,λc hc w=>?_⟩
    ·show _=some (HO.dT ((ks++[k]).zip ((bs++[p]).map V.ref)));rw[zag,List.map_append];rfl
    ·show(ks++[k]).length=(ds++[_]).length;simp[hok]
    ·show OwnL _ _ _ (ds++[_]) (bs++[p]);have op:Own X.K Fz (upd (upd H1 p (.dK [])) a (.dT ((ks++[k]).zip (bs.map V.ref++[.ref p])))) (.dK [] []) p:=⟨[],by rw[zaf (Ne.symm hpa),zag];rfl,rfl,DenL.nil⟩;refine OwnL.snoc op (R2.box.own.mono kp (λ_ h=>h) λc hc o ho=>?_);rw[zaf (hbs c hc)];exact ho
    ·have nd:=List.nodup_cons.mp R.box.nd;rw[List.nodup_cons];refine⟨λhm=>?_,?_⟩
     ·rcases List.mem_append.mp hm with hm | hm
      ·exact nd.1 hm
      ·exact hpa (List.mem_singleton.mp hm)
     ·rw[List.nodup_append];exact⟨nd.2,by simp,λc hc d hd e=>hpb c (List.mem_cons_of_mem _ hc) (by rw[e,List.mem_singleton.mp hd])⟩
    ·rcases List.mem_cons.mp hc with rfl | hc
     ·exact R2.box.nf _ (List.mem_cons_self ..)
     ·rcases List.mem_append.mp hc with hc | hc
      ·exact R2.box.nf c (List.mem_cons_of_mem _ hc)
      ·rw[List.mem_singleton.mp hc];exact nfp
    ·have w:=zbx c w;rcases List.mem_cons.mp hc with rfl | hc
     ·exact R2.no _ (List.mem_cons_self ..) w
     ·rcases List.mem_append.mp hc with hc | hc
      ·exact R2.no c (List.mem_cons_of_mem _ hc) w
      ·rw[List.mem_singleton.mp hc]at w;exact nop w
   refine fin k _ (ks++[k]) (ds++[.dK [] []]) (bs++[p]) p Rn ?_ ?_ ?_ q
   ·rw[ziJ hkm];have:ks.length=bs.length:=by lia
    rw[this,List.getElem?_append_right (Nat.le_refl _),Nat.sub_self];rfl
   ·refine(zbf.of (x1.trans x2)).trans InO.refl ⟨λ_ h=>h,λ_ h=>.inl h,λc o e n=>?_⟩;have ne:c≠a:=λy=>n (.inr (by rw[y];exact List.mem_cons_self ..));rw[zaf ne];exact e
   ·intro c hc;rcases hc with hc | hc
    ·exact .inl (.inl (zbx c hc))
    ·rcases List.mem_cons.mp hc with rfl | hc
     ·exact .inl (.inr (List.mem_cons_self ..))
     ·rcases List.mem_append.mp hc with hc | hc
      ·exact .inl (.inr (List.mem_cons_of_mem _ hc))
      ·rw[List.mem_singleton.mp hc];exact .inr (x1.same.free hp)
end
section
variable {X:Cx}{z:Nat}{pos pos' pos2:Pos}{t:TPB}{x:Str}{rest:List Stmt}
noncomputable def zcp (z:Nat)(t:TPB):TPS:=λρ O=>z<ρ.length/\zfB t { nx:=λ_ _=>False,rt:=O.rt,bk:=λ_ _=>False,ct:=λ_ _=>False } (ρ.set z none) (.T [] [])
theorem zmt (hN:X.N.Nodup)(hx:X.N[z]? = some x)(hl:Loc X.env.scope x)(hr:PuB X z rest t)(hs:swapsWith (.Dict [] [] pos) (some (.Name x pos')) pos2.line X.env=pure false:=by rfl)(hf:X.fn x=true\/X.env.scope.names.lookup x=some .local:=by first | exact .inl rfl | exact .inr rfl | assumption) :
  PuSs X (.Assign [.Name x pos'] (.Dict [] [] pos) pos2::rest) (zcp z t) where
 mono ρ O O' m h:=⟨h.1,hr.mono _ _ { nx:=λ_ _=>False,rt:=O.rt,bk:=λ_ _=>False,ct:=λ_ _=>False } _ ⟨λ_ _ q=>q.elim,m.rt,λ_ _ q=>q.elim,λ_ _ q=>q.elim⟩ h.2⟩
 run:=PSs.weak (zcK (zjb hN hx hl znm hs hf) hr.run) λD σ H h=>by
  obtain⟨ρ,Fz,R,hzl,q⟩:=h;intro l hp;have x2:Ext Fz H Fz (upd H l (.dT [])):=Ext.laid ⟨Same.refl _,λ_ h=>h,λ_ h=>.inl h,R.al⟩ hp;have nfl:¬ Fz l:=λw=>R.al l w hp;have nol:¬ zax ρ σ l:=λ⟨i,d,g1,g2⟩=>by
   obtain⟨a0,q1,_,q3⟩:=R.own i d g1;rw[g2]at q1;cases q1;obtain⟨o,q4,_⟩:=q3.at;rw[hp]at q4;cases q4
  have hzN:z<σ.length:=by rw[<- R.len];exact hzl
  have Rb:RelB X.K Fz (ρ.set z none) (.T [] []) (σ.set z (some (.ref l))) (upd H l (.dT [])) z l []:=
   ⟨(R.ext x2).unset,List.getElem?_set_self hzl,List.getElem?_set_self hzN,⟨zag,rfl,by show OwnL _ _ _ [] [];unfold OwnL;rfl,by simp,λb hb=>by rw[List.mem_singleton.mp hb];exact nfl⟩,λb hb w=>by rw[List.mem_singleton.mp hb]at w;exact nol (zbx l w)⟩
  refine⟨_,Fz,_,l,[],Rb,hr.mono _ _ { nx:=λ_ _=>False,rt:=(zeH X.K D ρ σ Fz H).rt,bk:=λ_ _=>False,ct:=λ_ _=>False } _ ⟨λ_ _ q=>q.elim,λd k q v Fz' H'' s al r=>?_,λ_ _ q=>q.elim,λ_ _ q=>q.elim⟩ q⟩;have s0:zbf (zax ρ σ) Fz H Fz (upd H l (.dT [])):=.of x2;have oi:InO (zax ρ σ) H (OB (ρ.set z none) (σ.set z (some (.ref l))) [l]):=λb hb=>by
   rcases hb with hb | hb
   ·exact .inl (zbx b hb)
   ·rw[List.mem_singleton.mp hb];exact .inr hp
  have s1:=s0.trans oi s;have r1:=r.back s0 oi;refine q v Fz' H'' ⟨s1.sub,s1.new,s1.keep⟩ al ?_;cases k with
  | frz=>exact r1
  | own i=>exact r1
  | new=>exact r1
end
end PL
namespace L2
open PySem PySem.Spec PyProof.Rows
section
variable {X:Cx}{o e:Expr}{to te:TE}{apos cpos:Pos}
theorem znL (ho:PE X o to)(he:PE X e te)(m:M1 X o "index" apos e cpos) :
  PE X (.Call (.Attribute o "index" apos) [e] [] cpos) (λσ H Q=>to σ H λx H1=>∃a xs,x=.ref a/\(SqL X.K H1 a xs\/SqT X.K H1 a xs)/\te σ H1 λy H2=>∃zs,(SqL X.K H1 a xs/\SqL X.K H2 a zs\/SqT X.K H1 a xs/\SqT X.K H2 a zs)/\∃j:Nat,zdi y=true/\zs.all zdi=true/\(∃w,zs[j]? = some w/\eqV w y=true)/\(∀m w,m<j->zs[m]? = some w->eqV w y=false)/\Q (.int (j:Int)) H2):=by
 intro pins s σ H Q I h;refine wpAny_Call_method_late m.base m.few m.line rfl (thn (ho pins s σ H _ I h) λu s1 ⟨x,H1,I1,rx,a,xs,ex,d,q1⟩=>?_);subst ex;obtain rfl:u=Value.ref a:=rx;rcases d with d | d
 ·obtain⟨its,rv,⟨ob,n,h1,h2,h3,h4⟩,hz⟩:=I1.list d;refine⟨"list","list.index",PySem.F.plainAttrs_list,PySem.F.slot_list_index,PySem.F.type_list_index,⟨ob,h1,h2⟩,λb q=>by cases q;exact⟨ob,h1,h3⟩,?_⟩;rw[m.trees];refine Calls.callWith_builtin rfl (Calls.evalArgs_plain (Calls.spliced_cons (thn (he pins s1 σ H1 _ I1 q1) λiv s2 ⟨y,H2,I2,ry,zs,hsq,j,f1,f2,g1,g2,q2⟩=>Calls.spliced_nil ?_)));rcases hsq with ⟨_,hsq⟩ | ⟨hst,_⟩
  ·exact zmi pins s2 σ H2 (.ref a) [y] (.ref a) [iv] Q I2 rfl (.cons ry .nil) ⟨a,zs,y,j,rfl,rfl,hsq,f1,f2,g1,g2,q2⟩
  ·exact(PL.zdr I1 d hst).elim
 ·obtain⟨ob,h1,h2,h4⟩:=I1.zrN d;refine⟨"tuple","tuple.index",PySem.F.plainAttrs_tuple,PySem.F.slot_tuple_index,PySem.F.type_tuple_index,⟨ob,h1,h2⟩,λb q=>by cases q;exact⟨ob,h1,h4⟩,?_⟩;rw[m.trees];refine Calls.callWith_builtin rfl (Calls.evalArgs_plain (Calls.spliced_cons (thn (he pins s1 σ H1 _ I1 q1) λiv s2 ⟨y,H2,I2,ry,zs,hsq,j,f1,f2,g1,g2,q2⟩=>Calls.spliced_nil ?_)));rcases hsq with ⟨hsl,_⟩ | ⟨_,hsq⟩
  ·exact(PL.zdr I1 hsl d).elim
  ·exact zmj pins s2 σ H2 (.ref a) [y] (.ref a) [iv] Q I2 rfl (.cons ry .nil) ⟨a,zs,y,j,rfl,rfl,hsq,f1,f2,g1,g2,q2⟩
end
end L2
namespace PL
open PySem PySem.Spec L2
open PyProof.Rows hiding St
noncomputable def pIdx (to te:TPE):TPE:=λρ Q=>to ρ λd _=>∃ds,(d=.lst ds\/d=.tup ds)/\ds.all zfl=true/\te ρ λe _=>zfl e=true/\e∈ds/\Q (.int (idxP ds e:Int)) .frz
section
variable {X:Cx}{o e:Expr}{to te:TPE}{apos cpos:Pos}
theorem zgt (ho:PuE X o to)(he:PuE X e te)(m:M1 X o "index" apos e cpos:=by exact⟨rfl,rfl,rfl,rfl⟩):PuE X (.Call (.Attribute o "index" apos) [e] [] cpos) (pIdx to te) where
 mono ρ Q Q' mm h:=ho.mono ρ _ _ (λd _ ⟨ds,e1,e2,h⟩=>⟨ds,e1,e2,he.mono ρ _ _ (λe _ ⟨q1,q2,q⟩=>⟨q1,q2,mm _ _ q⟩) h⟩) h
 run:=PE.weak (znL ho.run he.run m) λσ H Q h=>by
  obtain⟨ρ,Fz,R,h⟩:=h;refine⟨ρ,Fz,R,ho.mono ρ _ _ (λd k q v F1 H1 p1=>?_) h⟩;obtain⟨ds,hd,f,q⟩:=q;have rt:=p1.root R;obtain⟨a,xs,rfl,hsq,hsq2,h2⟩:∃a xs,v=.ref a/\(SqL X.K H1 a xs\/SqT X.K H1 a xs)/\(∀H2,Same H1 H2->(SqL X.K H1 a xs/\SqL X.K H2 a xs\/SqT X.K H1 a xs/\SqT X.K H2 a xs))/\DenL X.K F1 H1 ds xs:=by
   rcases hd with rfl | rfl
   ·obtain⟨a,xs,rfl,h1,h2⟩:=zak rt;exact⟨a,xs,rfl,.inl h1,λH2 s=>.inl ⟨h1,s.seq h1⟩,h2⟩
   ·obtain⟨a,xs,rfl,h1,h2⟩:=zdq rt;exact⟨a,xs,rfl,.inr (SqT.of h1),λH2 s=>.inr ⟨SqT.of h1,SqT.of (s _ _ h1)⟩,h2⟩
  refine⟨a,xs,rfl,hsq,ρ,F1,R.ext p1.ext,he.mono ρ _ _ (λe ke q w F2 H2 p2=>?_) q⟩;obtain⟨fe,hm,q⟩:=q;have h3:=DenL.mono (.of p2.ext.same) p2.ext.sub _ _ h2;have hy:=zml fe (p2.root (R.ext p1.ext));obtain⟨g1,g2⟩:=zpG f fe h3 hy hm;exact⟨xs,hsq2 H2 p2.ext.same,idxP ds e,zjH fe hy,zhy f h3,g1,g2,q _ F2 H2 ⟨p1.ext.trans p2.ext,by show Den _ _ _ _ _;simp only[Den]⟩⟩
end
end PL
namespace L2
open PySem PySem.Spec PyProof.Rows
section
variable {X:Cx}
theorem zpL (hc:X.calm=true){pins:List (Addr×Obj)}{σ:St}{H:Hp}{p it S:Addr}{as:List Addr}{kvss:List (List (Key×V))}{R:Result->Shared->Prop}(hq:SqL X.K H p (as.map V.ref))(hl:as.length=kvss.length)
  (hy:∀(i:Nat) a kvs,as[i]? = some a->kvss[i]? = some kvs->Rd H a (.dK kvs)) (hne:it≠S) (hf:∀b∈[it,S],FpOk X pins H b)
  (hR:∀(j:Nat) (a:Addr) s',as[j]? = some a->(∀m,m<kvss.length->(kvss.getD j []).length<=(kvss.getD m []).length)->Inv X pins σ H s'->R (.ok (.ret (.ref a))) s') :
  ∀(k i:Nat) (s:Shared) (b:Nat) (a:Addr) (t:Tok) (c:Nat),as.length-i=k->i<=as.length->Inv X pins σ H s->s.heap.IsListIter it p i->as[b]? = some a->(∀m,m<i->(kvss.getD b []).length<=(kvss.getD m []).length)->
   s.heap.get? S=some { cls:=.type "list",dict:=none,data:=.seq #[.ref a,.int ((kvss.getD b []).length:Nat) t] c,slots:=#[] }->
   codeAny (model X.prog X.w) X.A (.builtin "min.loop" ⟨[.ref it,.builtin "len",.ref S],[]⟩) R s:=by
 have hname:(toString "min"++toString ".loop" : String) = "min.loop":=by decide
 have fit:=hf it (by simp);obtain⟨f0,f1,f2,f3,f4,f5⟩:=fit;intro k;induction k with
 | zero=>
  intro i s b a t c hk hi I st hb hmin hS;obtain⟨its,rv,pl,hz⟩:=I.list hq;have hlen:=rv.length;rw[List.length_map]at hlen;refine codeAny_builtin F.entry_min_loop ?_;rw[Around.under_plainId F.plain_min_loop _];show wpAny _ X.A.in1 (seqItems? (.ref S) >>= _) _ _ s;refine wpAny_bind (wpAny_seqItems hS rfl ?_);show wpAny _ X.A.in1 (tryCatch (pyNext (.ref it)) _ >>= _) _ _ s;refine wpAny_bind (wpAny_tryCatch (wpAny_pyNext_list_end (I.ok.hd hc) st pl.isList (by simp;lia) λh' eb=>?_));have hS':h'.get? S=_:=eb S _ (Ne.symm hne) hS;show wpAny _ X.A.in1 (updateSeq S (λ_=>#[]) >>= _) _ _ _;refine wpAny_bind (wpAny_updateSeq hS' rfl (wpAny_bind (wpAny_letGo (wpAny_pure ?_))));refine hR b a _ hb (λm hm=>hmin m (by lia)) ?_;have I1:Inv X pins σ H { s with heap:=h' }:=I.turned (t':=s.toks) (λb o hb e=>eb b o hb e) f0 f1 f3 f4 f5;exact I1.zeh (t':=s.toks) (ch:=[it,S]) (λd o hd e=>(Heap.get?_update_other _ _ (λz:S=d=>hd (by simp[z]))).trans e) hf
 | succ k ih=>
  intro i s b a t c hk hi I st hb hmin hS;obtain⟨its,rv,pl,hz⟩:=I.list hq;have hlt:i<as.length:=by lia
  have hlt2:i<kvss.length:=by lia
  obtain⟨u,hu,ru⟩:=rv.get (i:=i) (x:=.ref as[i]) (by simp[hlt]);cases ru;have hd:=hy i _ _ (List.getElem?_eq_getElem hlt) (List.getElem?_eq_getElem hlt2);have hgd:kvss.getD i []=kvss[i]:=by rw[List.getD_eq_getElem?_getD,List.getElem?_eq_getElem hlt2];rfl
  refine codeAny_builtin F.entry_min_loop ?_;rw[Around.under_plainId F.plain_min_loop _];show wpAny _ X.A.in1 (seqItems? (.ref S) >>= _) _ _ s;refine wpAny_bind (wpAny_seqItems hS rfl ?_);show wpAny _ X.A.in1 (tryCatch (pyNext (.ref it)) _ >>= _) _ _ s;refine wpAny_bind (wpAny_tryCatch (wpAny_pyNext_list_item st pl.isList (x:=.ref as[i]) (by simpa using hu) λh' st' sb=>?_));have I1:Inv X pins σ H { s with heap:=h' }:=I.turned (t':=s.toks) (λb o hb e=>(sb.2 b hb).trans e) f0 f1 f3 f4 f5;have hS':h'.get? S=_:=(sb.2 S (Ne.symm hne)).trans hS;show wpAny _ X.A.in1 (tryCatch (holding [.ref as[i]] (call (.builtin "len") [.ref as[i]])) _ >>= _) _ _ _;obtain⟨z1,z2,vs,rel,dd⟩:=zfz I1.hok hd;refine wpAny_bind (wpAny_tryCatch (wpAny_holding (call_len_dict z2 dd (by rw[<- rel.length];rw[sizeLine_eq]at z1;lia) ?_)));have hvl:(vs.length:Int)=((kvss.getD i []).length:Nat):=by rw[hgd];exact congrArg _ rel.length.symm
  rw[hvl];have I2:=I1.tok (s.toks+1+1);have cmp:CmpOf X.prog X.w X.A.in1 .Lt (λ(m:Nat) v=>∃t,v=.int ((kvss.getD m []).length:Nat) t) (λm m'=>decide (((kvss.getD m []).length:Int)<((kvss.getD m' []).length:Nat))):=CmpOf.ints_lt (λm=>((kvss.getD m []).length:Nat)) λ_ _ h=>h;show wpAny _ X.A.in1 (tryCatch (holding [.ref as[i],.int _ _] (richCompare .Lt (.int _ _) (.int _ t) >>= _)) _ >>= _) _ _ _;refine wpAny_bind (wpAny_tryCatch (wpAny_holding (wpAny_bind (cmp i b _ _ _ _ _ ⟨_,rfl⟩ ⟨_,rfl⟩ ?_))));refine wpAny_bind (wpAny_holding (wpAny_truthy_bool ?_));refine wpAny_bind (wpAny_letGo (wpAny_pure ?_));by_cases hlt3:((kvss.getD i []).length:Int)<((kvss.getD b []).length:Nat)
  ·have e9:(λm m':Nat=>decide (((kvss.getD m []).length:Int)<((kvss.getD m' []).length:Nat))) i b=true:=decide_eq_true hlt3;rw[if_pos e9];refine wpAny_bind (wpAny_updateSeq hS' rfl (wpAny_bind (wpAny_letGo ?_)));rw[hname];refine wpAny_pure ⟨plainId_quiet F.plain_min_loop _,ih (i+1) _ i as[i] _ _ (by lia) hlt ?_ ?_ (List.getElem?_eq_getElem hlt) (λm hm=>?_) (Heap.get?_update_self _ hS' rfl)⟩
   ·exact I2.zeh (t':=s.toks+1+1) (ch:=[it,S]) (λd o hd e=>(Heap.get?_update_other _ _ (λz:S=d=>hd (by simp[z]))).trans e) hf
   ·exact st'.at λo e=>(Heap.get?_update_other _ _ (λz:S=it=>hne z.symm)).trans e
   ·rcases Nat.lt_succ_iff_lt_or_eq.mp hm with hm | rfl
    ·have:=hmin m hm;lia
    ·exact Nat.le_refl _
  ·have e9:¬ (λm m':Nat=>decide (((kvss.getD m []).length:Int)<((kvss.getD m' []).length:Nat))) i b=true:=by show ¬ decide _=true;simpa using hlt3
   rw[if_neg e9];refine wpAny_bind (wpAny_letGo ?_);rw[hname];refine wpAny_pure ⟨plainId_quiet F.plain_min_loop _,ih (i+1) _ b a t c (by lia) hlt I2 st' hb (λm hm=>?_) hS'⟩;rcases Nat.lt_succ_iff_lt_or_eq.mp hm with hm | rfl
   ·exact hmin m hm
   ·lia
theorem zgu (hc:X.calm=true){pins:List (Addr×Obj)}{σ:St}{H:Hp}{p it S:Addr}{as:List Addr}{kvss:List (List (Key×V))}{R:Result->Shared->Prop}{s:Shared}{c:Nat}(hq:SqL X.K H p (as.map V.ref))(hl:as.length=kvss.length)(h0:0<as.length)
  (hy:∀(i:Nat) a kvs,as[i]? = some a->kvss[i]? = some kvs->Rd H a (.dK kvs)) (hne:it≠S) (hf:∀b∈[it,S],FpOk X pins H b) (I:Inv X pins σ H s) (st:s.heap.IsListIter it p 0) (hS:s.heap.get? S=some { cls:=.type "list",dict:=none,data:=.seq #[] c,slots:=#[] })
  (hR:∀(j:Nat) (a:Addr) s',as[j]? = some a->(∀m,m<kvss.length->(kvss.getD j []).length<=(kvss.getD m []).length)->Inv X pins σ H s'->R (.ok (.ret (.ref a))) s') :
  codeAny (model X.prog X.w) X.A (.builtin "min.loop" ⟨[.ref it,.builtin "len",.ref S],[]⟩) R s:=by
 have hname:(toString "min"++toString ".loop" : String) = "min.loop":=by decide
 obtain⟨f0,f1,f2,f3,f4,f5⟩:=hf it (by simp);obtain⟨its,rv,pl,hz⟩:=I.list hq;have hlt2:0<kvss.length:=by lia
 obtain⟨u,hu,ru⟩:=rv.get (i:=0) (x:=.ref as[0]) (by simp[h0]);cases ru;have hd:=hy 0 _ _ (List.getElem?_eq_getElem h0) (List.getElem?_eq_getElem hlt2);have hgd:kvss.getD 0 []=kvss[0]:=by rw[List.getD_eq_getElem?_getD,List.getElem?_eq_getElem hlt2];rfl
 refine codeAny_builtin F.entry_min_loop ?_;rw[Around.under_plainId F.plain_min_loop _];show wpAny _ X.A.in1 (seqItems? (.ref S) >>= _) _ _ s;refine wpAny_bind (wpAny_seqItems hS rfl ?_);show wpAny _ X.A.in1 (tryCatch (pyNext (.ref it)) _ >>= _) _ _ s;refine wpAny_bind (wpAny_tryCatch (wpAny_pyNext_list_item st pl.isList (x:=.ref as[0]) (by simpa using hu) λh' st' sb=>?_));have I1:Inv X pins σ H { s with heap:=h' }:=I.turned (t':=s.toks) (λb o hb e=>(sb.2 b hb).trans e) f0 f1 f3 f4 f5;have hS':h'.get? S=_:=(sb.2 S (Ne.symm hne)).trans hS;show wpAny _ X.A.in1 (tryCatch (holding [.ref as[0]] (call (.builtin "len") [.ref as[0]])) _ >>= _) _ _ _;obtain⟨z1,z2,vs,rel,dd⟩:=zfz I1.hok hd;refine wpAny_bind (wpAny_tryCatch (wpAny_holding (call_len_dict z2 dd (by rw[<- rel.length];rw[sizeLine_eq]at z1;lia) ?_)));have hvl:(vs.length:Int)=((kvss.getD 0 []).length:Nat):=by rw[hgd];exact congrArg _ rel.length.symm
 rw[hvl];have I2:=I1.tok (s.toks+1+1);show wpAny _ X.A.in1 (updateSeq S (λ_=>#[.ref as[0],.int _ _]) >>= _) _ _ _;refine wpAny_bind (wpAny_updateSeq hS' rfl ?_);rw[hname];refine wpAny_pure ⟨plainId_quiet F.plain_min_loop _,zpL hc hq hl hy hne hf hR _ 1 _ 0 as[0] _ _ rfl h0 ?_ ?_ (List.getElem?_eq_getElem h0) (λm hm=>?_) (Heap.get?_update_self _ hS' rfl)⟩
 ·exact I2.zeh (t':=s.toks+1+1) (ch:=[it,S]) (λd o hd e=>(Heap.get?_update_other _ _ (λz:S=d=>hd (by simp[z]))).trans e) hf
 ·exact st'.at λo e=>(Heap.get?_update_other _ _ (λz:S=it=>hne z.symm)).trans e
 ·have:m=0:=by lia
  subst this;exact Nat.le_refl _
theorem zhD (a b:Value):argsOk "min" ⟨[a],[("key",b)]⟩:=by unfold argsOk;kernel_rfl
theorem zhE {prog:Program}{w:World}{A:Around}{E:Value->Shared->Prop}{s:Shared}{id:String}{bt:Builtin}{args:List Value}{kw:List (Str×Value)}{Q:Value->Shared->Prop}(hk:builtinKind id=none)(hp:plainId id=true)(hb:entryFor table id=some bt)(ha:argsOk id ⟨args,kw⟩)
  (hc:wpAny (model prog w) A.in1 (bt ⟨args,kw⟩) (λfin s'=>match fin with
   | .done f=>(match (Except.ok f:Result)with | .ok (.ret v)=>Q v s' | .ok _=>False | .error e=>E e s')
   | .again c'=>c'.quiet=true/\codeAny (model prog w) A c' (λr s'=>match r with | .ok (.ret v)=>Q v s' | .ok _=>False | .error e=>E e s') s') E s) :
  wpAny (model prog w) A (call (.builtin id) args kw) Q E s:=by
 refine wpAny_call (codeAny_call_builtin hp hb ?_);simp only[checkBuiltinCall,hk];cases sg:Manifest.signature? id with
 | none=>exact wpAny_pure hc
 | some g=>
  have h2:Bind.checkArgs id g ⟨args,kw⟩=pure ():=by simpa only[argsOk,sg]using ha
  simp only[h2];exact wpAny_pure hc
noncomputable def zpM (K:PySem.W.Frag)(te:TE):TE:=λσ H Q=>te σ H λx H1=>∃(p:Addr)(as:List Addr)(kvss:List (List (Key×V))),x=.ref p/\SqL K H1 p (as.map V.ref)/\as.length=kvss.length/\0<as.length/\(∀(i:Nat) a kvs,as[i]? = some a->kvss[i]? = some kvs->Rd H1 a (.dK kvs))/\
 ∀(j:Nat) (a:Addr),as[j]? = some a->(∀m,m<kvss.length->(kvss.getD j []).length<=(kvss.getD m []).length)->Q (.ref a) H1
variable {e:Expr}{te:TE}{p p2 kp pos:Pos}
theorem zmu (hc:X.calm=true)(hg:Gl X "min") (hm:X.mg "min" = none) (hg2:Gl X "len") (hm2:X.mg "len" = none) (he:PE X e te) (hs:starEach [e] X.env=(false,eval e X.env)::starEach [] X.env:=by rfl)
  (hbt:backTo pos (starEach [e] X.env)=(false,eval e X.env)::backTo pos (starEach [] X.env):=by rfl) (hpl:(backTo pos (starEach [e] X.env)).any (·.1)=false:=by rfl):PE X (.Call (.Name "min" p) [e] [⟨some "key",.Name "len" p2,kp⟩] pos) (zpM X.K te):=by
 intro pins s σ H Q I h;refine wpAny_Call_Name_kw (zet I hg hm (show bootBuiltins "min" = some (.builtin "min") by decide +kernel) ?_ (by decide) (by decide));refine callWith_kw ?_ hbt hpl;rw[hbt];refine Calls.spliced_cons (thn (he pins s σ H _ I h) λu s1 ⟨x,H1,I1,r1,l,as,kvss,ex,hq,hl,h0,hy,q⟩=>Calls.spliced_nil ?_);subst ex;obtain rfl:u=Value.ref l:=r1;refine kws_cons (zet I1 hg2 hm2 (show bootBuiltins "len" = some (.builtin "len") by decide +kernel) (kws_nil ?_) (by decide) (by decide));obtain⟨its,rv,pl,hz⟩:=I1.list hq;have hname:(toString "min"++toString ".loop" : String) = "min.loop":=by decide
 refine zhE F.kind_min F.plain_min F.entry_min (zhD _ _) ?_;show wpAny _ X.A.in1 (Builtin.Builtins.bindParams "min" ["key","default"] 0 ⟨[],[("key",.builtin "len")]⟩ >>= _) _ _ s1;refine wpAny_bind (wpAny_of_eq (show Builtin.Builtins.bindParams "min" ["key","default"] 0 ⟨[],[("key",.builtin "len")]⟩=pure [some (.builtin "len"),none] from rfl) ?_);refine wpAny_bind (wpAny_pure ?_);refine wpAny_bind (wpAny_pyIter_list pl.isList ?_);refine wpAny_bind (wpAny_newObj_type ?_);rw[hname];have I2:Inv X pins σ H1 { s1 with heap:=s1.heap.push { cls:=.type "list_iterator",data:=.fields #[.ref l,.int 0 0] } }:=I1.kept (t':=s1.toks) λb o e=>Heap.get?_push_of_some _ e;have I3:Inv X pins σ H1 { s1 with heap:=(s1.heap.push { cls:=.type "list_iterator",data:=.fields #[.ref l,.int 0 0] }).push { cls:=.type "list",data:=.seq #[] } }:=I2.kept (t':=s1.toks) λb o e=>Heap.get?_push_of_some _ e;have hsz:(s1.heap.push { cls:=.type "list_iterator",data:=.fields #[.ref l,.int 0 0] }).objs.size=s1.heap.objs.size+1:=Heap.size_push ..;have hne:s1.heap.objs.size≠(s1.heap.push { cls:=.type "list_iterator",data:=.fields #[.ref l,.int 0 0] }).objs.size:=by rw[hsz];exact Nat.ne_of_lt (Nat.lt_succ_self _)
 have hf:∀b∈[s1.heap.objs.size,(s1.heap.push { cls:=.type "list_iterator",data:=.fields #[.ref l,.int 0 0] }).objs.size],FpOk X pins H1 b:=λb hb=>by
  have hb':s1.heap.objs.size<=b:=by
   rcases List.mem_cons.mp hb with rfl | hb
   ·exact Nat.le_refl _
   ·rw[List.mem_singleton.mp hb,hsz];exact Nat.le_succ _
  exact I1.fpOk hb' (I1.hok.fresh hb')
 have st0:((s1.heap.push { cls:=.type "list_iterator",data:=.fields #[.ref l,.int 0 0] }).push { cls:=.type "list",data:=.seq #[] }).IsListIter s1.heap.objs.size l 0:=⟨_,Heap.get?_push_of_some _ (Heap.get?_push_size _ rfl),rfl,rfl⟩;refine wpAny_pure ⟨plainId_quiet F.plain_min_loop _,zgu hc hq hl h0 hy hne hf I3 st0 (Heap.get?_push_size _ rfl) λj a s' hj hmin I'=>?_⟩;exact⟨.ref a,H1,I',rfl,q j a hj hmin⟩
end
end L2
namespace PL
open PySem PySem.Spec L2
open PyProof.Rows hiding St
theorem zjI {K:PySem.W.Frag}{Fz:FZ}{H:Hp}:∀ {kss:List (List Key×List PV)}{xs:List V},DenL K Fz H (kss.map λp=>PV.dK p.1 p.2) xs->∃(as:List Addr)(yss:List (List V)),xs=as.map V.ref/\as.length=kss.length/\yss.length=kss.length/\
  (∀(i:Nat) a p ys,as[i]? = some a->kss[i]? = some p->yss[i]? = some ys->Fz a/\Rd H a (.dK (p.1.zip ys))/\p.1.length=ys.length/\DenL K Fz H p.2 ys)
 | [],xs,h=>by
  simp only[List.map,DenL]at h;exact⟨[],[],by rw[h];rfl,rfl,rfl,λi a p ys h=>by simp at h⟩
 | q::kss,xs,h=>by
  simp only[List.map,DenL,Den]at h;obtain⟨v,r,rfl,⟨a,ys,rfl,h1,h2,h3,h4⟩,h⟩:=h;obtain⟨as,yss,e,e1,e2,hs⟩:=zjI h;refine⟨a::as,ys::yss,by rw[e];rfl,by simp[e1],by simp[e2],λi b p zs q1 q2 q3=>?_⟩;cases i with
  | zero=>simp at q1 q2 q3;subst q1 q2 q3;exact⟨h1,h2,h3,h4⟩
  | succ i=>exact hs i b p zs (by simpa using q1) (by simpa using q2) (by simpa using q3)
noncomputable def ziK (te:TPE):TPE:=λρ Q=>te ρ λd k=>isOwn k=false/\∃kss:List (List Key×List PV),d=.lst (kss.map λp=>PV.dK p.1 p.2)/\0<kss.length/\∀p∈kss,(∀q∈kss,p.1.length<=q.1.length)->Q (.dK p.1 p.2) .frz
section
variable {X:Cx}{e:Expr}{te:TPE}{p p2 kp pos:Pos}
theorem zmv (hc:X.calm=true)(hg:Gl X "min") (hm:X.mg "min" = none) (hg2:Gl X "len") (hm2:X.mg "len" = none) (he:PuE X e te) (hs:starEach [e] X.env=(false,eval e X.env)::starEach [] X.env:=by rfl)
  (hbt:backTo pos (starEach [e] X.env)=(false,eval e X.env)::backTo pos (starEach [] X.env):=by rfl) (hpl:(backTo pos (starEach [e] X.env)).any (·.1)=false:=by rfl):PuE X (.Call (.Name "min" p) [e] [⟨some "key",.Name "len" p2,kp⟩] pos) (ziK te) where
 mono ρ Q Q' m h:=he.mono ρ _ _ (λd k ⟨e1,kss,e2,e3,q⟩=>⟨e1,kss,e2,e3,λp hp hq=>m _ _ (q p hp hq)⟩) h
 run:=PE.weak (zmu hc hg hm hg2 hm2 he.run hs hbt hpl) λσ H Q h=>by
  obtain⟨ρ,Fz,R,h⟩:=h;refine⟨ρ,Fz,R,he.mono ρ _ _ (λd k q v F1 H1 p1=>?_) h⟩;obtain⟨ho,kss,rfl,h0,q⟩:=q;obtain⟨F2,x2,s2,d2⟩:=p1.frozen (zgn ho);simp only[Den]at d2;obtain⟨a,xs,rfl,h1,h2⟩:=d2;obtain⟨as,yss,rfl,e1,e2,hs⟩:=zjI h2;have hget:∀(i:Nat) (hi:i<kss.length),((kss.zip yss).map λz=>z.1.1.zip z.2)[i]? = some ((kss[i]).1.zip (yss[i]'(by lia))):=λi hi=>by
   rw[List.getElem?_map,List.getElem?_eq_getElem (by simp;lia)];simp
  have hlen:∀(i:Nat) (hi:i<kss.length),(((kss.zip yss).map λz=>z.1.1.zip z.2).getD i []).length=(kss[i]).1.length:=λi hi=>by
   rw[List.getD_eq_getElem?_getD,hget i hi];obtain⟨_,_,q3,_⟩:=hs i (as[i]'(by lia)) kss[i] (yss[i]'(by lia)) (List.getElem?_eq_getElem (by lia)) (List.getElem?_eq_getElem hi) (List.getElem?_eq_getElem (by lia));simp[q3]
  refine⟨a,as,(kss.zip yss).map λz=>z.1.1.zip z.2,rfl,h1.elim (λz=>.inl z.2) KX.sq,by simp;lia,by lia,λi b kvs q1 q2=>?_,λj b hj hmin=>?_⟩
  ·have hi:i<kss.length:=by have:=(List.getElem?_eq_some_iff.mp q1).1;lia
   rw[hget i hi]at q2;cases q2;exact(hs i b kss[i] (yss[i]'(by lia)) q1 (List.getElem?_eq_getElem hi) (List.getElem?_eq_getElem (by lia))).2.1
  ·have hji:j<kss.length:=by have:=(List.getElem?_eq_some_iff.mp hj).1;lia
   obtain⟨q1,q2,q3,q4⟩:=hs j b kss[j] (yss[j]'(by lia)) hj (List.getElem?_eq_getElem hji) (List.getElem?_eq_getElem (by lia));refine q kss[j] (List.getElem_mem hji) (λr hr=>?_) _ F2 H1 ⟨x2,?_⟩
   ·obtain⟨m,hm,rfl⟩:=List.getElem_of_mem hr;have:=hmin m (by simp;lia);rw[hlen j hji,hlen m hm]at this;exact this
   ·show Den _ _ _ _ _;simp only[Den];exact⟨b,_,rfl,q1,q2,q3,q4⟩
end
section
variable {X:Cx}{a b:Expr}{ta tb:TPE}{pos:Pos}
theorem znM {prog:Program}{w:World}{A:Around}{E:Value->Shared->Prop}{s:Shared}{t b:Addr}{vs ws:List Value}{Q:Value->Shared->Prop}(ht:IsTup s.heap t vs.toArray)(hb:IsTup s.heap b ws.toArray)(hv:vs=[])
  (h:Q (.ref b) s):wpAny (model prog w) A (binaryOp .Add (.ref t) (.ref b)) Q E s:=by
 obtain⟨o,ho,hc,n,hd⟩:=ht;obtain⟨o2,ho2,hc2,n2,hd2⟩:=hb;cases o with | mk cls dd data sl=>
 cases o2 with | mk cls2 dd2 data2 sl2=>
 cases hc;cases hd;cases hc2;cases hd2;have he:vs.toArray.isEmpty=true:=by rw[hv];rfl
 have m:=tuple_addW0 t b vs.toArray ws.toArray n n2 dd dd2 sl sl2 he;exact concat_meets ⟨_,ho,rfl⟩ ⟨_,ho2,rfl⟩ noFill_tuple_add seq_tuple_add PySem.F.slot_tuple_add PySem.F.entry_tuple_add (PySem.F.args_tuple_add_2 _ _) m ⟨ho,ho2,h⟩
noncomputable def zoB (K:PySem.W.Frag):R2:=λx y H Q=>∃l r xs zs,x=.ref l/\y=.ref r/\SqT K H l xs/\SqT K H r zs/\xs.length+zs.length<=sizeLine/\
 (xs=[]->Q (.ref r) H)/\(zs=[]->Q (.ref l) H)/\∀p,H p=none->Q (.ref p) (upd H p (.tup (xs++zs)))
theorem znN:OpR X (binaryOp .Add) (zoB X.K):=by
 intro pins s σ H x y v u Q I rx ry h;obtain⟨l,r,xs,zs,rfl,rfl,hl,hr,hz,q0,q1,q2⟩:=h;by_cases hx:xs=[]
 ·cases rx;cases ry;obtain⟨its,r1,p1,_⟩:=I.tuple hl;obtain⟨its2,r2,p2,_⟩:=I.tuple hr;exact znM p1 p2 (r1.zfY.mpr hx) ⟨.ref r,H,I,rfl,q0 hx⟩
 ·exact zoY pins s σ H (.ref l) (.ref r) v u Q I rx ry ⟨l,r,xs,zs,rfl,rfl,hl,hr,hx,hz,q1,λ_=>q2⟩
noncomputable def zmw:P2:=λd e Q=>∃ds es,d=.tup ds/\e=.tup es/\ds.length+es.length<=sizeLine/\Q (.tup (ds++es)) .frz
theorem zpN {K:PySem.W.Frag}:POp K (zoB K) zmw where
 mono d e Q Q' m h:=by obtain⟨ds,es,e1,e2,e3,q⟩:=h;exact⟨ds,es,e1,e2,e3,m _ _ q⟩
 run Fz H x y d e Q al rx ry h:=by
  obtain⟨ds,es,rfl,rfl,e3,q⟩:=h;have dx:Den K Fz H (.tup ds) x:=rx;have dy:Den K Fz H (.tup es) y:=ry;obtain⟨l,xs,rfl,h1,h2⟩:=zaO rx;obtain⟨r,ys,rfl,g1,g2⟩:=zaO ry;have l1:=h2.length;have l2:=g2.length;refine⟨l,r,xs,ys,rfl,rfl,h1,g1,by lia,λz=>?_,λz=>?_,λp hp=>q _ Fz _ (.newT al hp (h2.append g2))⟩
  ·have:ds=[]:=List.length_eq_zero_iff.mp (by rw[z]at l1;simpa using l1);subst this;exact q _ Fz _ (.val al dy)
  ·have:es=[]:=List.length_eq_zero_iff.mp (by rw[z]at l2;simpa using l2);subst this;rw[List.append_nil]at q;exact q _ Fz _ (.val al dx)
theorem zmx (ha:PuE X a ta)(hb:PuE X b tb):PuE X (.BinOp a .Add b pos) (t2 zmw ta tb):=zhg znN zpN ha hb
end
section
variable {X:Cx}{a:Expr}{ta:TPE}{pos:Pos}
noncomputable def pNeg (ta:TPE):TPE:=λρ Q=>ta ρ λd _=>∃i:Int,d=.int i/\Q (.int (-i)) .frz
theorem zjJ (ha:PuE X a ta):PuE X (.UnaryOp .USub a pos) (pNeg ta) where
 mono ρ Q Q' m h:=ha.mono ρ _ _ (λd k ⟨c,e,q⟩=>⟨c,e,m _ _ q⟩) h
 run:=PE.weak (zsH zqH ha.run) λσ H Q h=>by
  obtain⟨ρ,Fz,R,h⟩:=h;refine⟨ρ,Fz,R,ha.mono ρ _ _ (λd k ⟨c,e,q⟩ v Fz' H' p=>⟨c,?_,q _ Fz' H' ⟨p.ext,by show Den _ _ _ _ _;simp only[Den]⟩⟩) h⟩;subst e;exact zat (p.root R)
end
end PL
namespace K01
open PySem PySem.Spec PyProof.Rows
noncomputable def leS (a b:Str):Prop:=a.cps.toList<=b.cps.toList
theorem zmy {a b c:Str}(h1:leS a b)(h2:leS b c):leS a c:=List.le_trans h1 h2
theorem zhF {a b:Str}(h1:leS a b)(h2:leS b a):a=b:=by
 have e:a.cps.toList=b.cps.toList:=List.le_antisymm h1 h2;cases a;cases b;simp only[Str.mk.injEq];exact Array.toList_inj.mp e
theorem zrT {a b:Str}(h:ltCps b.cps.toList a.cps.toList=false):leS a b:=by
 rw[ltCps_eq]at h;exact List.not_lt.mp (of_decide_eq_false h)
theorem zhG:∀(p:Str)(l:List Str),risingS p l=true->(p::l).Pairwise leS
 | p,[],_=>List.pairwise_singleton _ _
 | p,x::r,h=>by
  have h':(!ltCps x.cps.toList p.cps.toList&&risingS x r)=true:=h;rw[Bool.and_eq_true]at h';have h1:leS p x:=zrT (by simpa using h'.1);have ih:=zhG x r h'.2;refine List.pairwise_cons.mpr ⟨λy hy=>?_,ih⟩;rcases List.mem_cons.mp hy with e | hy
  ·rw[e];exact h1
  ·exact zmy h1 ((List.pairwise_cons.mp ih).1 y hy)
theorem zhH:∀(l:List Str),sortedS l=true->l.Pairwise leS
 | [],_=>List.Pairwise.nil
 | x::r,h=>zhG x r h
theorem zfM:∀ {xs ys:List Str},xs.Pairwise leS->ys.Pairwise leS->xs.Nodup->ys.Nodup->(∀x,x∈xs↔x∈ys)->xs=ys
 | [],[],_,_,_,_,_=>rfl
 | [],y::ys,_,_,_,_,h=>absurd ((h y).mpr List.mem_cons_self) (by simp)
 | x::xs,[],_,_,_,_,h=>absurd ((h x).mp List.mem_cons_self) (by simp)
 | x::xs,y::ys,p,q,n,m,h=>by
  obtain⟨p1,p2⟩:=List.pairwise_cons.mp p;obtain⟨q1,q2⟩:=List.pairwise_cons.mp q;obtain⟨n1,n2⟩:=List.nodup_cons.mp n;obtain⟨m1,m2⟩:=List.nodup_cons.mp m;have e:x=y:=by
   rcases List.mem_cons.mp ((h x).mp List.mem_cons_self)with e | hx
   ·exact e
   ·rcases List.mem_cons.mp ((h y).mpr List.mem_cons_self)with e | hy
    ·exact e.symm
    ·exact zhF (p1 y hy) (q1 x hx)
  subst e;rw[zfM p2 q2 n2 m2 λz=>?_];constructor
  ·intro hz;rcases List.mem_cons.mp ((h z).mp (List.mem_cons_of_mem _ hz))with e | hz'
   ·subst e;exact absurd hz n1
   ·exact hz'
  ·intro hz;rcases List.mem_cons.mp ((h z).mpr (List.mem_cons_of_mem _ hz))with e | hz'
   ·subst e;exact absurd hz m1
   ·exact hz'
noncomputable def mix (c j:Int):Int:=
 if c % 2=1/\c / 2 ^ 27≠0 then(c / 2 ^ (1+20*j).toNat) % 1048576
 else(((c*(2*j+3)+j) % 2147483629*((c*(2*j+3)+j) % 2147483629)+1)*48271 % 2147483629)*(((c*(2*j+3)+j) % 2147483629*((c*(2*j+3)+j) % 2147483629)+1)*48271 % 2147483629) % 2147483587
theorem zcG (c j:Int):0<=mix c j:=by
 unfold mix;split
 ·exact Int.emod_nonneg _ (by decide)
 ·exact Int.emod_nonneg _ (by decide)
noncomputable def abc (n:Nat):Str:=⟨#[65+n]⟩
noncomputable def stepOf (i:Nat):Nat:=[1,3,5,7,9,11].getD i 1
noncomputable def zbg (start step:Nat):List Str:=(List.range 6).map λk=>abc ((start+step*k) % 26)
theorem zfC:∀start,start<26->∀i,i<6->((List.range 6).map λk=>(start+stepOf i*k) % 26).Nodup:=by decide +kernel
theorem zpO {a b:Nat}(h:abc a=abc b):a=b:=by
 unfold abc at h;simp only[Str.mk.injEq,Array.mk.injEq,List.cons.injEq]at h;lia
theorem zbL (start i:Nat)(h1:start<26)(h2:i<6):(zbg start (stepOf i)).Nodup:=by
 have h:=zfC start h1 i h2;unfold zbg;rw[show((List.range 6).map λk=>abc ((start+stepOf i*k) % 26))=((List.range 6).map λk=>(start+stepOf i*k) % 26).map abc by rw[List.map_map];rfl];exact List.Pairwise.map abc (λa b hab e=>hab (zpO e)) h
end K01
namespace Srt
open PySem PyProof.Rows
section
variable {σ α:Type}{M:Model}{A:Around}{E:Value->Shared->Prop}{s:Shared}{c:Prop}{dc:Decidable c}{Q:α->σ->Prop}{st:σ}
theorem zrU {γ:Type}{g:γ->StateT σ Sem α}{v:γ}(h:∀z,wpS M A E s (g z) Q st):∀u:γ,wpS M A E s (if c then g u else g v) Q st:=λu=>by
 split<;>exact h _
theorem zjK {γ δ:Type}{g m:γ->δ->StateT σ Sem α}{H:γ->δ->Prop}(P:γ->δ->Prop)(key:∀x y,P x y->wpS M A E s (g x y) Q st)(h1:∀u v,H u v->c->(∀x y,P x y->wpS M A E s (g x y) Q st)->wpS M A E s (m u v) Q st)(h2:∀u v,H u v->¬ c->P u v):∀u v,H u v->wpS M A E s (if c then m u v else g u v) Q st:=λu v hH=>by
 by_cases h:c
 ·rw[if_pos h];exact h1 u v hH h key
 ·rw[if_neg h];exact key _ _ (h2 u v hH h)
end
noncomputable def gal:Bool->Keyed->Array Keyed->Nat->Nat->Nat->StateT SortSt Sem (Option Nat):=sortPriv% PySem.Builtin.gallop
structure Cmp (prog:Program)(w:World)(A:Around)(E:Value->Shared->Prop)(s:Shared)(k:SortKind)(P:Keyed->Prop)(f:Keyed->Keyed->Bool):Prop where
 run:∀ {x y:Keyed} {Q:Option Bool->SortSt->Prop} {st:SortSt},P x->P y->kindOf st=k->Q (some (f x y)) st->wpS (model prog w) A E s (lt' x y) Q st
section
variable {prog:Program}{w:World}{A:Around}{E:Value->Shared->Prop}{s:Shared}{k:SortKind}{P:Keyed->Prop}{f:Keyed->Keyed->Bool}
noncomputable def beyB (f:Keyed->Keyed->Bool)(l:Bool)(key:Keyed)(a:Array Keyed)(b i:Nat):Bool:=match a[b+i]? with
 | some x=>if l then f x key else !f key x
 | none=>false
theorem zav {a:Array Keyed}{i:Nat}{x:Keyed}{Q:Keyed->SortSt->Prop}{st:SortSt}(hx:a[i]? = some x)(h:Q x st):wpS (model prog w) A E s (elem' a i) Q st:=by
 rw[elem'_eq,hx];exact wpS_pure h
theorem zrV (C:Cmp prog w A E s k P f){l:Bool}{key:Keyed}{a:Array Keyed}{b i:Nat}{Q:Option Bool->SortSt->Prop}{st:SortSt}(hi:b+i<a.size)(hP:∀(j:Nat) x,a[j]? = some x->P x)(hk:P key)(hst:kindOf st=k)(h:Q (some (beyB f l key a b i)) st) :
  wpS (model prog w) A E s (do let x <- elem' a (b+i);if l=true then lt' x key else do let r <- lt' key x;pure (Option.map (λx=>!x) r)) Q st:=by
 have hx:a[b+i]? = some (a[b+i]):=getElem?_pos a (b+i) hi;have hp:=hP _ _ hx;unfold beyB at h;rw[hx]at h;refine wpS_bind (zav hx ?_);cases l with
 | true=>rw[if_pos rfl];exact C.run hp hk hst h
 | false=>
  rw[if_neg (by decide)];refine wpS_bind (C.run hk hp hst ?_);exact wpS_pure h
structure Cut (B:Nat->Bool)(n r:Nat):Prop where
 le:r<=n
 below:∀i,i<r->B i=true
 above:∀i,r<=i->i<n->B i=false
theorem zfN (C:Cmp prog w A E s k P f){l:Bool}{key:Keyed}{a:Array Keyed}{b n h:Nat}{Q:Option Nat->SortSt->Prop}{st:SortSt}(hh:h<n)(hn:b+n<=a.size)(hP:∀(j:Nat) x,a[j]? = some x->P x)(hk:P key)(hst:kindOf st=k)
  (hm:∀i j,i<=j->j<n->beyB f l key a b j=true->beyB f l key a b i=true) (hQ:∀r,Cut (beyB f l key a b) n r->Q (some r) st):wpS (model prog w) A E s (gal l key a b n h) Q st:=by
 generalize hB:beyB f l key a b=B at hm hQ;have bey:∀ {i:Nat} {R:Option Bool->SortSt->Prop},i<n->R (some (B i)) st->wpS (model prog w) A E s (do let x <- elem' a (b+i);if l=true then lt' x key else do let r <- lt' key x;pure (Option.map (λx=>!x) r)) R st:=
  λ{i} {R} hi hr=>zrV C (by lia) hP hk hst (by rw[hB];exact hr)
 have hmF:∀i j,i<=j->j<n->B i=false->B j=false:=λi j h1 h2 h3=>by
  cases hj:B j with
  | false=>rfl
  | true=>rw[hm i j h1 h2 hj]at h3;cases h3
 refine wpS_bind (bey hh ?_);dsimp only;cases hb:B h with
 | true=>
  rw[if_pos rfl];refine wpS_bind (wpS_mono (wpS_forRange (I:=λx c st'=>st'=st/\∃lastofs ofs,c=(none,lastofs,ofs)/\lastofs<ofs/\x<ofs/\h+lastofs<n/\B (h+lastofs)=true)
   (Q:=λc st'=>st'=st/\∃lastofs ofs,c=(none,lastofs,ofs)/\lastofs<ofs/\h+lastofs<n/\B (h+lastofs)=true/\(n-h<=ofs\/(h+ofs<n/\B (h+ofs)=false))) ?step ?fin ⟨rfl,0,1,rfl,by lia,by lia,by lia,hb⟩) ?post)
  case fin=>
   rintro c st' ⟨rfl,lo,os,rfl,h1,h2,h3,h4⟩;exact⟨rfl,lo,os,rfl,h1,h3,h4,.inl (by lia)⟩
  case step=>
   rintro x c st' _ hx ⟨rfl,lo,os,rfl,h1,h2,h3,h4⟩;dsimp only;by_cases hge:os>=n-h
   ·rw[if_pos hge];exact wpS_pure ⟨rfl,lo,os,rfl,h1,h3,h4,.inl hge⟩
   ·rw[if_neg hge];refine wpS_bind (bey (by lia) ?_);dsimp only;cases hv:B (h+os)with
    | true=>
     rw[if_neg (by decide)];exact wpS_pure ⟨rfl,os,2*os+1,rfl,by lia,by lia,by lia,hv⟩
    | false=>
     rw[if_pos (by decide)];exact wpS_pure ⟨rfl,lo,os,rfl,h1,h3,h4,.inr ⟨by lia,hv⟩⟩
  case post=>
   rintro c st' ⟨rfl,lo,os,rfl,h1,h3,h4,h5⟩;dsimp only;have b1:∀i,i<h+lo+1->B i=true:=λi hi=>hm i (h+lo) (by lia) h3 h4;have b2:∀i,h+min os (n-h)<=i->i<n->B i=false:=λi hi1 hi2=>by
    rcases h5 with h5 | ⟨h5,h6⟩
    ·lia
    ·exact hmF (h+os) i (by lia) hi2 h6
   have b3:h+lo+1<=h+min os (n-h):=by lia
   have b4:h+min os (n-h)<=n:=by lia
   generalize h+lo+1=L at b1 b3;generalize h+min os (n-h)=H at b2 b3 b4;refine wpS_bind (wpS_mono (wpS_forRange (I:=λx c st2=>st2=st'/\∃L H,c=(none,L,H)/\L<=H/\H<=n/\H-L<=n-x/\(∀i,i<L->B i=true)/\(∀i,H<=i->i<n->B i=false))
    (Q:=λc st2=>st2=st'/\∃H,c=(none,H,H)/\Cut B n H) ?hstep ?hfin ⟨rfl,L,H,rfl,b3,b4,by lia,b1,b2⟩) ?hpost)
   case hfin=>
    rintro c st2 ⟨rfl,L,H,rfl,g1,g2,g3,g4,g5⟩;have:L=H:=by lia
    subst this;exact⟨rfl,L,rfl,⟨g2,g4,g5⟩⟩
   case hstep=>
    rintro x c st2 _ hx ⟨rfl,L,H,rfl,g1,g2,g3,g4,g5⟩;dsimp only;by_cases hge:L>=H
    ·rw[if_pos hge];have:L=H:=by lia
     subst this;exact wpS_pure ⟨rfl,L,rfl,⟨g2,g4,g5⟩⟩
    ·rw[if_neg hge];have hmid:L+(H-L) / 2<H:=by lia
     refine wpS_bind (bey (by lia) ?_);dsimp only;cases hv:B (L+(H-L) / 2)with
     | true=>
      rw[if_pos rfl];exact wpS_pure ⟨rfl,_,H,rfl,by lia,g2,by lia,λi hi=>hm i _ (by lia) (by lia) hv,g5⟩
     | false=>
      rw[if_neg (by decide)];exact wpS_pure ⟨rfl,L,_,rfl,by lia,by lia,by lia,g4,λi h1 h2=>hmF _ i h1 h2 hv⟩
   case hpost=>
    rintro c st2 ⟨rfl,H,rfl,hc⟩;exact wpS_pure (hQ H hc)
 | false=>
  rw[if_neg (by decide)];refine wpS_bind (wpS_mono (wpS_forRange (I:=λx c st'=>st'=st/\∃lastofs ofs,c=(none,lastofs,ofs)/\lastofs<ofs/\x<ofs/\lastofs<=h/\B (h-lastofs)=false)
   (Q:=λc st'=>st'=st/\∃lastofs ofs,c=(none,lastofs,ofs)/\lastofs<ofs/\lastofs<=h/\B (h-lastofs)=false/\(h+1<=ofs\/(ofs<=h/\B (h-ofs)=true))) ?step ?fin ⟨rfl,0,1,rfl,by lia,by lia,by lia,hb⟩) ?post)
  case fin=>
   rintro c st' ⟨rfl,lo,os,rfl,h1,h2,h3,h4⟩;exact⟨rfl,lo,os,rfl,h1,h3,h4,.inl (by lia)⟩
  case step=>
   rintro x c st' _ hx ⟨rfl,lo,os,rfl,h1,h2,h3,h4⟩;dsimp only;by_cases hge:os>=h+1
   ·rw[if_pos hge];exact wpS_pure ⟨rfl,lo,os,rfl,h1,h3,h4,.inl hge⟩
   ·rw[if_neg hge];refine wpS_bind (bey (by lia) ?_);dsimp only;cases hv:B (h-os)with
    | true=>
     rw[if_pos rfl];exact wpS_pure ⟨rfl,lo,os,rfl,h1,h3,h4,.inr ⟨by lia,hv⟩⟩
    | false=>
     rw[if_neg (by decide)];exact wpS_pure ⟨rfl,os,2*os+1,rfl,by lia,by lia,by lia,hv⟩
  case post=>
   rintro c st' ⟨rfl,lo,os,rfl,h1,h3,h4,h5⟩;dsimp only;have b1:∀i,i<h+1-min os (h+1)->B i=true:=λi hi=>by
    rcases h5 with h5 | ⟨h5,h6⟩
    ·lia
    ·exact hm i (h-os) (by lia) (by lia) h6
   have b2:∀i,h-lo<=i->i<n->B i=false:=λi hi1 hi2=>hmF (h-lo) i hi1 hi2 h4;have b3:h+1-min os (h+1)<=h-lo:=by lia
   have b4:h-lo<=n:=by lia
   generalize h+1-min os (h+1)=L at b1 b3;generalize h-lo=H at b2 b3 b4;refine wpS_bind (wpS_mono (wpS_forRange (I:=λx c st2=>st2=st'/\∃L H,c=(none,L,H)/\L<=H/\H<=n/\H-L<=n-x/\(∀i,i<L->B i=true)/\(∀i,H<=i->i<n->B i=false))
    (Q:=λc st2=>st2=st'/\∃H,c=(none,H,H)/\Cut B n H) ?hstep ?hfin ⟨rfl,L,H,rfl,b3,b4,by lia,b1,b2⟩) ?hpost)
   case hfin=>
    rintro c st2 ⟨rfl,L,H,rfl,g1,g2,g3,g4,g5⟩;have:L=H:=by lia
    subst this;exact⟨rfl,L,rfl,⟨g2,g4,g5⟩⟩
   case hstep=>
    rintro x c st2 _ hx ⟨rfl,L,H,rfl,g1,g2,g3,g4,g5⟩;dsimp only;by_cases hge:L>=H
    ·rw[if_pos hge];have:L=H:=by lia
     subst this;exact wpS_pure ⟨rfl,L,rfl,⟨g2,g4,g5⟩⟩
    ·rw[if_neg hge];have hmid:L+(H-L) / 2<H:=by lia
     refine wpS_bind (bey (by lia) ?_);dsimp only;cases hv:B (L+(H-L) / 2)with
     | true=>
      rw[if_pos rfl];exact wpS_pure ⟨rfl,_,H,rfl,by lia,g2,by lia,λi hi=>hm i _ (by lia) (by lia) hv,g5⟩
     | false=>
      rw[if_neg (by decide)];exact wpS_pure ⟨rfl,L,_,rfl,by lia,by lia,by lia,g4,λi h1 h2=>hmF _ i h1 h2 hv⟩
   case hpost=>
    rintro c st2 ⟨rfl,H,rfl,hc⟩;exact wpS_pure (hQ H hc)
end
structure Mid {α:Type}(R:α->α->Prop)(a b out:List α)(ia ib:Nat):Prop where
 pm:(out++(a.drop ia++b.drop ib)).Perm (a++b)
 sa:(out++a.drop ia).Pairwise R
 sb:(out++b.drop ib).Pairwise R
structure Good {α:Type}(R:α->α->Prop)(a b out:List α):Prop where
 pm:out.Perm (a++b)
 so:out.Pairwise R
section
variable {α:Type}{R:α->α->Prop}{a b out:List α}{ia ib:Nat}
theorem Mid.runA (h:Mid R a b out ia ib)(k:Nat)(hR:∀x∈(a.drop ia).take k,∀z∈b.drop ib,R x z):Mid R a b (out++(a.drop ia).take k) (ia+k) ib:=by
 have e:a.drop ia=(a.drop ia).take k++a.drop (ia+k):=by rw[<- List.drop_drop,List.take_append_drop]
 refine⟨?_,?_,?_⟩
 ·have:=h.pm;rw[e]at this;simpa[List.append_assoc]using this
 ·have:=h.sa;rw[e]at this;simpa[List.append_assoc]using this
 ·have h1:=h.sa;have h2:=h.sb;rw[e,<- List.append_assoc,List.pairwise_append]at h1;rw[List.pairwise_append]at h2 ⊢;refine⟨h1.1,h2.2.1,λx hx z hz=>?_⟩;rcases List.mem_append.mp hx with hx | hx
  ·exact h2.2.2 x hx z hz
  ·exact hR x hx z hz
theorem Mid.flip (h:Mid R a b out ia ib):Mid R b a out ib ia:=⟨(List.Perm.append_left out List.perm_append_comm).trans (h.pm.trans List.perm_append_comm),h.sb,h.sa⟩
theorem Mid.runB (h:Mid R a b out ia ib)(k:Nat)(hR:∀x∈(b.drop ib).take k,∀z∈a.drop ia,R x z):Mid R a b (out++(b.drop ib).take k) ia (ib+k):=(h.flip.runA k hR).flip
theorem take_one {l:List α}{i:Nat}{x:α}(h:l[i]? = some x):(l.drop i).take 1=[x]:=by
 obtain⟨hi,e⟩:=List.getElem?_eq_some_iff.mp h;rw[List.drop_eq_getElem_cons hi,e];rfl
theorem Mid.one (h:Mid R a b out ia ib){x:α}(hx:a[ia]? = some x)(hR:∀z∈b.drop ib,R x z):Mid R a b (out++[x]) (ia+1) ib:=by
 have:=h.runA 1 (by rw[take_one hx];intro y hy;rw[List.mem_singleton.mp hy];exact hR)
 rwa [take_one hx]at this
theorem Mid.oneB (h:Mid R a b out ia ib){x:α}(hx:b[ib]? = some x)(hR:∀z∈a.drop ia,R x z):Mid R a b (out++[x]) ia (ib+1):=(h.flip.one hx hR).flip
theorem Mid.endB (h:Mid R a b out ia ib)(hb:b.length<=ib):Good R a b (out++a.drop ia++b.drop ib):=by
 have e:b.drop ib=[]:=List.drop_of_length_le hb;have h1:=h.pm;rw[e,List.append_nil]at h1 ⊢;exact⟨h1,h.sa⟩
theorem Mid.endA (h:Mid R a b out ia ib)(ha:a.length<=ia):Good R a b (out++a.drop ia++b.drop ib):=by
 have e:a.drop ia=[]:=List.drop_of_length_le ha;have h1:=h.pm;rw[e,List.nil_append]at h1;rw[e,List.append_nil];exact⟨h1,h.sb⟩
theorem Mid.last (h:Mid R a b out ia ib)(hR:∀y∈b.drop ib,∀z∈a.drop ia,R y z):Good R a b (out++b.drop ib++a.drop ia):=by
 refine⟨?_,?_⟩
 ·rw[List.append_assoc];exact(List.Perm.append_left out List.perm_append_comm).trans h.pm
 ·have h1:=List.pairwise_append.mp h.sa;rw[List.pairwise_append];refine⟨h.sb,h1.2.1,λx hx z hz=>?_⟩;rcases List.mem_append.mp hx with hx | hx
  ·exact h1.2.2 x hx z hz
  ·exact hR x hx z hz
end
noncomputable def mLo:Array Keyed->Array Keyed->StateT SortSt Sem (Array Keyed):=sortPriv% PySem.Builtin.mergeLo
noncomputable def setG:Nat->StateT SortSt Sem Unit:=sortPriv% PySem.Builtin.setMinGallop
structure Same (st st':SortSt):Prop where
 kind:kindOf st'=kindOf st
 arr:arrOf st'=arrOf st
 pend:pendingOf st'=pendingOf st
 failed:failedOf st'=failedOf st
theorem Same.refl (st:SortSt):Same st st:=⟨rfl,rfl,rfl,rfl⟩
theorem zaI {α:Type}(a:Array α)(i:Nat):(a.extract i a.size).toList=a.toList.drop i:=by
 rw[Array.toList_extract,List.extract_eq_drop_take,List.take_of_length_le (by simp)]
theorem ziL {α:Type}(a:Array α)(i k:Nat):(a.extract i (i+k)).toList=(a.toList.drop i).take k:=by
 rw[Array.toList_extract,List.extract_eq_drop_take,Nat.add_sub_cancel_left]
structure Tot (f:Keyed->Keyed->Bool)(P:Keyed->Prop):Prop where
 asym:∀x y,P x->P y->f x y=true->f y x=false
 tr:∀x y z,P x->P y->P z->f y x=false->f z y=false->f z x=false
noncomputable abbrev Le (f:Keyed->Keyed->Bool)(x y:Keyed):Prop:=f y x=false
section
variable {prog:Program}{w:World}{A:Around}{E:Value->Shared->Prop}{s:Shared}{k:SortKind}{P:Keyed->Prop}{f:Keyed->Keyed->Bool}
theorem zgv {g:Nat}{Q:Unit->SortSt->Prop}{st st0:SortSt}(hs:Same st0 st)(h:∀st',Same st0 st'->Q () st'):wpS (model prog w) A E s (setG g) Q st:=
 wpS_modify (h _ ⟨hs.kind,hs.arr,hs.pend,hs.failed⟩)
theorem zfm {a:Array Keyed}(h:∀(j:Nat) x,a[j]? = some x->P x):∀x∈a.toList,P x:=λx hx=>by
 obtain⟨j,hj,e⟩:=List.getElem_of_mem hx;exact h j x (by rw[<- Array.getElem?_toList,List.getElem?_eq_getElem hj,e])
theorem zgw {l:List Keyed}{i:Nat}{x:Keyed}(T:Tot f P)(hP:∀x∈l,P x)(hs:l.Pairwise (Le f))(hx:l[i]? = some x){y:Keyed}(hy:P y)(hyx:Le f y x):∀z∈l.drop i,Le f y z:=λz hz=>by
 obtain⟨hi,e⟩:=List.getElem?_eq_some_iff.mp hx;have hd:=hs.drop (i:=i);rw[List.drop_eq_getElem_cons hi,e]at hz hd;rcases List.mem_cons.mp hz with rfl | hz2
 ·exact hyx
 ·exact T.tr y x z hy (hP x (List.mem_of_getElem? hx)) (hP z (List.mem_of_mem_drop hz2)) hyx (List.rel_of_pairwise_cons hd hz2)
theorem zbG {l:Bool}{key:Keyed}{a:Array Keyed}{b i:Nat}(h:b+i<a.size):beyB f l key a b i=if l then f a[b+i] key else !f key a[b+i]:=by
 unfold beyB;rw[getElem?_pos a (b+i) h]
theorem ziM {a:Array Keyed}(hs:a.toList.Pairwise (Le f)){i j:Nat}(hij:i<j)(hj:j<a.size):Le f (a[i]'(by lia)) a[j]:=by
 have:=List.pairwise_iff_getElem.mp hs i j (by simp;lia) (by simpa using hj) hij;simpa using this
theorem zeQ (T:Tot f P){l:Bool}{key:Keyed}{a:Array Keyed}{b n:Nat}(hn:b+n<=a.size)(hP:∀(j:Nat) x,a[j]? = some x->P x)(hk:P key)(hs:a.toList.Pairwise (Le f)):∀i j,i<=j->j<n->beyB f l key a b j=true->beyB f l key a b i=true:=by
 intro i j hij hj h;rcases Nat.lt_or_eq_of_le hij with hlt | rfl
 ·have hi':b+i<a.size:=by lia
  have hj':b+j<a.size:=by lia
  have pi:P a[b+i]:=hP _ _ (getElem?_pos a _ hi');have pj:P a[b+j]:=hP _ _ (getElem?_pos a _ hj');have hle:Le f a[b+i] a[b+j]:=ziM hs (by lia) hj';rw[zbG hj']at h;rw[zbG hi'];cases l with
  | true=>
   simp only[if_true]at h ⊢;cases hc:f a[b+i] key with
   | true=>rfl
   | false=>rw[T.tr key a[b+i] a[b+j] hk pi pj hc hle]at h;cases h
  | false=>
   simp only[Bool.false_eq_true,if_false]at h ⊢;have h:f key a[b+j]=false:=by simpa using h
   rw[T.tr a[b+i] a[b+j] key pi pj hk hle h];rfl
 ·exact h
theorem zde {a:Array Keyed}{i k:Nat}(hk:i+k<=a.size){x:Keyed}(hx:x∈(a.toList.drop i).take k):∃j,∃h:i+j<a.size,j<k/\x=a[i+j]:=by
 obtain⟨j,hj,e⟩:=List.getElem_of_mem hx;rw[List.length_take,List.length_drop,Array.length_toList]at hj;refine⟨j,by lia,by lia,?_⟩;rw[<- e];simp
theorem zrW (C:Cmp prog w A E s k P f)(T:Tot f P){a b:Array Keyed}{Q:Array Keyed->SortSt->Prop}{st:SortSt}(hst:kindOf st=k)(ha:0<a.size)(hb:0<b.size)(hPa:∀(j:Nat) x,a[j]? = some x->P x)(hPb:∀(j:Nat) x,b[j]? = some x->P x)
  (sa:a.toList.Pairwise (Le f)) (sb:b.toList.Pairwise (Le f)) (h0:f b[0] a[0]=true) (hl:∀y∈b.toList,Le f y (a[a.size-1]'(by lia)))
  (hQ:∀out st',Good (Le f) a.toList b.toList out.toList->Same st st'->Q out st'):wpS (model prog w) A E s (mLo a b) Q st:=by
 have pa:=zfm hPa;have pb:=zfm hPb;have la:a.toList.length=a.size:=Array.length_toList;have lb:b.toList.length=b.size:=Array.length_toList;have ga:∀ {i:Nat},(hi:i<a.size)->a[i]? = some a[i]:=λ{i} hi=>getElem?_pos a i hi;have gb:∀ {i:Nat},(hi:i<b.size)->b[i]? = some b[i]:=λ{i} hi=>getElem?_pos b i hi;have gla:∀ {i:Nat},(hi:i<a.size)->a.toList[i]? = some a[i]:=λ{i} hi=>by rw[Array.getElem?_toList];exact ga hi
 have glb:∀ {i:Nat},(hi:i<b.size)->b.toList[i]? = some b[i]:=λ{i} hi=>by rw[Array.getElem?_toList];exact gb hi
 have Pa:∀ {i:Nat},(hi:i<a.size)->P a[i]:=λ{i} hi=>hPa i _ (ga hi);have Pb:∀ {i:Nat},(hi:i<b.size)->P b[i]:=λ{i} hi=>hPb i _ (gb hi);have stB:∀ {out:List Keyed} {ia ib:Nat},Mid (Le f) a.toList b.toList out ia ib->(h1:ia<a.size)->(h2:ib<b.size)->f b[ib] a[ia]=true->Mid (Le f) a.toList b.toList (out++[b[ib]]) ia (ib+1):=
  λm h1 h2 hf=>m.oneB (glb h2) (zgw T pa sa (gla h1) (Pb h2) (T.asym _ _ (Pb h2) (Pa h1) hf))
 have stA:∀ {out:List Keyed} {ia ib:Nat},Mid (Le f) a.toList b.toList out ia ib->(h1:ia<a.size)->(h2:ib<b.size)->f b[ib] a[ia]=false->Mid (Le f) a.toList b.toList (out++[a[ia]]) (ia+1) ib:=
  λm h1 h2 hf=>m.one (gla h1) (zgw T pb sb (glb h2) (Pa h1) hf)
 have lst:∀ {out:List Keyed} {ia ib:Nat},Mid (Le f) a.toList b.toList out ia ib->ia+1=a.size->Good (Le f) a.toList b.toList (out++b.toList.drop ib++a.toList.drop ia):=λ{out ia ib} m h1=>
  m.last λy hy z hz=>by
   have e:a.toList.drop ia=[a[a.size-1]'(by lia)]:=by
    rw[List.drop_eq_getElem_cons (by lia),List.drop_of_length_le (by lia)]
    congr 1
    rw[Array.getElem_toList]
    congr 1
    lia
   rw[e]at hz;rw[List.mem_singleton.mp hz];exact hl y (List.mem_of_mem_drop hy)
 have start:Mid (Le f) a.toList b.toList [b[0]] 0 1:=by
  have:Mid (Le f) a.toList b.toList [] 0 0:=⟨by simp,by simpa using sa,by simpa using sb⟩;exact stB this ha hb h0
 refine wpS_bind (wpS_lift (wpAny_rule ⟨rfl,?_⟩));dsimp only;refine wpS_bind (zav (gb hb) ?_);by_cases hb1:(1 == b.size)=true
 ·rw[if_pos hb1];refine wpS_pure (hQ _ _ ?_ (.refl st));have e:1=b.size:=by simpa using hb1
  rw[Array.toList_append,Array.toList_append,zaI,zaI];exact start.endB (by lia)
 rw[if_neg hb1];by_cases ha1:(0+1 == a.size)=true
 ·rw[if_pos ha1];refine wpS_pure (hQ _ _ ?_ (.refl st));have e:0+1=a.size:=by simpa using ha1
  rw[Array.toList_append,Array.toList_append,zaI,zaI];exact lst start (by lia)
 rw[if_neg ha1];have hb2:1<b.size:=by have:¬ 1=b.size:=(by simpa using hb1);lia
 have ha2:0+1<a.size:=by have:¬ 0+1=a.size:=(by simpa using ha1);lia
 refine wpS_bind (wpS_get ?_);refine wpS_bind (wpS_mono (wpS_forRange
  (I:=λx c st'=>Same st st'/\∃out ia ib mg,c=(none,out,ia,ib,mg)/\Mid (Le f) a.toList b.toList out.toList ia ib/\ia+1<a.size/\ib<b.size/\x+1<=ia+ib)
  (Q:=λc st'=>Same st st'/\∃out,c.1=some out/\Good (Le f) a.toList b.toList out.toList) ?step ?fin ⟨.refl st,_,0,1,_,rfl,by simpa using start,ha2,hb2,by lia⟩) ?post)
 case fin=>
  rintro c st' ⟨_,out,ia,ib,mg,rfl,_,h1,h2,h3⟩;exfalso
  lia
 case post=>
  rintro⟨c1,c2⟩ st' ⟨hs,out,e,g⟩;simp only at e;subst e;exact wpS_pure (hQ _ _ g hs)
 case step=>
  rintro x c st1 _ hx ⟨hs,out,ia,ib,mg,rfl,m,h1,h2,h3⟩;dsimp only;refine wpS_bind (wpS_mono (wpS_forRange
   (I:=λx c st'=>Same st st'/\∃out ia2 ib2 ac bc,c=(none,out,ia2,ib2,ac,bc)/\Mid (Le f) a.toList b.toList out.toList ia2 ib2/\ia2+1<a.size/\ib2<b.size/\x+(ia+ib)<=ia2+ib2)
   (Q:=λc st'=>Same st st'/\((∃out,c.1=some out/\Good (Le f) a.toList b.toList out.toList)\/∃out ia2 ib2 ac bc,c=(none,out,ia2,ib2,ac,bc)/\Mid (Le f) a.toList b.toList out.toList ia2 ib2/\ia2+1<a.size/\ib2<b.size/\1+(ia+ib)<=ia2+ib2)) ?step1 ?fin1 ⟨hs,out,ia,ib,0,0,rfl,m,h1,h2,by lia⟩) ?post1)
  case fin1=>
   rintro c st' ⟨_,out,ia2,ib2,ac,bc,rfl,_,h1,h2,h3⟩;exfalso
   lia
  case step1=>
   rintro y c st2 _ hy ⟨hs2,out2,ia2,ib2,ac,bc,rfl,m2,g1,g2,g3⟩;dsimp only;refine wpS_bind (zav (gb g2) (wpS_bind (zav (ga (show ia2<a.size by lia)) (wpS_bind (C.run (Pb g2) (Pa _) (by rw[hs2.kind];exact hst) ?_)))));dsimp only;cases hf:f b[ib2] (a[ia2]'(by lia))with
   | true=>
    have m3:=stB m2 (by lia) g2 hf;rw[<- Array.toList_push]at m3;rw[if_pos rfl];refine wpS_bind (zav (gb g2) ?_);by_cases e1:(ib2+1 == b.size)=true
    ·rw[if_pos e1];have e1:ib2+1=b.size:=by simpa using e1
     refine wpS_pure ⟨hs2,.inl ⟨_,rfl,?_⟩⟩;rw[Array.toList_append,Array.toList_append,zaI,zaI];exact m3.endB (by lia)
    ·rw[if_neg e1];have e1:¬ ib2+1=b.size:=by simpa using e1
     by_cases e2:bc+1>=mg
     ·rw[if_pos e2];exact wpS_pure ⟨hs2,.inr ⟨_,_,_,_,_,rfl,m3,g1,by lia,by lia⟩⟩
     ·rw[if_neg e2];exact wpS_pure ⟨hs2,_,_,_,_,_,rfl,m3,g1,by lia,by lia⟩
   | false=>
    have m3:=stA m2 (by lia) g2 hf;rw[<- Array.toList_push]at m3;rw[if_neg (by decide)];refine wpS_bind (zav (ga (show ia2<a.size by lia)) ?_);by_cases e1:(ia2+1+1 == a.size)=true
    ·rw[if_pos e1];have e1:ia2+1+1=a.size:=by simpa using e1
     refine wpS_pure ⟨hs2,.inl ⟨_,rfl,?_⟩⟩;rw[Array.toList_append,Array.toList_append,zaI,zaI];exact lst m3 e1
    ·rw[if_neg e1];have e1:¬ ia2+1+1=a.size:=by simpa using e1
     by_cases e2:ac+1>=mg
     ·rw[if_pos e2];exact wpS_pure ⟨hs2,.inr ⟨_,_,_,_,_,rfl,m3,by lia,g2,by lia⟩⟩
     ·rw[if_neg e2];exact wpS_pure ⟨hs2,_,_,_,_,_,rfl,m3,by lia,g2,by lia⟩
  case post1=>
   rintro c st2 ⟨hs2,hc⟩;rcases hc with ⟨out2,e,g⟩ | ⟨out2,ia2,ib2,ac,bc,rfl,m2,g1,g2,g3⟩
   ·obtain⟨c1,c2⟩:=c;simp only at e;subst e;exact wpS_pure ⟨hs2,_,rfl,g⟩
   dsimp only;refine wpS_bind (wpS_lift (wpAny_rule ⟨rfl,?_⟩));refine wpS_bind (wpS_mono (wpS_forRange
    (I:=λx c st'=>Same st st'/\∃out ia3 ib3 mg ac bc,c=(none,out,ia3,ib3,mg,ac,bc)/\Mid (Le f) a.toList b.toList out.toList ia3 ib3/\ia3+1<a.size/\ib3<b.size/\x+(ia2+ib2)<=ia3+ib3)
    (Q:=λc st'=>Same st st'/\((∃out,c.1=some out/\Good (Le f) a.toList b.toList out.toList)\/∃out ia3 ib3 mg ac bc,c=(none,out,ia3,ib3,mg,ac,bc)/\Mid (Le f) a.toList b.toList out.toList ia3 ib3/\ia3+1<a.size/\ib3<b.size/\ia2+ib2<=ia3+ib3)) ?step2 ?fin2 ⟨hs2,out2,ia2,ib2,_,ac,bc,rfl,m2,g1,g2,by lia⟩) ?post2)
   case fin2=>
    rintro c st' ⟨_,out,ia2,ib2,mg,ac,bc,rfl,_,h1,h2,h3⟩;exfalso
    lia
   case post2=>
    rintro c st3 ⟨hs3,hc⟩;rcases hc with ⟨out3,e,g⟩ | ⟨out3,ia3,ib3,mg3,ac3,bc3,rfl,m3,q1,q2,q3⟩
    ·obtain⟨c1,c2⟩:=c;simp only at e;subst e;exact wpS_pure ⟨hs3,_,rfl,g⟩
    dsimp only;refine wpS_bind (zgv hs3 λst4 hs4=>?_);exact wpS_pure ⟨hs4,_,_,_,_,rfl,m3,q1,q2,by lia⟩
   case step2=>
    rintro y c st3 _ hy ⟨hs3,out3,ia3,ib3,mg3,ac3,bc3,rfl,m3,q1,q2,q3⟩;have nA:ia3+(a.size-ia3)<=a.size:=by lia
    dsimp only;generalize mg3-1=mu;revert mu;refine zrU λmgX=>?_;refine wpS_bind (zgv hs3 λst4 hs4=>?_);refine wpS_bind (zav (gb q2) (wpS_bind ?_));refine zfN C (l:=false) (key:=b[ib3]) (a:=a) (b:=ia3) (n:=a.size-ia3) (h:=0) (by lia) nA hPa (Pb q2) (by rw[hs4.kind];exact hst) (zeQ T nA hPa (Pb q2) sa) λkk cut=>?_;have c1:=cut.le;have m4:=m3.runA kk λx hx=>by
     obtain⟨j,hj,hjk,rfl⟩:=zde (by lia) hx;have:=cut.below j hjk;rw[zbG hj]at this;simp only[Bool.false_eq_true,if_false]at this;exact zgw T pb sb (glb q2) (Pa hj) (show f b[ib3] a[ia3+j]=false by simpa using this)
    have c2:∀(h:ia3+kk<a.size),f b[ib3] a[ia3+kk]=true:=λh=>by
     have:=cut.above kk (Nat.le_refl _) (by lia);rw[zbG h]at this;simp only[Bool.false_eq_true,if_false]at this;simpa using this
    dsimp only;have HH:=And.intro m4 (And.intro c1 (And.intro c2 (And.intro q1 q3)));clear c1 c2 m4 cut nA m3 q1 q3;revert HH;revert ia3;revert out3;refine zjK (λo i=>Mid (Le f) a.toList b.toList o.toList i ib3/\i+1<a.size/\(∀(h:i<a.size),f b[ib3] a[i]=true)/\y+(ia2+ib2)<=i+ib3) ?_ (λout3 ia3 ⟨m4,c1,c2,q1,q3⟩ hk0 key=>?_) λout3 ia3 ⟨m4,c1,c2,q1,q3⟩ hk0=>?_
    rotate_left
    ·by_cases e1:(ia3+kk+1 == a.size)=true
     ·rw[if_pos e1];refine wpS_pure ⟨hs4,.inl ⟨_,rfl,?_⟩⟩;rw[Array.toList_append,Array.toList_append,Array.toList_append,zaI,zaI,ziL];exact lst m4 (by simpa using e1)
     rw[if_neg e1];by_cases e2:(ia3+kk == a.size)=true
     ·rw[if_pos e2];have e2:ia3+kk=a.size:=by simpa using e2
      refine wpS_pure ⟨hs4,.inl ⟨_,rfl,?_⟩⟩;rw[Array.toList_append,Array.toList_append,Array.toList_append,zaI,zaI,ziL];exact m4.endA (by lia)
     rw[if_neg e2];have e1:¬ ia3+kk+1=a.size:=by simpa using e1
     have e2:¬ ia3+kk=a.size:=by simpa using e2
     rw[<- ziL,<- Array.toList_append]at m4;exact key _ _ ⟨m4,by lia,c2,by lia⟩
    ·have hk0:kk=0:=by lia
     subst hk0;rw[Nat.add_zero,List.take_zero,List.append_nil]at m4;exact⟨m4,q1,c2,by lia⟩
    rintro outX iaX ⟨m4,gX,fX,qX⟩;have gX':iaX<a.size:=by lia
    have m5:=stB m4 gX' q2 (fX gX');rw[<- Array.toList_push]at m5;refine wpS_bind (zav (gb q2) ?_);by_cases e3:(ib3+1 == b.size)=true
    ·rw[if_pos e3];have e3:ib3+1=b.size:=by simpa using e3
     refine wpS_pure ⟨hs4,.inl ⟨_,rfl,?_⟩⟩;rw[Array.toList_append,Array.toList_append,zaI,zaI];exact m5.endB (by lia)
    rw[if_neg e3];have e3:¬ ib3+1=b.size:=by simpa using e3
    have nB:(ib3+1)+(b.size-(ib3+1))<=b.size:=by lia
    refine wpS_bind (zav (ga gX') (wpS_bind ?_));refine zfN C (l:=true) (key:=a[iaX]) (a:=b) (b:=ib3+1) (n:=b.size-(ib3+1)) (h:=0) (by lia) nB hPb (Pa gX') (by rw[hs4.kind];exact hst) (zeQ T nB hPb (Pa gX') sb) λk2 cut2=>?_;have d1:=cut2.le;have m6:=m5.runB k2 λx hx=>by
     obtain⟨j,hj,hjk,rfl⟩:=zde (by lia) hx;have:=cut2.below j hjk;rw[zbG hj]at this;simp only[if_true]at this;exact zgw T pa sa (gla gX') (Pb hj) (T.asym _ _ (Pb hj) (Pa gX') this)
    have d2:∀(h:ib3+1+k2<b.size),f b[ib3+1+k2] a[iaX]=false:=λh=>by
     have:=cut2.above k2 (Nat.le_refl _) (by lia);rw[zbG h]at this;simpa only[if_true]using this
    have l3:ib3+1<b.size:=by lia
    have qY:y+1+(ia2+ib2)<=iaX+(ib3+1):=by lia
    clear m5 cut2 e3 nB m4 fX;generalize outX.push b[ib3]=outY at m6;dsimp only;generalize ib3+1=ib4 at m6 d1 d2 l3 qY ⊢;have HH:=And.intro m6 (And.intro d1 (And.intro d2 (And.intro l3 qY)));clear m6 d1 d2 l3 qY;revert HH;revert ib4;revert outY;refine zjK (γ:=Array Keyed) (δ:=Nat) (λo i=>Mid (Le f) a.toList b.toList o.toList iaX i/\i<b.size/\(∀(h:i<b.size),f b[i] a[iaX]=false)/\y+1+(ia2+ib2)<=iaX+i) ?_ (λoutY ib4 ⟨m6,d1,d2,l3,qY⟩ hk2 key=>?_) λoutY ib4 ⟨m6,d1,d2,l3,qY⟩ hk2=>?_
    rotate_left
    ·by_cases e4:(ib4+k2 == b.size)=true
     ·rw[if_pos e4];have e4:ib4+k2=b.size:=by simpa using e4
      refine wpS_pure ⟨hs4,.inl ⟨_,rfl,?_⟩⟩;rw[Array.toList_append,Array.toList_append,Array.toList_append,zaI,zaI,ziL];exact m6.endB (by lia)
     rw[if_neg e4];have e4:¬ ib4+k2=b.size:=by simpa using e4
     rw[<- ziL,<- Array.toList_append]at m6;exact key _ _ ⟨m6,by lia,d2,by lia⟩
    ·have hk2:k2=0:=by lia
     subst hk2;rw[Nat.add_zero,List.take_zero,List.append_nil]at m6;exact⟨m6,l3,d2,qY⟩
    rintro outZ ibZ ⟨m6,gY,fY,qY⟩;have m7:=stA m6 gX' gY (fY gY);rw[<- Array.toList_push]at m7;refine wpS_bind (zav (ga gX') ?_);by_cases e5:(iaX+1+1 == a.size)=true
    ·rw[if_pos e5];refine wpS_pure ⟨hs4,.inl ⟨_,rfl,?_⟩⟩;rw[Array.toList_append,Array.toList_append,zaI,zaI];exact lst m7 (by simpa using e5)
    rw[if_neg e5];have e5:¬ iaX+1+1=a.size:=by simpa using e5
    split
    ·exact wpS_pure ⟨hs4,.inr ⟨_,_,_,_,_,_,rfl,m7,by lia,gY,by lia⟩⟩
    ·exact wpS_pure ⟨hs4,_,_,_,_,_,_,rfl,m7,by lia,gY,by lia⟩
end
noncomputable def mHi:Array Keyed->Array Keyed->StateT SortSt Sem (Array Keyed):=sortPriv% PySem.Builtin.mergeHi
structure Up {α:Type}(R:α->α->Prop)(a b O:List α)(na nb:Nat):Prop where
 pm:(a.take na++(b.take nb++O)).Perm (a++b)
 sa:(a.take na++O).Pairwise R
 sb:(b.take nb++O).Pairwise R
section
variable {α:Type}{R:α->α->Prop}{a b O:List α}{na nb:Nat}
theorem zrX {l:List α}{i n:Nat}(h:i<=n):l.take n=l.take i++(l.take n).drop i:=by
 have:=(List.take_append_drop i (l.take n)).symm
 rwa [List.take_take,Nat.min_eq_left h]at this
theorem Up.flip (h:Up R a b O na nb):Up R b a O nb na:=by
 refine⟨?_,h.sb,h.sa⟩;refine List.Perm.trans ?_ (h.pm.trans List.perm_append_comm);rw[<- List.append_assoc,<- List.append_assoc];exact List.Perm.append_right O List.perm_append_comm
theorem Up.runA (h:Up R a b O na nb){i:Nat}(hi:i<=na)(hR:∀z∈b.take nb,∀x∈(a.take na).drop i,R z x):Up R a b ((a.take na).drop i++O) i nb:=by
 have e:=zrX (l:=a) hi;refine⟨?_,?_,?_⟩
 ·refine List.Perm.trans ?_ h.pm;have e2:a.take na++(b.take nb++O)=a.take i++((a.take na).drop i++(b.take nb++O)):=by
   rw[<- List.append_assoc (a.take i),<- e]
  rw[e2];refine List.Perm.append_left _ ?_;rw[<- List.append_assoc,<- List.append_assoc];exact List.Perm.append_right O List.perm_append_comm
 ·rw[<- List.append_assoc,<- e];exact h.sa
 ·have h1:=h.sa;have h2:=List.pairwise_append.mp h.sb;rw[e,List.append_assoc]at h1;have h1:=(List.pairwise_append.mp h1).2.1;rw[List.pairwise_append];refine⟨h2.1,h1,λz hz x hx=>?_⟩;rcases List.mem_append.mp hx with hx | hx
  ·exact hR z hz x hx
  ·exact h2.2.2 z hz x hx
theorem Up.runB (h:Up R a b O na nb){i:Nat}(hi:i<=nb)(hR:∀z∈a.take na,∀x∈(b.take nb).drop i,R z x):Up R a b ((b.take nb).drop i++O) na i:=(h.flip.runA hi hR).flip
theorem zoC {l:List α}{i:Nat}{x:α}(h:l[i]? = some x):(l.take (i+1)).drop i=[x]:=by
 obtain⟨hi,e⟩:=List.getElem?_eq_some_iff.mp h;rw[List.drop_take,List.drop_eq_getElem_cons hi,e,Nat.add_sub_cancel_left];rfl
theorem Up.one (h:Up R a b O (na+1) nb){x:α}(hx:a[na]? = some x)(hR:∀z∈b.take nb,R z x):Up R a b (x::O) na nb:=by
 have:=h.runA (i:=na) (by lia) (by rw[zoC hx];intro z hz y hy;rw[List.mem_singleton.mp hy];exact hR z hz)
 rwa [zoC hx]at this
theorem Up.oneB (h:Up R a b O na (nb+1)){x:α}(hx:b[nb]? = some x)(hR:∀z∈a.take na,R z x):Up R a b (x::O) na nb:=(h.flip.one hx hR).flip
theorem Up.endA (h:Up R a b O 0 nb):Good R a b (a.take 0++b.take nb++O):=⟨by rw[List.append_assoc];exact h.pm,by simpa using h.sb⟩
theorem Up.endB (h:Up R a b O na 0):Good R a b (a.take na++b.take 0++O):=⟨by rw[List.append_assoc];exact h.pm,by simpa using h.sa⟩
theorem Up.first (h:Up R a b O na nb)(hR:∀y∈b.take nb,∀z∈a.take na,R y z):Good R a b (b.take nb++a.take na++O):=by
 refine⟨?_,?_⟩
 ·refine List.Perm.trans ?_ h.pm;rw[<- List.append_assoc];exact List.Perm.append_right O List.perm_append_comm
 ·have h1:=List.pairwise_append.mp h.sb;rw[List.append_assoc,List.pairwise_append];refine⟨h1.1,h.sa,λy hy z hz=>?_⟩;rcases List.mem_append.mp hz with hz | hz
  ·exact hR y hy z hz
  ·exact h1.2.2 y hy z hz
end
theorem zbk {α:Type}(a:Array α)(n:Nat):(a.extract 0 n).toList=a.toList.take n:=by
 rw[Array.toList_extract,List.extract_eq_drop_take,List.drop_zero,Nat.sub_zero]
theorem zmz {α:Type}(a:Array α)(i n:Nat):(a.extract i n).toList=(a.toList.take n).drop i:=by
 rw[Array.toList_extract,List.extract_eq_drop_take,List.drop_take]
section
variable {prog:Program}{w:World}{A:Around}{E:Value->Shared->Prop}{s:Shared}{k:SortKind}{P:Keyed->Prop}{f:Keyed->Keyed->Bool}
theorem zgx {a:Array Keyed}{n:Nat}{x:Keyed}(hx:x∈a.toList.take n):∃j,∃h:j<a.size,j<n/\x=a[j]:=by
 obtain⟨j,hj,e⟩:=List.getElem_of_mem hx;rw[List.length_take,Array.length_toList]at hj;exact⟨j,by lia,by lia,by rw[<- e];simp⟩
theorem mem_mid {a:Array Keyed}{i n:Nat}{x:Keyed}(hx:x∈(a.toList.take n).drop i):∃j,∃h:j<a.size,i<=j/\j<n/\x=a[j]:=by
 obtain⟨j,hj,e⟩:=List.getElem_of_mem hx;rw[List.length_drop,List.length_take,Array.length_toList]at hj;exact⟨i+j,by lia,by lia,by lia,by rw[<- e];simp⟩
theorem zgy (T:Tot f P){a:Array Keyed}(hP:∀(j:Nat) x,a[j]? = some x->P x)(hs:a.toList.Pairwise (Le f)){n:Nat}(hn:n<a.size){y:Keyed}(hy:P y)(hxy:Le f a[n] y):∀z∈a.toList.take (n+1),Le f z y:=λz hz=>by
 obtain⟨j,hj,hjn,rfl⟩:=zgx hz;rcases Nat.lt_or_eq_of_le (Nat.le_of_lt_succ hjn)with h | rfl
 ·exact T.tr a[j] a[n] y (hP j _ (getElem?_pos a j hj)) (hP n _ (getElem?_pos a n hn)) hy (ziM hs h hn) hxy
 ·exact hxy
end
theorem Up.znO {α:Type}{R:α->α->Prop}{a b O:List α}{na nb:Nat}(h:Up R a b O na nb)(e:na=0):Good R a b (a.take na++b.take nb++O):=by subst e;exact h.endA
theorem Up.ztc {α:Type}{R:α->α->Prop}{a b O:List α}{na nb:Nat}(h:Up R a b O na nb)(e:nb=0):Good R a b (a.take na++b.take nb++O):=by subst e;exact h.endB
section
variable {prog:Program}{w:World}{A:Around}{E:Value->Shared->Prop}{s:Shared}{k:SortKind}{P:Keyed->Prop}{f:Keyed->Keyed->Bool}
theorem zrY (C:Cmp prog w A E s k P f)(T:Tot f P){a b:Array Keyed}{Q:Array Keyed->SortSt->Prop}{st:SortSt}(hst:kindOf st=k)(ha:0<a.size)(hb:0<b.size)(hPa:∀(j:Nat) x,a[j]? = some x->P x)(hPb:∀(j:Nat) x,b[j]? = some x->P x)
  (sa:a.toList.Pairwise (Le f)) (sb:b.toList.Pairwise (Le f)) (h0:f b[0] a[0]=true) (hl:∀y∈b.toList,Le f y (a[a.size-1]'(by lia)))
  (hQ:∀out st',Good (Le f) a.toList b.toList out.toList->Same st st'->Q out st'):wpS (model prog w) A E s (mHi a b) Q st:=by
 have pa:=zfm hPa;have pb:=zfm hPb;have la:a.toList.length=a.size:=Array.length_toList;have lb:b.toList.length=b.size:=Array.length_toList;have ga:∀ {i:Nat},(hi:i<a.size)->a[i]? = some a[i]:=λ{i} hi=>getElem?_pos a i hi;have gb:∀ {i:Nat},(hi:i<b.size)->b[i]? = some b[i]:=λ{i} hi=>getElem?_pos b i hi;have gla:∀ {i:Nat},(hi:i<a.size)->a.toList[i]? = some a[i]:=λ{i} hi=>by rw[Array.getElem?_toList];exact ga hi
 have glb:∀ {i:Nat},(hi:i<b.size)->b.toList[i]? = some b[i]:=λ{i} hi=>by rw[Array.getElem?_toList];exact gb hi
 have Pa:∀ {i:Nat},(hi:i<a.size)->P a[i]:=λ{i} hi=>hPa i _ (ga hi);have Pb:∀ {i:Nat},(hi:i<b.size)->P b[i]:=λ{i} hi=>hPb i _ (gb hi);have stA:∀ {O:List Keyed} {n m:Nat},Up (Le f) a.toList b.toList O (n+1) (m+1)->(h1:n<a.size)->(h2:m<b.size)->f b[m] a[n]=true->Up (Le f) a.toList b.toList (a[n]::O) n (m+1):=
  λu h1 h2 hf=>u.one (gla h1) (zgy T hPb sb h2 (Pa h1) (T.asym _ _ (Pb h2) (Pa h1) hf))
 have stB:∀ {O:List Keyed} {n m:Nat},Up (Le f) a.toList b.toList O (n+1) (m+1)->(h1:n<a.size)->(h2:m<b.size)->f b[m] a[n]=false->Up (Le f) a.toList b.toList (b[m]::O) (n+1) m:=
  λu h1 h2 hf=>u.oneB (glb h2) (zgy T hPa sa h1 (Pb h2) hf)
 have fst:∀ {O:List Keyed} {n m:Nat},Up (Le f) a.toList b.toList O n m->m=1->Good (Le f) a.toList b.toList (b.toList.take m++a.toList.take n++O):=λ{O n m} u em=>
  u.first λy hy z hz=>by
   obtain⟨i,hi,hi1,rfl⟩:=zgx hy;obtain⟨j,hj,_,rfl⟩:=zgx hz;have:i=0:=by lia
   subst this;have h1:=T.asym _ _ (Pb hb) (Pa ha) h0;rcases Nat.eq_zero_or_pos j with rfl | hj0
   ·exact h1
   ·exact T.tr _ _ _ (Pb hb) (Pa ha) (Pa hj) h1 (ziM sa hj0 hj)
 have start:Up (Le f) a.toList b.toList [a[a.size-1]'(by lia)] (a.size-1) b.size:=by
  have h:Up (Le f) a.toList b.toList [] (a.size-1+1) b.size:=by
   refine⟨?_,?_,?_⟩
   ·rw[List.take_of_length_le (by lia),List.take_of_length_le (by lia),List.append_nil]
   ·rw[List.take_of_length_le (by lia),List.append_nil];exact sa
   ·rw[List.take_of_length_le (by lia),List.append_nil];exact sb
  exact h.one (gla (by lia)) λz hz=>hl z (List.mem_of_mem_take hz)
 refine wpS_bind (wpS_lift (wpAny_rule ⟨rfl,?_⟩));dsimp only;refine wpS_bind (zav (ga (show a.size-1<a.size by lia)) ?_);by_cases ha1:(a.size-1 == 0)=true
 ·rw[if_pos ha1];have e:a.size-1=0:=by simpa using ha1
  refine wpS_pure (hQ _ _ ?_ (.refl st));rw[Array.toList_append,Array.toList_append,zbk,zbk,Array.toList_reverse];exact start.znO e
 rw[if_neg ha1];by_cases hb1:(b.size == 1)=true
 ·rw[if_pos hb1];have e:b.size=1:=by simpa using hb1
  refine wpS_pure (hQ _ _ ?_ (.refl st));rw[Array.toList_append,Array.toList_append,zbk,zbk,Array.toList_reverse];exact fst start e
 rw[if_neg hb1];have ha2:1<=a.size-1:=by have:¬ a.size-1=0:=(by simpa using ha1);lia
 have hb2:2<=b.size:=by have:¬ b.size=1:=(by simpa using hb1);lia
 refine wpS_bind (wpS_get ?_);refine wpS_bind (wpS_mono (wpS_forRange
  (I:=λx c st'=>Same st st'/\∃out na nb mg,c=(none,na,nb,out,mg)/\Up (Le f) a.toList b.toList out.toList.reverse na nb/\1<=na/\2<=nb/\na<=a.size/\nb<=b.size/\x+(na+nb)+1<=a.size+b.size)
  (Q:=λc st'=>Same st st'/\∃out,c.1=some out/\Good (Le f) a.toList b.toList out.toList) ?step ?fin ⟨.refl st,_,a.size-1,b.size,_,rfl,by simpa using start,ha2,hb2,by lia,by lia,by lia⟩) ?post)
 case fin=>
  rintro c st' ⟨_,out,na,nb,mg,rfl,_,h1,h2,h3,h4,h5⟩;exfalso
  lia
 case post=>
  rintro⟨c1,c2⟩ st' ⟨hs,out,e,g⟩;simp only at e;subst e;exact wpS_pure (hQ _ _ g hs)
 case step=>
  rintro x c st1 _ hx ⟨hs,out,na,nb,mg,rfl,u,h1,h2,h3,h4,h5⟩;dsimp only;refine wpS_bind (wpS_mono (wpS_forRange
   (I:=λx c st'=>Same st st'/\∃out n2 m2 ac bc,c=(none,n2+1,m2+1,out,ac,bc)/\Up (Le f) a.toList b.toList out.toList.reverse (n2+1) (m2+1)/\1<=m2/\n2<a.size/\m2<b.size/\x+(n2+m2+2)<=na+nb)
   (Q:=λc st'=>Same st st'/\((∃out,c.1=some out/\Good (Le f) a.toList b.toList out.toList)\/∃out n2 m2 ac bc,c=(none,n2+1,m2+1,out,ac,bc)/\Up (Le f) a.toList b.toList out.toList.reverse (n2+1) (m2+1)/\1<=m2/\n2<a.size/\m2<b.size/\1+(n2+m2+2)<=na+nb)) ?step1 ?fin1 ?ini1) ?post1)
  case ini1=>
   obtain⟨n,rfl⟩:∃n,na=n+1:=⟨na-1,by lia⟩;obtain⟨m,rfl⟩:∃m,nb=m+1:=⟨nb-1,by lia⟩;exact⟨hs,out,n,m,0,0,rfl,u,by lia,by lia,by lia,by lia⟩
  case fin1=>
   rintro c st' ⟨_,out,n2,m2,ac,bc,rfl,_,h1,h2,h3,h4⟩;exfalso
   lia
  case step1=>
   rintro y c st2 _ hy ⟨hs2,out2,n2,m2,ac,bc,rfl,u2,g1,g2,g3,g4⟩;dsimp only;refine wpS_bind (zav (gb g3) (wpS_bind (zav (ga g2) (wpS_bind (C.run (Pb g3) (Pa g2) (by rw[hs2.kind];exact hst) ?_)))));simp only[Nat.add_sub_cancel];cases hf:f b[m2] a[n2]with
   | true=>
    have u3:=stA u2 g2 g3 hf;have er:a[n2]::out2.toList.reverse=(out2.push a[n2]).toList.reverse:=by simp
    rw[er]at u3;rw[if_pos rfl];refine wpS_bind (zav (ga g2) ?_);by_cases e1:(n2 == 0)=true
    ·rw[if_pos e1];refine wpS_pure ⟨hs2,.inl ⟨_,rfl,?_⟩⟩;rw[Array.toList_append,Array.toList_append,zbk,zbk,Array.toList_reverse];exact u3.znO (by simpa using e1)
    ·rw[if_neg e1];have e1:¬ n2=0:=by simpa using e1
     obtain⟨n3,rfl⟩:∃n3,n2=n3+1:=⟨n2-1,by lia⟩;by_cases e2:ac+1>=mg
     ·rw[if_pos e2];exact wpS_pure ⟨hs2,.inr ⟨_,_,_,_,_,rfl,u3,g1,by lia,g3,by lia⟩⟩
     ·rw[if_neg e2];exact wpS_pure ⟨hs2,_,_,_,_,_,rfl,u3,g1,by lia,g3,by lia⟩
   | false=>
    have u3:=stB u2 g2 g3 hf;have er:b[m2]::out2.toList.reverse=(out2.push b[m2]).toList.reverse:=by simp
    rw[er]at u3;rw[if_neg (by decide)];refine wpS_bind (zav (gb g3) ?_);by_cases e1:(m2 == 1)=true
    ·rw[if_pos e1];refine wpS_pure ⟨hs2,.inl ⟨_,rfl,?_⟩⟩;rw[Array.toList_append,Array.toList_append,zbk,zbk,Array.toList_reverse];exact fst u3 (by simpa using e1)
    ·rw[if_neg e1];have e1:¬ m2=1:=by simpa using e1
     obtain⟨m3,rfl⟩:∃m3,m2=m3+1:=⟨m2-1,by lia⟩;by_cases e2:bc+1>=mg
     ·rw[if_pos e2];exact wpS_pure ⟨hs2,.inr ⟨_,_,_,_,_,rfl,u3,by lia,g2,by lia,by lia⟩⟩
     ·rw[if_neg e2];exact wpS_pure ⟨hs2,_,_,_,_,_,rfl,u3,by lia,g2,by lia,by lia⟩
  case post1=>
   rintro c st2 ⟨hs2,hc⟩;rcases hc with ⟨out2,e,g⟩ | ⟨out2,n2,m2,ac,bc,rfl,u2,g1,g2,g3,g4⟩
   ·obtain⟨c1,c2⟩:=c;simp only at e;subst e;exact wpS_pure ⟨hs2,_,rfl,g⟩
   dsimp only;refine wpS_bind (wpS_lift (wpAny_rule ⟨rfl,?_⟩));refine wpS_bind (wpS_mono (wpS_forRange
    (I:=λx c st'=>Same st st'/\∃out n3 m3 mg ac bc,c=(none,n3+1,m3+1,out,mg,ac,bc)/\Up (Le f) a.toList b.toList out.toList.reverse (n3+1) (m3+1)/\1<=m3/\n3<a.size/\m3<b.size/\x+(n3+m3)<=n2+m2)
    (Q:=λc st'=>Same st st'/\((∃out,c.1=some out/\Good (Le f) a.toList b.toList out.toList)\/∃out n3 m3 mg ac bc,c=(none,n3+1,m3+1,out,mg,ac,bc)/\Up (Le f) a.toList b.toList out.toList.reverse (n3+1) (m3+1)/\1<=m3/\n3<a.size/\m3<b.size/\n3+m3<=n2+m2)) ?step2 ?fin2 ⟨hs2,out2,n2,m2,_,ac,bc,rfl,u2,g1,g2,g3,by lia⟩) ?post2)
   case fin2=>
    rintro c st' ⟨_,out,n3,m3,mg,ac,bc,rfl,_,h1,h2,h3,h4⟩;exfalso
    lia
   case post2=>
    rintro c st3 ⟨hs3,hc⟩;rcases hc with ⟨out3,e,g⟩ | ⟨out3,n3,m3,mg3,ac3,bc3,rfl,u3,q1,q2,q3,q4⟩
    ·obtain⟨c1,c2⟩:=c;simp only at e;subst e;exact wpS_pure ⟨hs3,_,rfl,g⟩
    dsimp only;refine wpS_bind (zgv hs3 λst4 hs4=>?_);exact wpS_pure ⟨hs4,_,_,_,_,rfl,u3,by lia,by lia,by lia,by lia,by lia⟩
   case step2=>
    rintro y c st3 _ hy ⟨hs3,out3,n3,m3,mg3,ac3,bc3,rfl,u3,q1,q2,q3,q4⟩;dsimp only;generalize mg3-1=mu;revert mu;refine zrU λmgX=>?_;refine wpS_bind (zgv hs3 λst4 hs4=>?_);have hk4:kindOf st4=k:=by rw[hs4.kind];exact hst
    have nA:0+(n3+1)<=a.size:=by lia
    refine wpS_bind (zav (gb q3) (wpS_bind ?_));refine zfN C (l:=false) (key:=b[m3]) (a:=a) (b:=0) (n:=n3+1) (h:=n3+1-1) (by lia) nA hPa (Pb q3) hk4 (zeQ T nA hPa (Pb q3) sa) λi1 cut=>?_;have c1:=cut.le;have c2:∀(j:Nat) (h:j<a.size),i1<=j->j<n3+1->f b[m3] a[j]=true:=λj h h1 h2=>by
     have:=cut.above j h1 h2;rw[zbG (by lia)]at this;simpa using this
    have c3:∀(j:Nat) (h:j<a.size),j<i1->f b[m3] a[j]=false:=λj h h1=>by
     have:=cut.below j h1;rw[zbG (by lia)]at this;simpa using this
    have u4:=u3.runA c1 λz hz x hx=>by
     obtain⟨j,hj,h1,h2,rfl⟩:=mem_mid hx;exact zgy T hPb sb q3 (Pa hj) (T.asym _ _ (Pb q3) (Pa hj) (c2 j hj h1 h2)) z hz
    clear cut c2;dsimp only;generalize hn4:n3+1=n4 at u4 c1 q4 nA ⊢;generalize hac:n4-i1=ac4;have q5:y+(n4-1+m3)<=n2+m2:=by lia
    have q6:0<n4:=by lia
    have HH:=And.intro u4 (And.intro c1 (And.intro c3 (And.intro q5 (And.intro q6 (And.intro nA hac)))));clear u4 c1 c3 q5 q6 nA u3 q2 q4 hn4 hac;revert HH;revert n4;revert out3;refine zjK (γ:=Array Keyed) (δ:=Nat) (λo n=>Up (Le f) a.toList b.toList o.toList.reverse n (m3+1)/\0<n/\n<=a.size/\(∀(h:n-1<a.size),f b[m3] a[n-1]=false)/\y+(n-1+m3)<=n2+m2) ?_ (λout3 n4 ⟨u4,c1,c3,q5,q6,nA,hac⟩ hk0 key=>?_) λout3 n4 ⟨u4,c1,c3,q5,q6,nA,hac⟩ hk0=>?_
    rotate_left
    ·have er:(a.toList.take n4).drop i1++out3.toList.reverse=(out3++(a.extract i1 n4).reverse).toList.reverse:=by
      rw[Array.toList_append,Array.toList_reverse,List.reverse_append,List.reverse_reverse,zmz]
     rw[er]at u4;clear er;by_cases e1:(i1 == 0)=true
     ·rw[if_pos e1];refine wpS_pure ⟨hs4,.inl ⟨_,rfl,?_⟩⟩;rw[Array.toList_append,Array.toList_append,zbk,zbk,Array.toList_reverse];exact u4.znO (by simpa using e1)
     rw[if_neg e1];have e1:¬ i1=0:=by simpa using e1
     exact key _ _ ⟨u4,by lia,by lia,λh=>c3 _ h (by lia),by lia⟩
    ·have hk0:i1=n4:=by lia
     subst hk0;have en:(a.toList.take i1).drop i1=[]:=List.drop_of_length_le (by rw[List.length_take];lia);rw[en,List.nil_append]at u4;exact⟨u4,q6,by lia,λh=>c3 _ h (by lia),q5⟩
    rintro outX n5 ⟨u4,p1,p2,fX',qX⟩;obtain⟨nX,rfl⟩:∃nX,n5=nX+1:=⟨n5-1,by lia⟩;have gX:nX<a.size:=by lia
    have fX:f b[m3] a[nX]=false:=fX' gX;have qX:y+(nX+m3)<=n2+m2:=qX;clear fX' p1 p2;have u5:=stB u4 gX q3 fX;have er:b[m3]::outX.toList.reverse=(outX.push b[m3]).toList.reverse:=by simp
    rw[er]at u5;clear er;refine wpS_bind (zav (gb q3) ?_);simp only[Nat.add_sub_cancel];generalize outX.push b[m3]=outY at u5;by_cases e3:(m3 == 1)=true
    ·rw[if_pos e3];refine wpS_pure ⟨hs4,.inl ⟨_,rfl,?_⟩⟩;rw[Array.toList_append,Array.toList_append,zbk,zbk,Array.toList_reverse];exact fst u5 (by simpa using e3)
    rw[if_neg e3];have e3:¬ m3=1:=by simpa using e3
    have nB:0+m3<=b.size:=by lia
    refine wpS_bind (zav (ga gX) (wpS_bind ?_));refine zfN C (l:=true) (key:=a[nX]) (a:=b) (b:=0) (n:=m3) (h:=m3-1) (by lia) nB hPb (Pa gX) hk4 (zeQ T nB hPb (Pa gX) sb) λi2 cut2=>?_;have d1:=cut2.le;have d2:∀(j:Nat) (h:j<b.size),i2<=j->j<m3->f b[j] a[nX]=false:=λj h h1 h2=>by
     have:=cut2.above j h1 h2;rw[zbG (by lia)]at this;simpa using this
    have d3:∀(j:Nat) (h:j<b.size),j<i2->f b[j] a[nX]=true:=λj h h1=>by
     have:=cut2.below j h1;rw[zbG (by lia)]at this;simpa using this
    have u6:=u5.runB d1 λz hz x hx=>by
     obtain⟨j,hj,h1,h2,rfl⟩:=mem_mid hx;exact zgy T hPa sa gX (Pb hj) (d2 j hj h1 h2) z hz
    clear cut2 d2 u5 u4;dsimp only;have q7:y+1+(nX+(m3-1))<=n2+m2:=by lia
    have q8:2<=m3:=by lia
    clear fX e3 qX;generalize m3=m4 at u6 d1 q7 q8 nB ⊢;generalize hbc:m4-i2=bc4;have HH:=And.intro u6 (And.intro d1 (And.intro q7 (And.intro q8 (And.intro nB hbc))));clear u6 d1 q7 q8 nB hbc;revert HH;revert m4;revert outY;refine zjK (γ:=Array Keyed) (δ:=Nat) (λo m=>Up (Le f) a.toList b.toList o.toList.reverse (nX+1) m/\2<=m/\m<=b.size/\(∀(h:m-1<b.size),f b[m-1] a[nX]=true)/\y+1+(nX+(m-1))<=n2+m2) ?_ (λoutY m4 ⟨u6,d1,q7,q8,nB,hbc⟩ hk2 key=>?_) λoutY m4 ⟨u6,d1,q7,q8,nB,hbc⟩ hk2=>?_
    rotate_left
    ·have er:(b.toList.take m4).drop i2++outY.toList.reverse=(outY++(b.extract i2 m4).reverse).toList.reverse:=by
      rw[Array.toList_append,Array.toList_reverse,List.reverse_append,List.reverse_reverse,zmz]
     rw[er]at u6;clear er;by_cases e4:(i2 == 1)=true
     ·rw[if_pos e4];refine wpS_pure ⟨hs4,.inl ⟨_,rfl,?_⟩⟩;rw[Array.toList_append,Array.toList_append,zbk,zbk,Array.toList_reverse];exact fst u6 (by simpa using e4)
     rw[if_neg e4];have e4:¬ i2=1:=by simpa using e4
     by_cases e5:(i2 == 0)=true
     ·rw[if_pos e5];refine wpS_pure ⟨hs4,.inl ⟨_,rfl,?_⟩⟩;rw[Array.toList_append,Array.toList_append,zbk,zbk,Array.toList_reverse];exact u6.ztc (by simpa using e5)
     rw[if_neg e5];have e5:¬ i2=0:=by simpa using e5
     exact key _ _ ⟨u6,by lia,by lia,λh=>d3 _ h (by lia),by lia⟩
    ·have hk2:i2=m4:=by lia
     subst hk2;have en:(b.toList.take i2).drop i2=[]:=List.drop_of_length_le (by rw[List.length_take];lia);rw[en,List.nil_append]at u6;exact⟨u6,q8,by lia,λh=>d3 _ h (by lia),q7⟩
    rintro outZ m5 ⟨u6,p1,p2,fZ',qZ⟩;obtain⟨mZ,rfl⟩:∃mZ,m5=mZ+1:=⟨m5-1,by lia⟩;have gZ:mZ<b.size:=by lia
    have fZ:f b[mZ] a[nX]=true:=fZ' gZ;have g1Z:1<=mZ:=by lia
    have qZ:y+1+(nX+mZ)<=n2+m2:=qZ;have u7:=stA u6 gX gZ fZ;have er:a[nX]::outZ.toList.reverse=(outZ.push a[nX]).toList.reverse:=by simp
    rw[er]at u7;clear er;refine wpS_bind (zav (ga gX) ?_);by_cases e6:(nX == 0)=true
    ·rw[if_pos e6];refine wpS_pure ⟨hs4,.inl ⟨_,rfl,?_⟩⟩;rw[Array.toList_append,Array.toList_append,zbk,zbk,Array.toList_reverse];exact u7.znO (by simpa using e6)
    rw[if_neg e6];have e6:¬ nX=0:=by simpa using e6
    obtain⟨nW,rfl⟩:∃nW,nX=nW+1:=⟨nX-1,by lia⟩;split
    ·exact wpS_pure ⟨hs4,.inr ⟨_,_,_,_,_,_,rfl,u7,g1Z,by lia,gZ,by lia⟩⟩
    ·exact wpS_pure ⟨hs4,_,_,_,_,_,_,rfl,u7,g1Z,by lia,gZ,by lia⟩
end
noncomputable def mAt:Nat->StateT SortSt Sem Bool:=sortPriv% PySem.Builtin.mergeAt
theorem zjL {α:Type}:∀(m:List α)(a:Array α)(s n:Nat),s+n+m.length<=a.size->((m.zipIdx n).foldl (λa (p:α×Nat)=>a.setIfInBounds (s+p.2) p.1) a).toList=a.toList.take (s+n)++m++a.toList.drop (s+n+m.length)
 | [],a,s,n,h=>by simp
 | x::m,a,s,n,h=>by
  rw[List.zipIdx_cons,List.foldl_cons,zjL m _ s (n+1) (by simp at h ⊢;lia)];simp only[Array.toList_setIfInBounds,List.length_cons]at h ⊢;have hs:s+n<a.toList.length:=by simp;lia
  rw[List.take_set,List.drop_set_of_lt (by lia)];have e1:(a.toList.take (s+(n+1))).set (s+n) x=a.toList.take (s+n)++[x]:=by
   rw[show s+(n+1)=s+n+1 by lia,List.take_add_one,List.getElem?_eq_getElem hs];rw[List.set_append_right _ _ (by rw[List.length_take];lia)];rw[List.length_take,Nat.min_eq_left (Nat.le_of_lt hs),Nat.sub_self];rfl
  rw[e1,show s+(n+1)+m.length=s+n+(m.length+1) by lia];simp
theorem joined {f:Keyed->Keyed->Bool}{P:Keyed->Prop}(T:Tot f P){A0 A1 B0 B1 m:List Keyed}(hP:∀x∈A0++A1++(B0++B1),P x)(sa:(A0++A1).Pairwise (Le f))(sb:(B0++B1).Pairwise (Le f))(g:Good (Le f) A1 B0 m)
  (h1:∀x∈A0,∀y∈B0++B1,Le f x y) (h2:∀x∈A1,∀y∈B1,Le f x y):(A0++m++B1).Pairwise (Le f)/\(A0++m++B1).Perm (A0++A1++(B0++B1)):=by
 have a:=List.pairwise_append.mp sa;have b:=List.pairwise_append.mp sb;refine⟨?_,?_⟩
 ·rw[List.append_assoc,List.pairwise_append,List.pairwise_append];refine⟨a.1,⟨g.so,b.2.1,λx hx y hy=>?_⟩,λx hx y hy=>?_⟩
  ·rcases List.mem_append.mp (g.pm.mem_iff.mp hx)with h | h
   ·exact h2 x h y hy
   ·exact b.2.2 x h y hy
  ·rcases List.mem_append.mp hy with hy | hy
   ·rcases List.mem_append.mp (g.pm.mem_iff.mp hy)with h | h
    ·exact a.2.2 x hx y h
    ·exact h1 x hx y (List.mem_append.mpr (.inl h))
   ·exact h1 x hx y (List.mem_append.mpr (.inr hy))
 ·rw[List.append_assoc,List.append_assoc];refine List.Perm.append_left _ ?_;rw[<- List.append_assoc];exact List.Perm.append_right _ g.pm
section
variable {prog:Program}{w:World}{A:Around}{E:Value->Shared->Prop}{s:Shared}{k:SortKind}{P:Keyed->Prop}{f:Keyed->Keyed->Bool}
theorem zrZ {x:SortSt}{Q:PUnit->SortSt->Prop}{st:SortSt}(h:Q ⟨⟩ x):wpS (model prog w) A E s (set x:StateT SortSt Sem PUnit) Q st:=by
 unfold wpS;rw[StateT.run_set];exact wpAny_pure ⟨rfl,h⟩
noncomputable def Run (f:Keyed->Keyed->Bool)(a:Array Keyed)(lo hi:Nat):Prop:=∀(i j:Nat)(hj:j<a.size)(hij:i<j),lo<=i->j<hi->Le f (a[i]'(by lia)) a[j]
theorem zjM (T:Tot f P){l:Bool}{key:Keyed}{a:Array Keyed}{b n:Nat}(hn:b+n<=a.size)(hP:∀(j:Nat) x,a[j]? = some x->P x)(hk:P key)(hs:Run f a b (b+n)):∀i j,i<=j->j<n->beyB f l key a b j=true->beyB f l key a b i=true:=by
 intro i j hij hj h;rcases Nat.lt_or_eq_of_le hij with hlt | rfl
 ·have hi':b+i<a.size:=by lia
  have hj':b+j<a.size:=by lia
  have pi:P a[b+i]:=hP _ _ (getElem?_pos a _ hi');have pj:P a[b+j]:=hP _ _ (getElem?_pos a _ hj');have hle:Le f a[b+i] a[b+j]:=hs _ _ hj' (by lia) (by lia) (by lia);rw[zbG hj']at h;rw[zbG hi'];cases l with
  | true=>
   simp only[if_true]at h ⊢;cases hc:f a[b+i] key with
   | true=>rfl
   | false=>rw[T.tr key a[b+i] a[b+j] hk pi pj hc hle]at h;cases h
  | false=>
   simp only[Bool.false_eq_true,if_false]at h ⊢;have h:f key a[b+j]=false:=by simpa using h
   rw[T.tr a[b+i] a[b+j] key pi pj hk hle h];rfl
 ·exact h
theorem zmA {a:Array Keyed}{lo n:Nat}(hs:Run f a lo (lo+n))(hn:lo+n<=a.size):((a.toList.drop lo).take n).Pairwise (Le f):=by
 rw[List.pairwise_iff_getElem];intro i j hi hj hij;rw[List.length_take,List.length_drop,Array.length_toList]at hi hj;have:=hs (lo+i) (lo+j) (by lia) (by lia) (by lia) (by lia);simpa using this
theorem zcP (T:Tot f P){x:Keyed}(hx:P x):Le f x x:=by
 cases h:f x x with
 | false=>exact h
 | true=>have:=T.asym x x hx hx h;rw[h]at this;cases this
theorem zsa (C:Cmp prog w A E s k P f)(T:Tot f P){i sa na pw nb pw2:Nat}{Q:Bool->SortSt->Prop}{st:SortSt}(hst:kindOf st=k)(hfl:failedOf st=none)(h1:(pendingOf st)[i]? = some (sa,na,pw))(h2:(pendingOf st)[i+1]? = some (sa+na,nb,pw2))(hna:0<na)(hnb:0<nb)
  (hsz:sa+na+nb<=(arrOf st).size) (hP:∀(j:Nat) x,(arrOf st)[j]? = some x->P x) (r1:Run f (arrOf st) sa (sa+na)) (r2:Run f (arrOf st) (sa+na) (sa+na+nb))
  (hQ:∀st' S,kindOf st'=k->failedOf st'=none->pendingOf st'=((pendingOf st).setIfInBounds i (sa,na+nb,pw)).eraseIdxIfInBounds (i+1)->S.Pairwise (Le f)->S.Perm (((arrOf st).toList.drop sa).take (na+nb))->
   (arrOf st').toList=(arrOf st).toList.take sa++S++(arrOf st).toList.drop (sa+na+nb)->Q true st'):wpS (model prog w) A E s (mAt i) Q st:=by
 refine wpS_bind (wpS_get ?_);rw[h1,h2];dsimp only;refine wpS_bind (zrZ ?_);dsimp only[arrOf]at hsz hP r1 r2 hQ;generalize harr:(sortPriv% PySem.Builtin.SortState.a) st=a at *;have hl:a.toList.length=a.size:=Array.length_toList;have ga:∀ {i:Nat},(hi:i<a.size)->a[i]? = some a[i]:=λ{i} hi=>getElem?_pos a i hi;have Pa:∀ {i:Nat},(hi:i<a.size)->P a[i]:=λ{i} hi=>hP i _ (ga hi);have pl:=zfm hP;have hb0:sa+na<a.size:=by lia
 refine wpS_bind (zav (ga hb0) (wpS_bind ?_));refine zfN C (l:=false) (key:=a[sa+na]) (a:=a) (b:=sa) (n:=na) (h:=0) (by lia) (by lia) hP (Pa hb0) hst (zjM T (by lia) hP (Pa hb0) r1) λk1 cut=>?_;have c1:=cut.le;have c2:∀(j:Nat) (h:sa+j<a.size),j<k1->Le f a[sa+j] a[sa+na]:=λj h hj=>by
  have:=cut.below j hj;rw[zbG h]at this;simpa using this
 have c3:k1<na->f a[sa+na] (a[sa+k1]'(by lia))=true:=λhj=>by
  have:=cut.above k1 (Nat.le_refl _) hj;rw[zbG (by lia)]at this;simpa using this
 have eA:(a.toList.drop sa).take na=(a.toList.drop sa).take k1++(a.toList.drop (sa+k1)).take (na-k1):=by
  have:=List.take_add (l:=a.toList.drop sa) (i:=k1) (j:=na-k1);rw[List.drop_drop]at this;rw[<- this];congr 1;lia
 have eS:(a.toList.drop sa).take (na+nb)=(a.toList.drop sa).take na++(a.toList.drop (sa+na)).take nb:=by
  rw[List.take_add,List.drop_drop]
 have eT:a.toList.take (sa+k1)=a.toList.take sa++(a.toList.drop sa).take k1:=List.take_add;have pA:=zmA r1 (by lia);have pB:=zmA r2 (by lia);have leB:∀x,P x->Le f x a[sa+na]->∀y∈(a.toList.drop (sa+na)).take nb,Le f x y:=λx px hx y hy=>by
  obtain⟨j,hj,hjn,rfl⟩:=zde (by lia) hy;rcases Nat.eq_zero_or_pos j with rfl | h0
  ·exact hx
  ·exact T.tr _ _ _ px (Pa hb0) (Pa hj) hx (r2 _ _ hj (by lia) (by lia) (by lia))
 have hA0:∀x∈(a.toList.drop sa).take k1,∀y∈(a.toList.drop (sa+na)).take nb,Le f x y:=λx hx=>by
  obtain⟨j,hj,hjk,rfl⟩:=zde (by lia) hx;exact leB _ (Pa hj) (c2 j hj hjk)
 dsimp only;by_cases e1:(na-k1 == 0)=true
 ·rw[if_pos e1];have e1:na-k1=0:=by simpa using e1
  have ek:k1=na:=by lia
  subst ek;refine wpS_pure (hQ _ ((a.toList.drop sa).take (k1+nb)) hst hfl rfl ?_ (.refl _) ?_)
  ·rw[eS,List.pairwise_append];exact⟨pA,pB,hA0⟩
  ·show a.toList=_;rw[Nat.add_assoc,<- List.drop_drop,List.append_assoc,List.take_append_drop,List.take_append_drop]
 rw[if_neg e1];have e1:¬ na-k1=0:=by simpa using e1
 have elast:sa+k1+(na-k1)-1=sa+na-1:=by lia
 rw[elast];have hla:sa+na-1<a.size:=by lia
 refine wpS_bind (zav (ga hla) (wpS_bind ?_));refine zfN C (l:=true) (key:=a[sa+na-1]) (a:=a) (b:=sa+na) (n:=nb) (h:=nb-1) (by lia) (by lia) hP (Pa hla) hst (zjM T (by lia) hP (Pa hla) r2) λk2 cut2=>?_;have d1:=cut2.le;have d2:∀(j:Nat) (h:sa+na+j<a.size),j<k2->f a[sa+na+j] a[sa+na-1]=true:=λj h hj=>by
  have:=cut2.below j hj;rw[zbG h]at this;simpa using this
 have d3:∀(j:Nat) (h:sa+na+j<a.size),k2<=j->j<nb->Le f a[sa+na-1] a[sa+na+j]:=λj h h1 h2=>by
  have:=cut2.above j h1 h2;rw[zbG h]at this;simpa using this
 have leL:∀x∈(a.toList.drop sa).take na,Le f x a[sa+na-1]:=λx hx=>by
  obtain⟨j,hj,hjn,rfl⟩:=zde (by lia) hx;by_cases e:j=na-1
  ·have:sa+j=sa+na-1:=by lia
   simp only[this];exact zcP T (Pa hla)
  ·exact r1 _ _ hla (by lia) (by lia) (by lia)
 have eB:(a.toList.drop (sa+na)).take nb=(a.toList.drop (sa+na)).take k2++(a.toList.drop (sa+na+k2)).take (nb-k2):=by
  have:=List.take_add (l:=a.toList.drop (sa+na)) (i:=k2) (j:=nb-k2);rw[List.drop_drop]at this;rw[<- this];congr 1;lia
 have hB1:∀x∈(a.toList.drop sa).take na,∀y∈(a.toList.drop (sa+na+k2)).take (nb-k2),Le f x y:=λx hx y hy=>by
  obtain⟨j,hj,hjn,rfl⟩:=zde (by lia) hy;have px:P x:=pl x (List.mem_of_mem_drop (List.mem_of_mem_take hx));have q:=d3 (k2+j) (by lia) (by lia) (by lia);simp only[<- Nat.add_assoc]at q;exact T.tr _ _ _ px (Pa hla) (Pa hj) (leL x hx) q
 dsimp only;by_cases e2:(k2 == 0)=true
 ·rw[if_pos e2];have e2:k2=0:=by simpa using e2
  subst e2;refine wpS_pure (hQ _ ((a.toList.drop sa).take (na+nb)) hst hfl rfl ?_ (.refl _) ?_)
  ·rw[eS,List.pairwise_append];exact⟨pA,pB,hB1⟩
  ·show a.toList=_;rw[Nat.add_assoc,<- List.drop_drop,List.append_assoc,List.take_append_drop,List.take_append_drop]
 rw[if_neg e2];have e2:¬ k2=0:=by simpa using e2
 have hX:(a.extract (sa+k1) (sa+na)).toList=(a.toList.drop (sa+k1)).take (na-k1):=by
  have:=ziL a (sa+k1) (na-k1)
  rwa [show sa+k1+(na-k1)=sa+na by lia]at this
 have hY:(a.extract (sa+na) (sa+na+k2)).toList=(a.toList.drop (sa+na)).take k2:=ziL a (sa+na) k2;have sX:(a.extract (sa+k1) (sa+na)).size=na-k1:=by rw[Array.size_extract];lia
 have sY:(a.extract (sa+na) (sa+na+k2)).size=k2:=by rw[Array.size_extract];lia
 have PX:∀(j:Nat) x,(a.extract (sa+k1) (sa+na))[j]? = some x->P x:=λj x h=>by
  rw[<- Array.getElem?_toList,hX]at h;exact pl x (List.mem_of_mem_drop (List.mem_of_mem_take (List.mem_of_getElem? h)))
 have PY:∀(j:Nat) x,(a.extract (sa+na) (sa+na+k2))[j]? = some x->P x:=λj x h=>by
  rw[<- Array.getElem?_toList,hY]at h;exact pl x (List.mem_of_mem_drop (List.mem_of_mem_take (List.mem_of_getElem? h)))
 have pA':=pA;rw[eA]at pA';have pB':=pB;rw[eB]at pB';have soX:(a.extract (sa+k1) (sa+na)).toList.Pairwise (Le f):=by rw[hX];exact(List.pairwise_append.mp pA').2.1
 have soY:(a.extract (sa+na) (sa+na+k2)).toList.Pairwise (Le f):=by rw[hY];exact(List.pairwise_append.mp pB').1
 have f0:f ((a.extract (sa+na) (sa+na+k2))[0]'(by lia)) ((a.extract (sa+k1) (sa+na))[0]'(by lia))=true:=by
  have:=c3 (by lia);simpa using this
 have fl:∀y∈(a.extract (sa+na) (sa+na+k2)).toList,Le f y ((a.extract (sa+k1) (sa+na))[(a.extract (sa+k1) (sa+na)).size-1]'(by lia)):=λy hy=>by
  rw[hY]at hy;obtain⟨j,hj,hjn,rfl⟩:=zde (by lia) hy;have e:sa+k1+((a.extract (sa+k1) (sa+na)).size-1)=sa+na-1:=by lia
  rw[Array.getElem_extract];simp only[e];exact T.asym _ _ (Pa hj) (Pa hla) (d2 j hj hjn)
 by_cases e3:na-k1<=k2;rw[if_pos e3];refine wpS_bind (zrW C T hst (by lia) (by lia) PX PY soX soY f0 fl λm st2 g sm=>?_)
 rotate_left
 rw[if_neg e3];refine wpS_bind (zrY C T hst (by lia) (by lia) PX PY soX soY f0 fl λm st2 g sm=>?_)
 all_goals
  rw[hX,hY]at g;have lm:m.toList.length=(na-k1)+k2:=by
   rw[g.pm.length_eq,List.length_append,List.length_take,List.length_take,List.length_drop,List.length_drop];lia
  obtain⟨j1,j2⟩:=joined T (A0:=(a.toList.drop sa).take k1) (B1:=(a.toList.drop (sa+na+k2)).take (nb-k2)) (P:=P) (λx hx=>by
   rcases List.mem_append.mp hx with hx | hx<;>rcases List.mem_append.mp hx with hx | hx<;>exact pl x (List.mem_of_mem_drop (List.mem_of_mem_take hx))) pA' pB' g
   (λx hx y hy=>hA0 x hx y (by rw[eB];exact hy)) (λx hx y hy=>hB1 x (by rw[eA];exact List.mem_append.mpr (.inr hx)) y hy)
  have e4:failedOf st2=none:=by rw[sm.failed];exact hfl
  have e5:arrOf st2=a:=sm.arr;refine wpS_bind (wpS_modify (wpS_bind (wpS_get (wpS_pure ?_))));have e6:(failedOf st2).isNone=true:=by rw[e4];rfl
  show Q (failedOf st2).isNone _;rw[e6];refine hQ _ _ (by show kindOf st2=k;rw[sm.kind];exact hst) e4 (by show pendingOf st2=_;exact sm.pend) j1 (j2.trans (by rw[eS,eA,eB])) ?_;show(m.toList.zipIdx.foldl (λa (p:Keyed×Nat)=>a.setIfInBounds (sa+k1+p.2) p.1) (arrOf st2)).toList=_;rw[e5];have:=zjL m.toList a (sa+k1) 0 (by rw[lm];lia);rw[this,Nat.add_zero,lm,eT];have e7:a.toList.drop (sa+k1+(na-k1+k2))=(a.toList.drop (sa+na+k2)).take (nb-k2)++a.toList.drop (sa+na+nb):=by
   have:=(List.take_append_drop (nb-k2) (a.toList.drop (sa+na+k2))).symm;rw[List.drop_drop,show sa+na+k2+(nb-k2)=sa+na+nb by lia]at this;rw[show sa+k1+(na-k1+k2)=sa+na+k2 by lia];exact this
  rw[e7];simp only[List.append_assoc]
end
noncomputable def bin:Nat->Nat->Nat->StateT SortSt Sem Bool:=sortPriv% PySem.Builtin.binarySort
noncomputable def cnt:Nat->Nat->StateT SortSt Sem (Option Nat):=sortPriv% PySem.Builtin.countRun
section
variable {prog:Program}{w:World}{A:Around}{E:Value->Shared->Prop}{s:Shared}{k:SortKind}{P:Keyed->Prop}{f:Keyed->Keyed->Bool}
structure Moved (a a':Array Keyed)(lo hi:Nat):Prop where
 pm:a'.Perm a
 out:∀j:Nat,j<lo\/hi<=j->a'[j]? = a[j]?
theorem Moved.refl (a:Array Keyed)(lo hi:Nat):Moved a a lo hi:=⟨.refl _,λ_ _=>rfl⟩
theorem Moved.trans {a b c:Array Keyed}{lo hi:Nat}(h:Moved a b lo hi)(g:Moved b c lo hi):Moved a c lo hi:=⟨g.pm.trans h.pm,λj hj=>(g.out j hj).trans (h.out j hj)⟩
theorem Moved.size {a a':Array Keyed}{lo hi:Nat}(h:Moved a a' lo hi):a'.size=a.size:=h.pm.size_eq
theorem Moved.all {a a':Array Keyed}{lo hi:Nat}(h:Moved a a' lo hi)(hP:∀(j:Nat) x,a[j]? = some x->P x):∀(j:Nat) x,a'[j]? = some x->P x:=λj x e=>by
 have h1:x∈a'.toList:=List.mem_of_getElem? (by rw[Array.getElem?_toList];exact e);exact zfm hP x ((Array.perm_iff_toList_perm.mp h.pm).mem_iff.mp h1)
theorem zem (C:Cmp prog w A E s k P f){st:SortSt}{a:Array Keyed}{i j:Nat}{Q:Option Bool->SortSt->Prop}(hst:kindOf st=k)(ha:arrOf st=a)(hP:∀(j:Nat) x,a[j]? = some x->P x)(hi:i<a.size)(hj:j<a.size)
  (h:Q (some (f a[i] a[j])) st):wpS (model prog w) A E s (ltAt' i j) Q st:=by
 subst ha;have gi:=getElem?_pos (arrOf st) i hi;have gj:=getElem?_pos (arrOf st) j hj;rw[ltAt'_eq];refine wpS_bind (wpS_get ?_);exact wpS_bind (zav gi (wpS_bind (zav gj (C.run (hP _ _ gi) (hP _ _ gj) hst h))))
theorem zsb (C:Cmp prog w A E s k P f)(T:Tot f P){lo n ok:Nat}{Q:Bool->SortSt->Prop}{st:SortSt}(hst:kindOf st=k)(hn:lo+n<=(arrOf st).size)(hok:ok<=n)(hP:∀(j:Nat) x,(arrOf st)[j]? = some x->P x)(hr:Run f (arrOf st) lo (lo+ok))
  (hQ:∀a',Moved (arrOf st) a' lo (lo+n)->Run f a' lo (lo+n)->Q true (setArr st a')):wpS (model prog w) A E s (bin lo n ok) Q st:=by
 refine wpS_bind (wpS_mono (wpS_forRange (I:=λx c st'=>c=(none,())/\∃a',st'=setArr st a'/\Moved (arrOf st) a' lo (lo+n)/\Run f a' lo (lo+min x n))
  (Q:=λc st'=>c=(none,())/\∃a',st'=setArr st a'/\Moved (arrOf st) a' lo (lo+n)/\Run f a' lo (lo+n)) ?step ?fin ⟨rfl,arrOf st,rfl,.refl _ _ _,?ini⟩) ?post)
 case ini=>
  intro i j hj hij h1 h2;by_cases h0:ok=0
  ·lia
  ·exact hr i j hj hij h1 (by lia)
 case fin=>
  rintro c st' ⟨hc,a',e,m,r⟩;exact⟨hc,a',e,m,by rwa [show min (max (max ok 1) n) n=n by lia]at r⟩
 case post=>
  rintro c st' ⟨rfl,a',rfl,m,r⟩;exact wpS_pure (hQ a' m r)
 case step=>
  rintro x c st' hx1 hx2 ⟨rfl,a',rfl,m,r⟩;rw[show min x n=x by lia]at r;have hs:=m.size;have hx:lo+x<a'.size:=by lia
  have hP':=m.all hP;have Pa:∀ {i:Nat},(hi:i<a'.size)->P a'[i]:=λ{i} hi=>hP' i _ (getElem?_pos a' i hi);dsimp only;refine wpS_bind (wpS_mono (wpS_forRange (I:=λy c st2=>st2=setArr st a'/\∃l r,c=(none,l,r)/\l<=r/\r<=x/\r-l<=x-y/\(∀(i:Nat) (h:lo+i<a'.size),i<l->Le f a'[lo+i] a'[lo+x])/\(∀(i:Nat) (h:lo+i<a'.size),r<=i->i<x->f a'[lo+x] a'[lo+i]=true))
   (Q:=λc st2=>st2=setArr st a'/\∃l r,c=(none,l,r)/\l<=x/\(∀(i:Nat) (h:lo+i<a'.size),i<l->Le f a'[lo+i] a'[lo+x])/\(∀(i:Nat) (h:lo+i<a'.size),l<=i->i<x->f a'[lo+x] a'[lo+i]=true)) ?istep ?ifin ⟨rfl,0,x,rfl,by lia,by lia,by lia,λi _ h=>by lia,λi _ h1 h2=>by lia⟩) ?ipost)
  case ifin=>
   rintro c st2 ⟨rfl,l,r,rfl,g1,g2,g3,g4,g5⟩;have:l=r:=by lia
   subst this;exact⟨rfl,l,l,rfl,g2,g4,g5⟩
  case istep=>
   rintro y c st2 _ hy ⟨rfl,l,r2,rfl,g1,g2,g3,g4,g5⟩;dsimp only;by_cases hge:l>=r2
   ·rw[if_pos hge];have:l=r2:=by lia
    subst this;exact wpS_pure ⟨rfl,l,l,rfl,g2,g4,g5⟩
   ·rw[if_neg hge];have hmid:lo+(l+r2) / 2<a'.size:=by lia
    refine wpS_bind (zem C (st:=setArr st a') (a:=a') hst rfl hP' hx hmid ?_);cases hv:f a'[lo+x] a'[lo+(l+r2) / 2]with
    | true=>
     dsimp only;rw[if_pos rfl];refine wpS_pure ⟨rfl,l,_,rfl,by lia,by lia,by lia,g4,λi h h1 h2=>?_⟩;rcases Nat.lt_or_eq_of_le h1 with h3 | h3
     ·cases hw:f a'[lo+x] a'[lo+i]with
      | true=>rfl
      | false=>
       have:=T.tr _ _ _ (Pa hmid) (Pa h) (Pa hx) (r _ _ h (by lia) (by lia) (by lia)) hw;rw[hv]at this;cases this
     ·simp only[<- h3];exact hv
    | false=>
     dsimp only;rw[if_neg (by decide)];refine wpS_pure ⟨rfl,_,r2,rfl,by lia,by lia,by lia,λi h h1=>?_,g5⟩;rcases Nat.lt_or_eq_of_le (Nat.le_of_lt_succ h1)with h3 | h3
     ·exact T.tr _ _ _ (Pa h) (Pa hmid) (Pa hx) (r _ _ hmid (by lia) (by lia) (by lia)) hv
     ·simp only[h3];exact hv
  case ipost=>
   rintro c st2 ⟨rfl,l,r2,rfl,g1,g4,g5⟩;dsimp only;have hd:lo+x-(lo+l)=x-l:=by lia
   have gt:∀(i:Nat) (h:i<(bubble a' (lo+x) (lo+x-(lo+l))).size),∃i',∃h':i'<a'.size,(bubble a' (lo+x) (lo+x-(lo+l)))[i]=a'[i']/\((i=lo+l/\i'=lo+x)\/(lo+l<i/\i<=lo+x/\i'=i-1)\/((i<lo+l\/lo+x<i)/\i'=i)):=λi h=>by
    have e:=getElem?_bubble hx (lo+x-(lo+l)) (by lia) i;rw[bubble_size]at h;rw[getElem?_pos _ i (by rw[bubble_size];exact h),show lo+x-(lo+x-(lo+l))=lo+l by lia]at e;by_cases h1:i=lo+l
    ·rw[if_pos h1,getElem?_pos a' _ hx]at e;exact⟨lo+x,hx,Option.some.inj e,.inl ⟨h1,rfl⟩⟩
    ·rw[if_neg h1]at e;by_cases h2:lo+l<i/\i<=lo+x
     ·rw[if_pos h2,getElem?_pos a' (i-1) (by lia)]at e;exact⟨i-1,by lia,Option.some.inj e,.inr (.inl ⟨h2.1,h2.2,rfl⟩)⟩
     ·rw[if_neg h2,getElem?_pos a' i h]at e;exact⟨i,h,Option.some.inj e,.inr (.inr ⟨by lia,rfl⟩)⟩
   refine wpS_bind (wpS_modify (wpS_pure ⟨rfl,bubble a' (lo+x) (lo+x-(lo+l)),rfl,m.trans ⟨bubble_perm _ _ _,λj hj=>?_⟩,?_⟩))
   ·rw[getElem?_bubble hx _ (by lia),if_neg (by lia),if_neg (by lia)]
   ·rw[show min (x+1) n=x+1 by lia];intro i j hj hij h1 h2;obtain⟨i',hi',ei,ci⟩:=gt i (by lia);obtain⟨j',hj',ej,cj⟩:=gt j hj;rw[ei,ej];rcases ci with ⟨c1,rfl⟩ | ⟨c1,c2,rfl⟩ | ⟨c1,rfl⟩<;>rcases cj with ⟨d1,rfl⟩ | ⟨d1,d2,rfl⟩ | ⟨d1,rfl⟩
    ·lia
    ·have q:=g5 (j-1-lo) (by lia) (by lia) (by lia);simp only[show lo+(j-1-lo)=j-1 by lia]at q;exact T.asym _ _ (Pa hx) (Pa hj') q
    ·lia
    ·lia
    ·exact r _ _ hj' (by lia) (by lia) (by lia)
    ·lia
    ·have q:=g4 (i'-lo) (by lia) (by lia);simp only[show lo+(i'-lo)=i' by lia]at q;exact q
    ·exact r _ _ hj' (by lia) (by lia) (by lia)
    ·exact r _ _ hj' (by lia) (by lia) (by lia)
end
section
variable {prog:Program}{w:World}{A:Around}{E:Value->Shared->Prop}{s:Shared}{k:SortKind}{P:Keyed->Prop}{f:Keyed->Keyed->Bool}
noncomputable def Dec (f:Keyed->Keyed->Bool)(a:Array Keyed)(lo hi:Nat):Prop:=∀(i j:Nat)(hj:j<a.size)(hij:i<j),lo<=i->j<hi->Le f a[j] (a[i]'(by lia))
noncomputable def Alike (f:Keyed->Keyed->Bool)(a:Array Keyed)(p q:Nat):Prop:=∀(i j:Nat)(hi:i<a.size)(hj:j<a.size),p<=i->i<q->p<=j->j<q->Le f a[i] a[j]
noncomputable abbrev rev (a:Array Keyed)(i j:Nat):Array Keyed:=mirror a i j ((j-i) / 2)
theorem zjN {a:Array Keyed}{p q:Nat}(hq:q<=a.size)(i:Nat)(h:i<(rev a p q).size):∃i',∃h':i'<a.size,(rev a p q)[i]=a[i']/\((p<=i/\i<q/\i'=p+q-1-i)\/((i<p\/q<=i)/\i'=i)):=by
 have e:=getElem?_mirror_all (i:=p) hq i;rw[getElem?_pos _ i h]at e;rw[mirror_size]at h;by_cases h1:p<=i/\i<q
 ·rw[if_pos h1,getElem?_pos a _ (show p+q-1-i<a.size by lia)]at e;exact⟨_,by lia,Option.some.inj e,.inl ⟨h1.1,h1.2,rfl⟩⟩
 ·rw[if_neg h1,getElem?_pos a i h]at e;exact⟨i,h,Option.some.inj e,.inr ⟨by lia,rfl⟩⟩
theorem zdH {a:Array Keyed}{p q lo hi:Nat}(hq:q<=a.size)(h1:lo<=p)(h2:q<=hi):Moved a (rev a p q) lo hi:=⟨mirror_perm _ _ _ _,λj hj=>by rw[getElem?_mirror_all hq,if_neg (by lia)]⟩
theorem zpP {a:Array Keyed}{p q:Nat}(hq:q<=a.size)(h:Dec f a p q):Run f (rev a p q) p q:=by
 intro i j hj hij h1 h2;obtain⟨i',hi',ei,ci⟩:=zjN (p:=p) hq i (by lia);obtain⟨j',hj',ej,cj⟩:=zjN hq j hj;rw[ei,ej];rcases ci with ⟨c1,c2,rfl⟩ | ⟨c1,rfl⟩<;>rcases cj with ⟨d1,d2,rfl⟩ | ⟨d1,rfl⟩
 ·exact h _ _ hi' (by lia) (by lia) (by lia)
 all_goals lia
theorem ziN {a:Array Keyed}{lo hi p q:Nat}(hh:hi<=a.size)(h1:lo<=p)(h2:q<=hi)(h:Dec f a lo hi)(e:Alike f a p q):Dec f (rev a p q) lo hi:=by
 intro i j hj hij g1 g2;have hqa:q<=a.size:=by lia
 obtain⟨i',hi',ei,ci⟩:=zjN (p:=p) hqa i (by lia);obtain⟨j',hj',ej,cj⟩:=zjN hqa j hj;rw[ei,ej];rcases ci with ⟨c1,c2,rfl⟩ | ⟨c1,rfl⟩<;>rcases cj with ⟨d1,d2,rfl⟩ | ⟨d1,rfl⟩
 ·exact e _ _ hj' hi' (by lia) (by lia) (by lia) (by lia)
 ·exact h _ _ hj' (by lia) (by lia) (by lia)
 ·exact h _ _ hj' (by lia) (by lia) (by lia)
 ·exact h _ _ hj' (by lia) (by lia) (by lia)
theorem Run.more (T:Tot f P){a:Array Keyed}(hP:∀(j:Nat) x,a[j]? = some x->P x){lo n:Nat}(h0:1<=n)(hn:lo+n<a.size)(h:Run f a lo (lo+n))(hf:f a[lo+n] (a[lo+n-1]'(by lia))=false):Run f a lo (lo+(n+1)):=by
 intro i j hj hij h1 h2;have Pa:∀ {i:Nat},(hi:i<a.size)->P a[i]:=λ{i} hi=>hP i _ (getElem?_pos a i hi);by_cases e:j=lo+n
 ·subst e;by_cases e2:i=lo+n-1
  ·subst e2;exact hf
  ·exact T.tr _ _ _ (Pa _) (Pa (show lo+n-1<a.size by lia)) (Pa hj) (h i (lo+n-1) (by lia) (by lia) h1 (by lia)) hf
 ·exact h i j hj hij h1 (by lia)
theorem Dec.more (T:Tot f P){a:Array Keyed}(hP:∀(j:Nat) x,a[j]? = some x->P x){lo n:Nat}(h0:1<=n)(hn:lo+n<a.size)(h:Dec f a lo (lo+n))(hf:Le f a[lo+n] (a[lo+n-1]'(by lia))):Dec f a lo (lo+(n+1)):=by
 intro i j hj hij h1 h2;have Pa:∀ {i:Nat},(hi:i<a.size)->P a[i]:=λ{i} hi=>hP i _ (getElem?_pos a i hi);by_cases e:j=lo+n
 ·subst e;by_cases e2:i=lo+n-1
  ·subst e2;exact hf
  ·exact T.tr _ _ _ (Pa hj) (Pa (show lo+n-1<a.size by lia)) (Pa _) hf (h i (lo+n-1) (by lia) (by lia) h1 (by lia))
 ·exact h i j hj hij h1 (by lia)
theorem Alike.more (T:Tot f P){a:Array Keyed}(hP:∀(j:Nat) x,a[j]? = some x->P x){p q:Nat}(hp:p<q)(hq:q<a.size)(h:Alike f a p q)(h1:Le f a[q] (a[q-1]'(by lia)))(h2:Le f (a[q-1]'(by lia)) a[q]):Alike f a p (q+1):=by
 intro i j hi hj g1 g2 g3 g4;have Pa:∀ {i:Nat},(hi:i<a.size)->P a[i]:=λ{i} hi=>hP i _ (getElem?_pos a i hi);have hq1:q-1<a.size:=by lia
 by_cases e1:i=q
 ·subst e1;by_cases e2:j=i
  ·subst e2;exact zcP T (Pa hi)
  ·exact T.tr _ _ _ (Pa hi) (Pa hq1) (Pa hj) h1 (h _ _ hq1 hj (by lia) (by lia) g3 (by lia))
 ·by_cases e2:j=q
  ·subst e2;exact T.tr _ _ _ (Pa hi) (Pa hq1) (Pa hj) (h _ _ hi hq1 g1 (by lia) (by lia) (by lia)) h2
  ·exact h i j hi hj g1 (by lia) g3 (by lia)
theorem zfn (T:Tot f P){a:Array Keyed}(hP:∀(j:Nat) x,a[j]? = some x->P x){p q:Nat}(h:q=p+1):Alike f a p q:=by
 intro i j hi hj g1 g2 g3 g4;have:i=j:=by lia
 subst this;exact zcP T (hP i _ (getElem?_pos a i hi))
theorem zsc (C:Cmp prog w A E s k P f)(T:Tot f P){lo n:Nat}{Q:Option Nat->SortSt->Prop}{st:SortSt}(hst:kindOf st=k)(h0:1<=n)(hn:lo+n<=(arrOf st).size)(hP:∀(j:Nat) x,(arrOf st)[j]? = some x->P x)
  (hQ:∀a' m,1<=m->m<=n->Moved (arrOf st) a' lo (lo+n)->Run f a' lo (lo+m)->Q (some m) (setArr st a')):wpS (model prog w) A E s (cnt lo n) Q st:=by
 refine wpS_bind (wpS_mono (wpS_forRange (I:=λx c st'=>st'=st/\c=(none,x)/\x<=n/\Run f (arrOf st) lo (lo+x))
  (Q:=λc st'=>st'=st/\∃x,c=(none,x)/\1<=x/\x<=n/\Run f (arrOf st) lo (lo+x)/\(x<n->∃h:lo+x<(arrOf st).size,f (arrOf st)[lo+x] ((arrOf st)[lo+x-1]'(by lia))=true)) ?step ?fin ⟨rfl,rfl,h0,λi j _ _ _ _=>by lia⟩) ?post)
 case fin=>
  rintro c st' ⟨rfl,rfl,h1,h2⟩;exact⟨rfl,_,rfl,by lia,h1,h2,λh=>by lia⟩
 case step=>
  rintro x c st' hx1 hx2 ⟨rfl,rfl,h1,h2⟩;dsimp only;refine wpS_bind (zem C hst rfl hP (show lo+x<(arrOf st').size by lia) (show lo+x-1<(arrOf st').size by lia) ?_);cases hv:f ((arrOf st')[lo+x]'(by lia)) ((arrOf st')[lo+x-1]'(by lia))with
  | true=>
   dsimp only;rw[if_pos rfl];exact wpS_pure ⟨rfl,x,rfl,hx1,by lia,h2,λ_=>⟨by lia,hv⟩⟩
  | false=>
   dsimp only;rw[if_neg (by decide)];exact wpS_pure ⟨rfl,rfl,by lia,h2.more T hP hx1 (by lia) hv⟩
 case post=>
  rintro c st' ⟨rfl,x,rfl,h1,h2,h3,h4⟩;dsimp only;have Pa:∀ {i:Nat},(hi:i<(arrOf st').size)->P (arrOf st')[i]:=λ{i} hi=>hP i _ (getElem?_pos (arrOf st') i hi);by_cases e1:(x == n)=true
  ·rw[if_pos e1];have e1:x=n:=by simpa using e1
   exact wpS_pure (hQ (arrOf st') x h1 h2 (.refl _ _ _) h3)
  rw[if_neg e1];have e1:¬ x=n:=by simpa using e1
  obtain⟨hx,hv⟩:=h4 (by lia);have hx1:lo+x-1<(arrOf st').size:=by lia
  have hdn:Le f (arrOf st')[lo+x] (arrOf st')[lo+x-1]:=T.asym _ _ (Pa hx) (Pa hx1) hv;by_cases e2:x > 1;rw[if_pos e2];refine wpS_bind (zem C hst rfl hP (show lo<(arrOf st').size by lia) hx1 ?_);cases hw:f ((arrOf st')[lo]'(by lia)) (arrOf st')[lo+x-1]with
  | true=>
   dsimp only;rw[if_pos rfl];exact wpS_pure (hQ (arrOf st') x h1 h2 (.refl _ _ _) h3)
  | false=>?_
  dsimp only;rw[if_neg (by decide)];have al:Alike f (arrOf st') lo (lo+x):=λi j hi hj g1 g2 g3 g4=>by
   rcases Nat.lt_trichotomy i j with h | h | h
   ·exact h3 i j hj h g1 g4
   ·subst h;exact zcP T (Pa hi)
   ·have q1:Le f (arrOf st')[i] (arrOf st')[lo+x-1]:=by
     by_cases e:i=lo+x-1
     ·subst e;exact zcP T (Pa hi)
     ·exact h3 _ _ hx1 (by lia) g1 (by lia)
    have hlo:lo<(arrOf st').size:=by lia
    have q2:Le f (arrOf st')[lo] (arrOf st')[j]:=by
     by_cases e:j=lo
     ·subst e;exact zcP T (Pa hj)
     ·exact h3 _ _ hj (by lia) (by lia) (by lia)
    exact T.tr _ _ _ (Pa hi) (Pa hx1) (Pa hj) q1 (T.tr _ _ _ (Pa hx1) (Pa hlo) (Pa hj) hw q2)
  have dc:Dec f (arrOf st') lo (lo+x):=λi j hj hij g1 g2=>al j i hj (by lia) (by lia) g2 g1 (by lia);refine wpS_bind (wpS_modify ?_);obtain⟨a1,m1,D1,hg⟩:∃a1,Moved (arrOf st') a1 lo (lo+n)/\Dec f a1 lo (lo+(x+1))/\setArr st' (rev (arrOf st') lo (lo+x))=setArr st' a1:=
   ⟨_,zdH (by lia) (by lia) (by lia),ziN (by lia) (by lia) (by lia) (dc.more T hP h1 hx hdn) al,rfl⟩
  show wpS _ _ _ _ _ _ (setArr st' (rev (arrOf st') lo (lo+x)));rw[hg];clear hg al dc hw
  rotate_left
  rw[if_neg e2];obtain⟨a1,m1,D1,hg⟩:∃a1,Moved (arrOf st') a1 lo (lo+n)/\Dec f a1 lo (lo+(x+1))/\setArr st' (arrOf st')=setArr st' a1:=
   ⟨_,.refl _ _ _,Dec.more T hP h1 hx (λi j _ _ _ _=>by lia) hdn,rfl⟩
  show wpS _ _ _ _ _ _ (setArr st' (arrOf st'));rw[hg];clear hg
  all_goals
   refine wpS_bind (wpS_lift (wpAny_rule ⟨rfl,?_⟩));refine wpS_bind (wpS_mono (wpS_forRange
    (I:=λy c st2=>∃a2 neq,st2=setArr st' a2/\c=(none,y,neq)/\y<=n/\neq<y/\Moved (arrOf st') a2 lo (lo+n)/\Dec f a2 lo (lo+y)/\Alike f a2 (lo+y-(neq+1)) (lo+y))
    (Q:=λc st2=>∃a2 y neq,st2=setArr st' a2/\c=(none,y,neq)/\x+1<=y/\y<=n/\neq<y/\Moved (arrOf st') a2 lo (lo+n)/\Dec f a2 lo (lo+y)/\Alike f a2 (lo+y-(neq+1)) (lo+y)) ?step2 ?fin2 ⟨a1,0,rfl,rfl,by lia,by lia,m1,D1,zfn T (m1.all hP) (by lia)⟩) ?post2)
   case fin2=>
    rintro c st2 ⟨a2,neq,rfl,rfl,g1,g2,g3,g4,g5⟩;exact⟨a2,_,neq,rfl,rfl,by lia,g1,g2,g3,g4,g5⟩
   case step2=>
    rintro y c st2 hy1 hy2 ⟨a2,neq,rfl,rfl,g1,g2,g3,g4,g5⟩;have hs2:=g3.size;have hP2:=g3.all hP;have hy:lo+y<a2.size:=by lia
    have hyp:lo+y-1<a2.size:=by lia
    have Pb:∀ {i:Nat},(hi:i<a2.size)->P a2[i]:=λ{i} hi=>hP2 i _ (getElem?_pos a2 i hi);dsimp only;refine wpS_bind (zem C (st:=setArr st' a2) (a:=a2) hst rfl hP2 hy hyp ?_);cases hc:f a2[lo+y] a2[lo+y-1]with
    | true=>
     dsimp only;rw[if_pos rfl];have D2:=g4.more T hP2 (by lia) hy (T.asym _ _ (Pb hy) (Pb hyp) hc);by_cases hq:neq > 0
     ·rw[if_pos hq];have m2:=g3.trans (zdH (p:=lo+y-(neq+1)) (q:=lo+y) (lo:=lo) (hi:=lo+n) (show lo+y<=a2.size by lia) (by lia) (by lia));have D3:=ziN (p:=lo+y-(neq+1)) (q:=lo+y) (show lo+(y+1)<=a2.size by lia) (by lia) (by lia) D2 g5;exact wpS_bind (wpS_modify (wpS_pure ⟨rev a2 (lo+y-(neq+1)) (lo+y),0,rfl,rfl,by lia,by lia,m2,D3,zfn T (m2.all hP) (by lia)⟩))
     ·rw[if_neg hq];exact wpS_pure ⟨a2,0,rfl,rfl,by lia,by lia,g3,D2,zfn T hP2 (by lia)⟩
    | false=>
     dsimp only;rw[if_neg (by decide)];refine wpS_bind (zem C (st:=setArr st' a2) (a:=a2) hst rfl hP2 hyp hy ?_);cases hd:f a2[lo+y-1] a2[lo+y]with
     | true=>
      dsimp only;rw[if_pos rfl];exact wpS_pure ⟨a2,y,neq,rfl,rfl,by lia,by lia,g2,g3,g4,g5⟩
     | false=>
      dsimp only;rw[if_neg (by decide)];have D2:=g4.more T hP2 (by lia) hy hd;have A2:=g5.more T hP2 (by lia) hy hd hc;refine wpS_pure ⟨a2,neq+1,rfl,rfl,by lia,by lia,g3,D2,?_⟩;rw[show lo+(y+1)-(neq+1+1)=lo+y-(neq+1) by lia,show lo+(y+1)=lo+y+1 by lia];exact A2
   case post2=>
    rintro c st2 ⟨a2,y,neq,rfl,rfl,g0,g1,g2,g3,g4,g5⟩;have hs2:=g3.size;dsimp only;by_cases hq:neq > 0;rw[if_pos hq];refine wpS_bind (wpS_modify ?_);obtain⟨a3,m3,D3,hg⟩:∃a3,Moved (arrOf st') a3 lo (lo+n)/\Dec f a3 lo (lo+y)/\setArr st' (rev a2 (lo+y-(neq+1)) (lo+y))=setArr st' a3:=
     ⟨_,g3.trans (zdH (by lia) (by lia) (by lia)),ziN (by lia) (by lia) (by lia) g4 g5,rfl⟩
    show wpS _ _ _ _ _ _ (setArr st' (rev a2 (lo+y-(neq+1)) (lo+y)));rw[hg];clear hg
    rotate_left
    rw[if_neg hq];obtain⟨a3,m3,D3,hg⟩:∃a3,Moved (arrOf st') a3 lo (lo+n)/\Dec f a3 lo (lo+y)/\setArr st' a2=setArr st' a3:=⟨_,g3,g4,rfl⟩;rw[hg];clear hg
    all_goals
     have hs3:=m3.size;refine wpS_bind (wpS_modify ?_);obtain⟨a4,m4,R4,hg⟩:∃a4,Moved (arrOf st') a4 lo (lo+n)/\Run f a4 lo (lo+y)/\setArr st' (rev a3 lo (lo+y))=setArr st' a4:=
      ⟨_,m3.trans (zdH (by lia) (by lia) (by lia)),zpP (by lia) D3,rfl⟩
     show wpS _ _ _ _ _ _ (setArr st' (rev a3 lo (lo+y)));rw[hg];clear hg;have hs4:=m4.size;have hP4:=m4.all hP;refine wpS_bind (wpS_mono (wpS_forRange (I:=λz c st2=>st2=setArr st' a4/\c=(none,z)/\z<=n/\Run f a4 lo (lo+z))
      (Q:=λc st2=>st2=setArr st' a4/\∃z,c=(none,z)/\1<=z/\z<=n/\Run f a4 lo (lo+z)) ?step3 ?fin3 ⟨rfl,rfl,g1,R4⟩) ?post3)
     case fin3=>
      rintro c st2 ⟨rfl,rfl,k1,k2⟩;exact⟨rfl,_,rfl,by lia,k1,k2⟩
     case post3=>
      rintro c st2 ⟨rfl,z,rfl,k1,k2,k3⟩;exact wpS_pure (hQ a4 z k1 k2 m4 k3)
     case step3=>
      rintro z c st2 hz1 hz2 ⟨rfl,rfl,k1,k2⟩;dsimp only;refine wpS_bind (zem C (st:=setArr st' a4) (a:=a4) hst rfl hP4 (show lo+z<a4.size by lia) (show lo+z-1<a4.size by lia) ?_);cases hc:f (a4[lo+z]'(by lia)) (a4[lo+z-1]'(by lia))with
      | true=>
       dsimp only;rw[if_pos rfl];exact wpS_pure ⟨rfl,z,rfl,by lia,by lia,k2⟩
      | false=>
       dsimp only;rw[if_neg (by decide)];exact wpS_pure ⟨rfl,rfl,by lia,k2.more T hP4 (by lia) (by lia) hc⟩
end
variable {P:Keyed->Prop}{f:Keyed->Keyed->Bool}
noncomputable def Stk (f:Keyed->Keyed->Bool)(a:Array Keyed):Nat->List (Nat×Nat×Nat)->Nat->Prop
 | s,[],hi=>s=hi
 | s,e::r,hi=>e.1=s/\0<e.2.1/\Run f a s (s+e.2.1)/\Stk f a (s+e.2.1) r hi
theorem Run.congr {a a':Array Keyed}{lo hi:Nat}(h:Run f a lo hi)(hs:a'.size=a.size)(he:∀j:Nat,lo<=j->j<hi->a'[j]? = a[j]?):Run f a' lo hi:=by
 intro i j hj hij h1 h2;have e1:=he i h1 (by lia);have e2:=he j (by lia) h2;rw[getElem?_pos a' i (by lia),getElem?_pos a i (by lia)]at e1;rw[getElem?_pos a' j hj,getElem?_pos a j (by lia)]at e2;rw[Option.some.inj e1,Option.some.inj e2];exact h i j (by lia) hij h1 h2
theorem Stk.le {a:Array Keyed}:∀ {l:List (Nat×Nat×Nat)}{s hi:Nat},Stk f a s l hi->s+l.length<=hi
 | [],s,hi,h=>by have:s=hi:=h;simp[this]
 | e::r,s,hi,⟨h1,h2,h3,h4⟩=>by have:=Stk.le h4;rw[List.length_cons];lia
theorem Stk.congr {a a':Array Keyed}(hs:a'.size=a.size):∀ {l:List (Nat×Nat×Nat)}{s hi:Nat},Stk f a s l hi->(∀j:Nat,s<=j->j<hi->a'[j]? = a[j]?)->Stk f a' s l hi
 | [],s,hi,h,_=>h
 | e::r,s,hi,⟨h1,h2,h3,h4⟩,he=>by
  have:=h4.le;exact⟨h1,h2,h3.congr hs λj g1 g2=>he j g1 (by lia),Stk.congr hs h4 λj g1 g2=>he j (by lia) g2⟩
theorem Stk.append {a:Array Keyed}:∀ {l m:List (Nat×Nat×Nat)}{s hi:Nat},Stk f a s (l++m) hi↔∃t,Stk f a s l t/\Stk f a t m hi
 | [],m,s,hi=>⟨λh=>⟨s,rfl,h⟩,λ⟨t,h1,h2⟩=>by have:s=t:=h1;rw[this];exact h2⟩
 | e::r,m,s,hi=>by
  constructor
  ·rintro⟨h1,h2,h3,h4⟩;obtain⟨t,g1,g2⟩:=Stk.append.mp h4;exact⟨t,⟨h1,h2,h3,g1⟩,g2⟩
  ·rintro⟨t,⟨h1,h2,h3,h4⟩,g⟩;exact⟨h1,h2,h3,Stk.append.mpr ⟨t,h4,g⟩⟩
theorem Stk.snoc {a:Array Keyed}{l:List (Nat×Nat×Nat)}{s lo n p:Nat}(h:Stk f a s l lo)(hn:0<n)(r:Run f a lo (lo+n)):Stk f a s (l++[(lo,n,p)]) (lo+n):=Stk.append.mpr ⟨lo,h,rfl,hn,r,rfl⟩
theorem Stk.merge {a a':Array Keyed}{pre post:List (Nat×Nat×Nat)}{sa na pw sb nb pw2 s hi:Nat}(h:Stk f a s (pre++(sa,na,pw)::(sb,nb,pw2)::post) hi)(hs:a'.size=a.size)(ho:∀j:Nat,j<sa\/sa+na+nb<=j->a'[j]? = a[j]?)(r:Run f a' sa (sa+na+nb)) :
  Stk f a' s (pre++(sa,na+nb,pw)::post) hi:=by
 obtain⟨t,h1,h2,h3,h4,h5,h6,h7,h8⟩:=Stk.append.mp h;simp only at h2 h3 h4 h5 h6 h7 h8;subst h2;refine Stk.append.mpr ⟨sa,h1.congr hs λj g1 g2=>ho j (.inl g2),rfl,by show 0<na+nb;lia,?_,?_⟩
 ·show Run f a' sa (sa+(na+nb));rw[<- Nat.add_assoc];exact r
 ·show Stk f a' (sa+(na+nb)) post hi;rw[<- Nat.add_assoc];exact h8.congr hs λj g1 g2=>ho j (.inr g1)
theorem znP {p:Array (Nat×Nat×Nat)}{pre post:List (Nat×Nat×Nat)}{e1 e2 e:Nat×Nat×Nat}(h:p.toList=pre++e1::e2::post):((p.setIfInBounds pre.length e).eraseIdxIfInBounds (pre.length+1)).toList=pre++e::post:=by
 have hsz:p.size=pre.length+(post.length+2):=by rw[<- Array.length_toList,h];simp
 rw[Array.eraseIdxIfInBounds,dif_pos (by simp;lia)];simp[h,List.eraseIdx_append_of_length_le]
theorem zmB {a a':Array Keyed}{S:List Keyed}{sa n:Nat}(hn:sa+n<=a.size)(so:S.Pairwise (Le f))(pm:S.Perm ((a.toList.drop sa).take n))(e:a'.toList=a.toList.take sa++S++a.toList.drop (sa+n)) :
  a'.Perm a/\a'.size=a.size/\(∀j:Nat,j<sa\/sa+n<=j->a'[j]? = a[j]?)/\Run f a' sa (sa+n):=by
 have hl:a.toList.length=a.size:=Array.length_toList;have hS:S.length=n:=by rw[pm.length_eq,List.length_take,List.length_drop];lia
 have ht:(a.toList.take sa).length=sa:=by rw[List.length_take];lia
 have hp:a'.Perm a:=by
  rw[Array.perm_iff_toList_perm,e];have e2:a.toList=a.toList.take sa++(a.toList.drop sa).take n++a.toList.drop (sa+n):=by
   rw[<- List.drop_drop,List.append_assoc,List.take_append_drop,List.take_append_drop]
  refine List.Perm.trans ?_ (List.Perm.of_eq e2.symm);exact List.Perm.append_right _ (List.Perm.append_left _ pm)
 refine⟨hp,hp.size_eq,λj hj=>?_,λi j hj hij h1 h2=>?_⟩
 ·rw[<- Array.getElem?_toList,<- Array.getElem?_toList,e];rcases hj with hj | hj
  ·rw[List.append_assoc,List.getElem?_append_left (by lia),List.getElem?_take_of_lt hj]
  ·rw[List.getElem?_append_right (by rw[List.length_append];lia),List.length_append,List.getElem?_drop]
   congr 1
   lia
 ·have at':∀(i:Nat) (h:i<a'.size),sa<=i->(h2:i<sa+n)->a'[i]=S[i-sa]'(by lia):=λi h g1 g2=>by
   have:a'.toList[i]? = S[i-sa]?:=by
    rw[e,List.append_assoc,List.getElem?_append_right (by lia),ht,List.getElem?_append_left (by lia)]
   rw[Array.getElem?_toList,getElem?_pos a' i h,List.getElem?_eq_getElem (by lia)]at this;exact Option.some.inj this
  rw[at' i (by lia) h1 (by lia),at' j hj (by lia) h2];exact List.pairwise_iff_getElem.mp so _ _ _ _ (by lia)
noncomputable def srt:StateT SortSt Sem Unit:=sortPriv% PySem.Builtin.sortRuns
section
variable {prog:Program}{w:World}{A:Around}{E:Value->Shared->Prop}{s:Shared}{k:SortKind}{P:Keyed->Prop}{f:Keyed->Keyed->Bool}
structure Inv (f:Keyed->Keyed->Bool)(k:SortKind)(a:Array Keyed)(st:SortSt)(lo:Nat):Prop where
 kind:kindOf st=k
 failed:failedOf st=none
 pm:(arrOf st).Perm a
 stk:Stk f (arrOf st) 0 (pendingOf st).toList lo
theorem zjO (C:Cmp prog w A E s k P f)(T:Tot f P){a:Array Keyed}{i lo:Nat}{Q:Bool->SortSt->Prop}{st:SortSt}(hP:∀(j:Nat) x,a[j]? = some x->P x)(I:Inv f k a st lo)(hlo:lo<=a.size)(hi:i+1<(pendingOf st).size)
  (hQ:∀st',Inv f k a st' lo->(pendingOf st').size+1=(pendingOf st).size->(∀j:Nat,lo<=j->(arrOf st')[j]? = (arrOf st)[j]?)->Q true st'):wpS (model prog w) A E s (mAt i) Q st:=by
 have hlen:(pendingOf st).toList.length=(pendingOf st).size:=Array.length_toList;have hsz:(arrOf st).size=a.size:=I.pm.size_eq;obtain⟨pre,⟨sa,na,pw⟩,⟨sb,nb,pw2⟩,post,hl,hpre⟩:∃pre e1 e2 post,(pendingOf st).toList=pre++e1::e2::post/\pre.length=i:=by
  refine⟨(pendingOf st).toList.take i,(pendingOf st).toList[i],(pendingOf st).toList[i+1],(pendingOf st).toList.drop (i+2),?_,by rw[List.length_take];lia⟩;rw[<- List.drop_eq_getElem_cons,<- List.drop_eq_getElem_cons,List.take_append_drop]
 have hst:=I.stk;rw[hl]at hst;obtain⟨t,h1,h2,h3,h4,h5,h6,h7,h8⟩:=Stk.append.mp hst;simp only at h2 h3 h4 h5 h6 h7 h8;subst h2;subst h5;have hle:=h8.le;have g1:(pendingOf st)[i]? = some (sa,na,pw):=by rw[<- Array.getElem?_toList,hl,<- hpre];simp
 have g2:(pendingOf st)[i+1]? = some (sa+na,nb,pw2):=by rw[<- Array.getElem?_toList,hl,<- hpre];simp
 have hP':∀(j:Nat) x,(arrOf st)[j]? = some x->P x:=(Moved.all (lo:=0) (hi:=(arrOf st).size+a.size) ⟨I.pm,λj hj=>by
  rcases hj with hj | hj
  ·lia
  ·rw[getElem?_neg (arrOf st) j (by lia),getElem?_neg a j (by lia)]⟩ hP)
 refine zsa C T I.kind I.failed g1 g2 h3 h6 (by lia) hP' h4 h7 λst' S q1 q2 q3 q4 q5 q6=>?_;rw[Nat.add_assoc]at q6;obtain⟨r1,r2,r3,r4⟩:=zmB (by lia) q4 q5 q6;have hpl:(pendingOf st').toList=pre++(sa,na+nb,pw)::post:=by rw[q3,<- hpre];exact znP hl
 refine hQ st' ⟨q1,q2,r1.trans I.pm,?_⟩ ?_ λj hj=>r3 j (.inr (by lia))
 ·rw[hpl];exact hst.merge r2 (λj hj=>r3 j (by lia)) (by rw[Nat.add_assoc];exact r4)
 ·have e1:(pendingOf st').size=(pendingOf st').toList.length:=Array.length_toList.symm;rw[e1,hpl,<- hlen,hl];simp
  lia
end
section
variable {prog:Program}{w:World}{A:Around}{E:Value->Shared->Prop}{s:Shared}{k:SortKind}{P:Keyed->Prop}{f:Keyed->Keyed->Bool}
theorem Stk.modify {a:Array Keyed}{g:Nat×Nat×Nat->Nat×Nat×Nat}(hg:∀e,(g e).1=e.1/\(g e).2.1=e.2.1):∀ {l:List (Nat×Nat×Nat)}{i s hi:Nat},Stk f a s l hi->Stk f a s (l.modify i g) hi
 | [],i,s,hi,h=>by cases i<;>exact h
 | e::r,0,s,hi,⟨h1,h2,h3,h4⟩=>by
  show Stk f a s (g e::r) hi;have:=hg e;exact⟨by rw[this.1];exact h1,by rw[this.2];exact h2,by rw[this.2];exact h3,by rw[this.2];exact h4⟩
 | e::r,i+1,s,hi,⟨h1,h2,h3,h4⟩=>by
  show Stk f a s (e::r.modify i g) hi;exact⟨h1,h2,h3,Stk.modify hg h4⟩
theorem Inv.moved {a:Array Keyed}{st:SortSt}{lo n:Nat}(I:Inv f k a st lo){a':Array Keyed}(m:Moved (arrOf st) a' lo n):Inv f k a (setArr st a') lo:=
 ⟨I.kind,I.failed,m.pm.trans I.pm,I.stk.congr m.size λj _ h=>m.out j (.inl h)⟩
theorem Inv.all {a:Array Keyed}{st:SortSt}{lo:Nat}(I:Inv f k a st lo)(hP:∀(j:Nat) x,a[j]? = some x->P x):∀(j:Nat) x,(arrOf st)[j]? = some x->P x:=λj x e=>by
 have h1:x∈(arrOf st).toList:=List.mem_of_getElem? (by rw[Array.getElem?_toList];exact e);exact zfm hP x ((Array.perm_iff_toList_perm.mp I.pm).mem_iff.mp h1)
theorem Inv.push {a:Array Keyed}{st:SortSt}{lo n:Nat}(I:Inv f k a st lo)(hn:1<=n)(r:Run f (arrOf st) lo (lo+n)):Inv f k a (SortSt.mk' (kindOf st) (arrOf st) ((pendingOf st).push (lo,n,0)) (gallopOf st) (failedOf st)) (lo+n):=
 ⟨I.kind,I.failed,I.pm,by show Stk f (arrOf st) 0 ((pendingOf st).push (lo,n,0)).toList (lo+n);rw[Array.toList_push];exact I.stk.snoc (by lia) r⟩
theorem Inv.power {a:Array Keyed}{st:SortSt}{lo i:Nat}(I:Inv f k a st lo){g:Nat×Nat×Nat->Nat×Nat×Nat}(hg:∀e,(g e).1=e.1/\(g e).2.1=e.2.1):Inv f k a (SortSt.mk' (kindOf st) (arrOf st) ((pendingOf st).modify i g) (gallopOf st) (failedOf st)) lo:=
 ⟨I.kind,I.failed,I.pm,by show Stk f (arrOf st) 0 ((pendingOf st).modify i g).toList lo;rw[Array.toList_modify];exact I.stk.modify hg⟩
theorem zpQ {c:Prop} [Decidable c] {n:Nat}(h:¬ n<=1):(if c then n-2-1 else n-2)+1<n:=by split<;>lia
theorem zoD {α:Type}{c:Prop} [Decidable c] {m1 m2:StateT SortSt Sem α}{Q:α->SortSt->Prop}{st:SortSt}(h1:c->wpS (model prog w) A E s m1 Q st)(h2:¬ c->wpS (model prog w) A E s m2 Q st):wpS (model prog w) A E s (if c then m1 else m2) Q st:=by
 by_cases h:c
 ·rw[if_pos h];exact h1 h
 ·rw[if_neg h];exact h2 h
theorem zsd (C:Cmp prog w A E s k P f)(T:Tot f P){Q:Unit->SortSt->Prop}{st:SortSt}(hst:kindOf st=k)(hfl:failedOf st=none)(hpn:pendingOf st = #[])(hP:∀(j:Nat) x,(arrOf st)[j]? = some x->P x)
  (hQ:∀st',(arrOf st').Perm (arrOf st)->failedOf st'=none->(arrOf st').toList.Pairwise (Le f)->Q () st'):wpS (model prog w) A E s srt Q st:=by
 refine wpS_bind (wpS_get ?_);dsimp only;refine wpS_bind (wpS_mono (wpS_forRange (I:=λx c st'=>∃lo,c=(none,lo)/\lo<=(arrOf st).size/\x<=lo/\Inv f k (arrOf st) st' lo)
  (Q:=λc st'=>∃lo,c=(none,lo)/\lo=(arrOf st).size/\Inv f k (arrOf st) st' lo) ?step ?fin ⟨0,rfl,by lia,by lia,hst,hfl,.refl _,by rw[hpn];rfl⟩) ?post)
 case fin=>
  rintro c st' ⟨lo,rfl,h1,h2,I⟩;change max 0 (arrOf st).size<=lo at h2;exact⟨lo,rfl,by lia,I⟩
 case post=>
  rintro c st' ⟨lo,rfl,rfl,I⟩;dsimp only;have hle:=I.stk.le;rw[Array.length_toList]at hle;refine wpS_bind (wpS_mono (wpS_forRange (I:=λx c st2=>c=(none,())/\(pendingOf st2).size+x<=(arrOf st).size/\Inv f k (arrOf st) st2 (arrOf st).size)
   (Q:=λc st2=>c=(none,())/\(pendingOf st2).size<=1/\Inv f k (arrOf st) st2 (arrOf st).size) ?step9 ?fin9 ⟨rfl,by lia,I⟩) ?post9)
  case fin9=>
   rintro c st2 ⟨rfl,h1,I2⟩;change (pendingOf st2).size+max 0 (arrOf st).size<=(arrOf st).size at h1;exact⟨rfl,by lia,I2⟩
  case post9=>
   rintro c st2 ⟨rfl,h1,I2⟩;refine wpS_pure (hQ st2 I2.pm I2.failed ?_);have hsz:(arrOf st2).size=(arrOf st).size:=I2.pm.size_eq;have hr:Run f (arrOf st2) 0 (0+(arrOf st2).size):=by
    have hs:=I2.stk;have hl:(pendingOf st2).toList.length<=1:=by rw[Array.length_toList];exact h1
    cases hp:(pendingOf st2).toList with
    | nil=>
     rw[hp]at hs;have:0=(arrOf st).size:=hs;intro i j hj hij _ h2
     lia
    | cons e r=>
     rw[hp]at hs hl;have:r=[]:=List.length_eq_zero_iff.mp (by simp at hl;exact List.length_eq_zero_iff.mpr hl);subst this;obtain⟨g1,g2,g3,g4⟩:=hs;have:0+e.2.1=(arrOf st).size:=g4;rw[this]at g3;rw[hsz,Nat.zero_add];exact g3
   have:=zmA hr (by lia)
   rwa [List.drop_zero,List.take_of_length_le (by rw[Array.length_toList];exact Nat.le_refl _)]at this
  case step9=>
   rintro x c st2 _ hx ⟨rfl,h1,I2⟩;refine wpS_bind (wpS_get ?_);by_cases e1:(pendingOf st2).size<=1
   ·rw[if_pos e1];exact wpS_pure ⟨rfl,e1,I2⟩
   rw[if_neg e1];refine wpS_bind (zjO C T hP I2 (Nat.le_refl _) ?_ λst3 I3 h3 _=>?_)
   ·exact zpQ e1
   ·exact wpS_pure ⟨rfl,by lia,I3⟩
 case step=>
  rintro x c st1 _ hx ⟨lo,rfl,h1,h2,I⟩;dsimp only;by_cases e1:lo>=(arrOf st).size
  ·rw[if_pos e1];exact wpS_pure ⟨lo,rfl,by lia,I⟩
  rw[if_neg e1];have hsz:(arrOf st1).size=(arrOf st).size:=I.pm.size_eq;refine wpS_bind (zsc C T I.kind (show 1<=(arrOf st).size-lo by lia) (show lo+((arrOf st).size-lo)<=(arrOf st1).size by lia) (I.all hP) λa1 m q1 q2 mv r1=>?_);have I1:=I.moved mv;have hs1:=mv.size;have q2':m<=(arrOf st).size-lo:=q2;dsimp only;refine zoD (λe2=>?_) (λe2=>?_);generalize hmr:(sortPriv% PySem.Builtin.minRun) _ _ _=mr at *;refine wpS_bind (wpS_lift (wpAny_rule ⟨rfl,?_⟩));refine wpS_bind (zsb C T I1.kind (show lo+min ((arrOf st).size-lo) mr<=a1.size by lia) (by lia) (I1.all hP) r1 λa2 mv2 r2=>?_);rw[if_neg (by decide)];obtain⟨nn,hnn⟩:∃nn,nn=min ((arrOf st).size-lo) mr:=⟨_,rfl⟩;obtain⟨stX,IX,rX,hg⟩:∃stX,Inv f k (arrOf st) stX lo/\Run f (arrOf stX) lo (lo+min ((arrOf st).size-lo) mr)/\setArr (setArr st1 a1) a2=stX:=⟨_,I1.moved mv2,r2,rfl⟩;show wpS _ _ _ _ _ _ (setArr (setArr st1 a1) a2);rw[hg];clear hg;have n1:1<=min ((arrOf st).size-lo) mr:=by lia
  have n2:lo+min ((arrOf st).size-lo) mr<=(arrOf st).size:=by lia
  rotate_left
  obtain⟨stX,IX,rX,hg⟩:∃stX,Inv f k (arrOf st) stX lo/\Run f (arrOf stX) lo (lo+m)/\setArr st1 a1=stX:=⟨_,I1,r1,rfl⟩;show wpS _ _ _ _ _ _ (setArr st1 a1);rw[hg];clear hg;have n1:1<=m:=by lia
  have n2:lo+m<=(arrOf st).size:=by lia
  all_goals
   refine wpS_bind (wpS_get ?_);rcases hb:(pendingOf stX).back? with _ | ⟨s1,l1,p1⟩
   ·dsimp only;exact wpS_bind (wpS_modify (wpS_pure ⟨_,rfl,n2,by lia,IX.push n1 rX⟩))
   ·dsimp only;refine wpS_bind (wpS_mono (wpS_forRange (I:=λy c st2=>c=(none,())/\Inv f k (arrOf st) st2 lo/\(∀j:Nat,lo<=j->(arrOf st2)[j]? = (arrOf stX)[j]?))
     (Q:=λc st2=>c=(none,())/\Inv f k (arrOf st) st2 lo/\(∀j:Nat,lo<=j->(arrOf st2)[j]? = (arrOf stX)[j]?)) ?step5 ?fin5 ⟨rfl,IX,λ_ _=>rfl⟩) ?post5)
    case fin5=>exact λc st2 h=>h
    case post5=>
     rintro c st2 ⟨rfl,I2,o2⟩;dsimp only;have r2:=rX.congr (a':=arrOf st2) (by rw[I2.pm.size_eq,IX.pm.size_eq]) λj g1 _=>o2 j g1;refine wpS_bind (wpS_modify (wpS_bind (wpS_modify (wpS_pure ⟨_,rfl,n2,by lia,?_⟩))));exact Inv.push (Inv.power I2 (λe=>⟨rfl,rfl⟩)) n1 r2
    case step5=>
     rintro y c st2 _ hy ⟨rfl,I2,o2⟩;refine wpS_bind (wpS_get ?_);by_cases hp:(pendingOf st2).size > 1
     ·rw[if_pos hp,getElem?_pos (pendingOf st2) ((pendingOf st2).size-2) (by lia)];dsimp only;refine zoD (λe3=>?_) (λe3=>?_)
      ·exact wpS_pure ⟨rfl,I2,o2⟩
      ·refine wpS_bind (zjO C T hP I2 (by lia) (show(pendingOf st2).size-2+1<(pendingOf st2).size by lia) λst3 I3 h3 o3=>?_);rw[if_neg (by decide)];exact wpS_pure ⟨rfl,I3,λj hj=>(o3 j hj).trans (o2 j hj)⟩
     ·rw[if_neg hp];exact wpS_pure ⟨rfl,I2,o2⟩
end
noncomputable def ltI:List Int->List Int->Bool
 | [],[]=>false
 | [],_::_=>true
 | _::_,[]=>false
 | x::xs,y::ys=>if x=y then ltI xs ys else decide (x<y)
theorem zgz:∀x:List Int,ltI x x=false
 | []=>rfl
 | a::x=>by unfold ltI;rw[if_pos rfl];exact zgz x
theorem zcQ:∀x y:List Int,ltI x y=true->ltI y x=false
 | [],[],h=>rfl
 | [],_::_,h=>rfl
 | _::_,[],h=>by cases h
 | a::x,b::y,h=>by
  unfold ltI at h ⊢;by_cases e:a=b
  ·rw[if_pos e]at h;rw[if_pos e.symm];exact zcQ x y h
  ·rw[if_neg e]at h;rw[if_neg (λz=>e z.symm)];have:=of_decide_eq_true h;exact decide_eq_false (by lia)
theorem zfo:∀x y:List Int,ltI x y=false->ltI y x=false->x=y
 | [],[],_,_=>rfl
 | [],_::_,h,_=>by cases h
 | _::_,[],_,h=>by cases h
 | a::x,b::y,h1,h2=>by
  unfold ltI at h1 h2;by_cases e:a=b
  ·rw[if_pos e]at h1;rw[if_pos e.symm]at h2;rw[e,zfo x y h1 h2]
  ·rw[if_neg e]at h1;rw[if_neg (λz=>e z.symm)]at h2;have:=of_decide_eq_false h1;have:=of_decide_eq_false h2;exact absurd (show a=b by lia) e
theorem zdI:∀x y z:List Int,ltI x y=true->ltI y z=true->ltI x z=true
 | [],[],_,h,_=>by cases h
 | [],_::_,[],_,h=>by cases h
 | [],_::_,_::_,_,_=>rfl
 | _::_,[],_,h,_=>by cases h
 | _::_,_::_,[],_,h=>by cases h
 | a::x,b::y,c::z,h1,h2=>by
  unfold ltI at h1 h2 ⊢;by_cases e:a=b
  ·rw[if_pos e]at h1;by_cases e2:b=c
   ·rw[if_pos e2]at h2;rw[if_pos (e.trans e2)];exact zdI x y z h1 h2
   ·rw[if_neg e2]at h2;rw[if_neg (by rw[e];exact e2),e];exact h2
  ·rw[if_neg e]at h1;have l1:=of_decide_eq_true h1;by_cases e2:b=c
   ·rw[if_neg (by rw[<- e2];exact e),<- e2];exact h1
   ·rw[if_neg e2]at h2;have l2:=of_decide_eq_true h2;rw[if_neg (by lia)];exact decide_eq_true (by lia)
theorem zpR:∀x y:List Int,x.zip y=[]->ltI x y=decide (x.length<y.length)
 | [],[],_=>rfl
 | [],_::_,_=>by simp[ltI]
 | _::_,[],_=>by simp[ltI]
 | _::_,_::_,h=>by cases h
noncomputable def TupAt (h:Heap)(v:Value)(ns:List Int):Prop:=∃a o vs n,v=.ref a/\h.get? a=some o/\o.cls=.type "tuple"/\o.data=.seq (List.toArray vs) n/\IntsAre vs ns
theorem TupAt.inj {h:Heap}{v:Value}{ns ms:List Int}(h1:TupAt h v ns)(h2:TupAt h v ms):ns=ms:=by
 obtain⟨a,o,vs,n,rfl,e,_,d,i⟩:=h1;obtain⟨a2,o2,vs2,n2,ea,e2,_,d2,i2⟩:=h2;cases ea;rw[e]at e2;cases e2;rw[d]at d2;cases d2;rw[<- i.nums,<- i2.nums]
open Classical in
noncomputable def gOf (h:Heap)(v:Value):List Int:=if z:∃ns,TupAt h v ns then z.choose else[]
theorem zjP {h:Heap}{v:Value}{ns:List Int}(z:TupAt h v ns):gOf h v=ns:=by
 unfold gOf;have hz:∃ns,TupAt h v ns:=⟨ns,z⟩;rw[dif_pos hz];exact hz.choose_spec.inj z
section
variable {prog:Program}{w:World}{M:Model}{A:Around}{E:Value->Shared->Prop}{s:Shared}
theorem zhI {α β:Type}(f:α->β->Sem (ForInStep β))(I:List α->β->Prop){Q:β->Shared->Prop}
  (hstep:∀x rest b,I (x::rest) b->wpAny M A (f x b) (λr s'=>s'=s/\match r with | .done b'=>Q b' s | .yield b'=>I rest b') E s)
  (hend:∀b,I [] b->Q b s):∀(l:List α) (b:β),I l b->wpAny M A (forIn l b f) Q E s
 | [],b,h=>by rw[List.forIn_nil];exact wpAny_pure (hend _ h)
 | x::rest,b,h=>by
  rw[List.forIn_cons];refine wpAny_bind (wpAny_mono (hstep x rest b h) (λr s' h'=>?_) λ_ _ e=>e);obtain⟨es,h'⟩:=h';rw[es];cases r with
  | done b'=>exact wpAny_pure h'
  | yield b'=>exact zhI f I hstep hend rest b' h'
theorem zmC {a b:Int}{t u:Tok}{o:Bool}{Q:Bool->Shared->Prop}(h:Q (decide (a<b)) s):wpAny (model prog w) A (oneLt' o (.int a t) (.int b u)) Q E s:=by
 cases o with
 | true=>exact oneLt_int h
 | false=>
  rw[oneLt'_eq];simp only[Bool.false_eq_true,if_false];refine wpAny_bind (wpAny_lt_int (Q:=λr s'=>wpAny (model prog w) A (truthOfDropped r) Q E s') ?_);exact wpAny_truthy_bool h
theorem zmD {k:Bool}{x y:Value}{ns ms:List Int}{Q:Bool->Shared->Prop}(hx:TupAt s.heap x ns)(hy:TupAt s.heap y ms)(h:Q (ltI ns ms) s):wpAny (model prog w) A (keyLt' (tuples' k) x y) Q E s:=by
 obtain⟨a,o,vs,n,rfl,e,_,d,i⟩:=hx;obtain⟨b,o2,ws,n2,rfl,e2,_,d2,i2⟩:=hy;refine wpAny_bind (listItems_at e d (wpAny_bind (listItems_at e2 d2 ?_)));refine wpAny_bind (zhI _ (I:=λl c=>c=(none,PUnit.unit)/\∃vs' ws' ns' ms' j,l=(vs'.zip ws').zipIdx j/\IntsAre vs' ns'/\IntsAre ws' ms'/\ltI ns ms=ltI ns' ms'/\ns'.length+ms.length=ms'.length+ns.length) ?step ?fin _ _ ⟨rfl,vs,ws,ns,ms,0,rfl,i,i2,rfl,by lia⟩)
 case fin=>
  rintro c ⟨rfl,vs',ws',ns',ms',j,hl,i3,i4,h1,h2⟩;dsimp only;have hz:ns'.zip ms'=[]:=by
   have q:(vs'.zip ws').length=0:=by have:=congrArg List.length hl;simpa using this.symm
   rw[List.length_zip]at q;have l3:=i3.nums;have l4:=i4.nums;have l3:=congrArg List.length l3;have l4:=congrArg List.length l4;rw[List.length_map]at l3 l4;refine List.length_eq_zero_iff.mp ?_;rw[List.length_zip,<- l3,<- l4];exact q
  rw[h1,zpR _ _ hz]at h;have l1:=congrArg List.length i.nums;have l2:=congrArg List.length i2.nums;rw[List.length_map]at l1 l2;have hd:decide (ns'.length<ms'.length)=decide (vs.toArray.size<ws.toArray.size):=by
   rw[List.size_toArray,List.size_toArray,l1,l2];by_cases q:ns'.length<ms'.length
   ·rw[decide_eq_true q,decide_eq_true (by lia)]
   ·rw[decide_eq_false q,decide_eq_false (by lia)]
  rw[hd]at h;exact wpAny_pure h
 case step=>
  rintro⟨⟨p,q⟩,j0⟩ rest c ⟨rfl,vs',ws',ns',ms',j,hl,i3,i4,h1,h2⟩;cases i3 with
  | nil=>simp at hl
  | @cons n1 t1 vs1 ns1 i3=>
   cases i4 with
   | nil=>simp at hl
   | @cons m1 u1 ws1 ms1 i4=>
    rw[List.zip_cons_cons,List.zipIdx_cons]at hl;obtain⟨hl1,hl2⟩:=List.cons.inj hl;cases hl1;dsimp only;refine wpAny_bind (wpAny_eqBool_int ?_);by_cases e3:n1=m1
    ·subst e3;rw[if_neg (by simp)];refine wpAny_pure ⟨rfl,rfl,vs1,ws1,ns1,ms1,_,hl2,i3,i4,?_,?_⟩
     ·rw[h1,ltI,if_pos rfl]
     ·rw[List.length_cons,List.length_cons]at h2;lia
    ·rw[if_pos (by simpa using e3)];refine wpAny_bind (zmC ?_);refine wpAny_pure ⟨rfl,?_⟩;dsimp only;rw[h1,ltI,if_neg e3]at h;exact wpAny_pure h
theorem zpS (k:Bool):Cmp prog w A E s (tuples' k) (λx=>∃ns,TupAt s.heap x.1 ns) (λx y=>ltI (gOf s.heap x.1) (gOf s.heap y.1)) where
 run {x y Q st} hx hy hk h:=by
  obtain⟨ns,hx⟩:=hx;obtain⟨ms,hy⟩:=hy;rw[zjP hx,zjP hy]at h;rw[lt'_eq];refine wpS_bind (wpS_get ?_);rw[hk];refine wpS_bind (wpS_lift (wpAny_attempt (zmD hx hy ⟨rfl,?_⟩)));exact wpS_pure h
end
theorem zdJ {x y z:List Int}(h1:ltI y x=false)(h2:ltI z y=false):ltI z x=false:=by
 cases h:ltI z x with
 | false=>rfl
 | true=>
  cases h3:ltI x y with
  | true=>rw[zdI _ _ _ h h3]at h2;cases h2
  | false=>rw[zfo _ _ h3 h1]at h;rw[h]at h2;cases h2
theorem zpT (h:Heap):Tot (λx y=>ltI (gOf h x.1) (gOf h y.1)) (λx=>∃ns,TupAt h x.1 ns) where
 asym x y _ _ e:=zcQ _ _ e
 tr x y z _ _ _ h1 h2:=zdJ h1 h2
theorem zhJ {α β:Type}{φ:α->β}{l m:List β}(h:l.Perm m):∀us:List α,m=us.map φ->∃us':List α,us'.Perm us/\l=us'.map φ:=by
 induction h with
 | nil=>intro us e;exact⟨us,.refl _,by rw[<- e]⟩
 | @cons x l1 l2 hp ih=>
  intro us e;cases us with
  | nil=>cases e
  | cons u us=>
   rw[List.map_cons]at e;have e1:=(List.cons.inj e).1;have e2:=(List.cons.inj e).2;obtain⟨us',h1,h2⟩:=ih us e2;exact⟨u::us',h1.cons u,by rw[List.map_cons,h2,e1]⟩
 | @swap x y l1=>
  intro us e
  match us,e with
  | u::v::us,e=>
   rw[List.map_cons,List.map_cons]at e;have e1:=(List.cons.inj e).1;have e2:=(List.cons.inj (List.cons.inj e).2).1;have e3:=(List.cons.inj (List.cons.inj e).2).2;exact⟨v::u::us,.swap _ _ _,by rw[List.map_cons,List.map_cons,e1,e2,e3]⟩
 | trans _ _ ih1 ih2=>
  intro us e;obtain⟨u2,h1,h2⟩:=ih2 us e;obtain⟨u3,h3,h4⟩:=ih1 u2 h2;exact⟨u3,h3.trans h1,h4⟩
section
variable {prog:Program}{w:World}{M:Model}{A:Around}{E:Value->Shared->Prop}{s:Shared}
theorem zjQ {α β:Type}{g:α->Sem β}{φ:α->β}:∀(vs:List α){Q:List β->Shared->Prop},(∀v∈vs,∀ {Q':β->Shared->Prop},Q' (φ v) s->wpAny M A (g v) Q' E s)->Q (vs.map φ) s->wpAny M A (vs.mapM g) Q E s
 | [],Q,_,h=>by rw[List.mapM_nil];exact wpAny_pure h
 | v::vs,Q,hg,h=>by
  rw[List.mapM_cons];refine wpAny_bind (hg v List.mem_cons_self (wpAny_bind (zjQ vs (λu hu=>hg u (List.mem_cons_of_mem _ hu)) (wpAny_pure ?_))));exact h
theorem zmE {α β:Type}{g:α->Sem β}{φ:α->β}(vs:List α){Q:Array β->Shared->Prop}(hg:∀v∈vs,∀ {Q':β->Shared->Prop},Q' (φ v) s->wpAny M A (g v) Q' E s)(h:Q (vs.map φ).toArray s):wpAny M A (vs.toArray.mapM g) Q E s:=by
 rw[List.mapM_toArray,map_eq_pure_bind];exact wpAny_bind (zjQ vs hg (wpAny_pure h))
noncomputable def zfD (h:Heap)(v:Value):Option Value:=match v with
 | .ref a=>match h.get? a with
  | some o=>match o.data with
   | .seq xs _=>xs[0]?
   | _=>none
  | none=>none
 | _=>none
theorem zjR {v:Value}{ns:List Int}(hv:TupAt s.heap v ns)(hn:ns≠[]):(∃n t,zfD s.heap v=some (.int n t))/\∀ {Q:Option Value->Shared->Prop},Q (zfD s.heap v) s->wpAny M A (firstOfTuple' v) Q E s:=by
 obtain⟨a,o,vs,n,rfl,e,c,d,i⟩:=hv;have hf:zfD s.heap (.ref a)=vs.toArray[0]?:=by unfold zfD;dsimp only;rw[e];dsimp only;rw[d]
 refine⟨?_,λ{Q} h=>?_⟩
 ·rw[hf];cases i with
  | nil=>exact absurd rfl hn
  | cons n t i=>exact⟨n,t,rfl⟩
 ·refine wpAny_bind (wpAny_typeOf (T:="tuple") ⟨o,e,c⟩ ?_);rw[if_neg (by decide)];refine wpAny_bind (listItems_at e d (wpAny_pure ?_));rw[<- hf];exact h
theorem znQ {vs:List Value}{Q:SortKind->Shared->Prop}(hv:∀v∈vs,∃ns,TupAt s.heap v ns/\ns≠[])(h1:vs≠[])(h:Q (tuples' true) s):wpAny M A (keyKind' vs.toArray) Q E s:=by
 rw[keyKind'_eq];have hi:∀v∈vs,∃n t,zfD s.heap v=some (.int n t):=λv hm=>by
  obtain⟨ns,z1,z2⟩:=hv v hm;exact(zjR (M:=M) (A:=A) (E:=E) z1 z2).1
 refine wpAny_bind (zmE (φ:=zfD s.heap) vs (λv hm {Q'} q=>?_) ?_)
 ·obtain⟨ns,z1,z2⟩:=hv v hm;exact(zjR z1 z2).2 q
 have ha:((vs.map (zfD s.heap)).toArray.all λx=>x.isSome)=true:=by
  rw[List.all_toArray,List.all_map,List.all_eq_true];intro v hm;obtain⟨n,t,e⟩:=hi v hm;show(zfD s.heap v).isSome=true;rw[e];rfl
 rw[if_pos ha];have hx:∃us:List Value,(vs.map (zfD s.heap)).filterMap id=us/\us≠[]/\∀u∈us,∃n t,u=Value.int n t:=by
  refine⟨_,rfl,?_,λu hu=>?_⟩
  ·cases vs with
   | nil=>exact absurd rfl h1
   | cons v vs=>
    obtain⟨n,t,e⟩:=hi v List.mem_cons_self;rw[List.map_cons,e];simp
  ·rw[List.mem_filterMap]at hu;obtain⟨o,ho,e⟩:=hu;obtain⟨v,hm,rfl⟩:=List.mem_map.mp ho;obtain⟨n,t,e2⟩:=hi v hm;have e:zfD s.heap v=some u:=e;rw[e2]at e;exact⟨n,t,(Option.some.inj e).symm⟩
 obtain⟨us,e1,e2,e3⟩:=hx;refine wpAny_bind (wpAny_rule ?_);rw[List.filterMap_toArray,e1,oneTypeOnly'_eq,List.mapM_toArray,mapM_typeOf_ints (intsAre_map us e3)];simp only[map_pure,pure_bind];cases us with
 | nil=>exact absurd rfl e2
 | cons u us=>
  have h0:(List.map (λ_=>Value.type "int") (u::us)).toArray[0]? = some (Value.type "int"):=rfl;have hall:((List.map (λ_=>Value.type "int") (u::us)).toArray.all λx=>x == Value.type "int")=true:=by
   rw[List.all_toArray,List.all_map,List.all_eq_true];intro _ _;rfl
  rw[h0];simp only[hall,if_true,pure_bind];exact wpAny_pure h
noncomputable abbrev refsOf (us:List (Addr×List Int)):List Value:=us.map λu=>Value.ref u.1
theorem zdK:∀us:List (Addr×List Int),(refsOf us).zip (refsOf us)=us.map λu=>(Value.ref u.1,Value.ref u.1)
 | []=>rfl
 | u::us=>by show(_,_)::(refsOf us).zip (refsOf us)=_;rw[zdK us];rfl
theorem zgA {a:Addr}{us:List (Addr×List Int)}{n:Nat}{P:Fin->Shared->Prop}(ho:s.heap.get? a=some (seqObj "list" (refsOf us).toArray n)) (hT:∀u∈us,TupAt s.heap (.ref u.1) u.2/\u.2≠[]) (hsz:us.length<=sizeLine)
  (h:∀us',us'.Perm us->(us'.map (·.2)).Pairwise (λx y=>ltI y x=false)->P (.done (.ret .none)) { s with heap:=sortedHeap s.heap a (refsOf us) (refsOf us').toArray }) :
  wpAny (model prog w) A (Builtin.«list.sort» ⟨[.ref a],[]⟩) P E s:=by
 rw[list_sort_plain];have ha:a<s.heap.objs.size:=Heap.lt_size ho;refine wpAny_bind (listItems_at ho rfl (wpAny_bind (listUpdate_at ho rfl ?_ (hsz:=by rw[List.size_toArray,List.length_map];exact hsz) (hsz2:=Nat.zero_le _))));obtain⟨e1,ho1⟩:∃e1,(s.heap.update a (Obj.mapSeq λ_=>#[])).get? a=some (seqObj "list" #[] e1):=⟨_,get?_update_seq ho (λ_=>#[])⟩;refine wpAny_bind (seqEpoch_at ho1 rfl (wpAny_bind (wpAny_newTuple (wpAny_bind (wpAny_newList (wpAny_holding ?_))))));obtain⟨h6,eh⟩:∃h6,h6=(((s.heap.update a (Obj.mapSeq λ_=>#[])).push (seqObj "tuple" (refsOf us).toArray 0)).push (seqObj "list" #[] 0)):=⟨_,rfl⟩;have kp:∀b,b<s.heap.objs.size->h6.get? b=(s.heap.update a (Obj.mapSeq λ_=>#[])).get? b:=λb hb=>by
  rw[eh,Heap.get?_push_ne _ _ _ (by rw[size_push',Heap.size_update];exact Nat.ne_of_lt (Nat.lt_succ_of_lt hb)),Heap.get?_push_ne _ _ _ (by rw[Heap.size_update];exact Nat.ne_of_lt hb)]
 have ho6:h6.get? a=some (seqObj "list" #[] e1):=by rw[kp a ha];exact ho1
 have hT6:∀u∈us,TupAt h6 (.ref u.1) u.2:=λu hu=>by
  obtain⟨b,o,vs,m,e,hb,c,d,i⟩:=(hT u hu).1;cases e;have hne:u.1≠a:=λz=>by rw[z,ho]at hb;cases hb;injection c with c;exact absurd c (by decide)
  refine⟨u.1,o,vs,m,rfl,?_,c,d,i⟩;rw[kp u.1 (Heap.lt_size hb),Heap.get?_update_other _ _ (Ne.symm hne)];exact hb
 show wpAny (model prog w) A _ P E { s with heap:=(((s.heap.update a (Obj.mapSeq λ_=>#[])).push (seqObj "tuple" (refsOf us).toArray 0)).push (seqObj "list" #[] 0)) };have hfin:∀us':List (Addr×List Int),us'.Perm us->(us'.map (·.2)).Pairwise (λx y=>ltI y x=false)->P (.done (.ret .none)) { s with heap:=h6.update a (Obj.mapSeq λ_=>(refsOf us').toArray) }:=by
  rw[eh];exact h
 rw[<- eh];dsimp only;by_cases h2:(refsOf us).toArray.size<2
 ·rw[if_pos h2,if_pos h2];refine wpAny_bind (wpAny_pure ?_);rw[StateT.run_pure];refine wpAny_bind (wpAny_pure (wpAny_bind (seqEpoch_at ho6 rfl (wpAny_bind (listUpdate_at ho6 rfl ?_ (hsz:=Nat.zero_le _) (hsz2:=?_))))))
  ·simp only[bne_self_eq_false,Bool.false_eq_true,if_false];have e2:Array.map (λx=>x.2) (arrOf (SortSt.mk' general' ((refsOf us).toArray.zip (refsOf us).toArray) #[] 7 none))=(refsOf us).toArray:=by
    show Array.map (λx=>x.2) ((refsOf us).toArray.zip (refsOf us).toArray)=_;rw[List.zip_toArray,zdK,List.map_toArray,List.map_map];rfl
   refine wpAny_pure ?_;have q:=hfin us (.refl _) (by
    rw[List.size_toArray,List.length_map]at h2
    match us,h2 with
    | [],_=>exact List.Pairwise.nil
    | [u],_=>simp)
   rw[<- e2]at q;exact q
  ·rw[Array.size_map];show((refsOf us).toArray.zip (refsOf us).toArray).size<=_;rw[List.zip_toArray,List.size_toArray,zdK,List.length_map];lia
 ·rw[if_neg h2,if_neg h2];have hpos:us≠[]:=λz=>by subst z;exact h2 (by decide)
  refine wpAny_bind (znQ (s:={ s with heap:=h6 }) (λv hv=>?_) (λz=>hpos (List.map_eq_nil_iff.mp z)) ?_)
  ·obtain⟨u,hu,rfl⟩:=List.mem_map.mp hv;exact⟨u.2,hT6 u hu,(hT u hu).2⟩
  have hW:=zsd (prog:=prog) (w:=w) (A:=A) (E:=E) (s:={ s with heap:=h6 }) (zpS (s:={ s with heap:=h6 }) true) (zpT h6) (st:=SortSt.mk' (tuples' true) ((refsOf us).toArray.zip (refsOf us).toArray) #[] 7 none)
   (Q:=λ_ st'=>(arrOf st').Perm ((refsOf us).toArray.zip (refsOf us).toArray)/\failedOf st'=none/\(arrOf st').toList.Pairwise (Le λx y=>ltI (gOf h6 x.1) (gOf h6 y.1))) rfl rfl rfl (λj x hx=>?_) (λst' a1 a2 a3=>⟨a1,a2,a3⟩)
  ·refine wpAny_bind (wpAny_mono hW ?_ λ_ _ e=>e);rintro⟨⟨⟩,st'⟩ s' ⟨rfl,hp,hf,hs⟩;dsimp only;have hpl:(arrOf st').toList.Perm (us.map λu=>(Value.ref u.1,Value.ref u.1)):=by
    have q:=Array.perm_iff_toList_perm.mp hp;rw[List.zip_toArray,zdK]at q;exact q
   obtain⟨us',p1,p2⟩:=zhJ hpl us rfl;have e2:Array.map (λx=>x.2) (arrOf st')=(refsOf us').toArray:=by
    have e3:arrOf st'=(us'.map λu=>(Value.ref u.1,Value.ref u.1)).toArray:=by rw[<- p2,Array.toArray_toList]
    rw[e3,List.map_toArray,List.map_map];rfl
   refine wpAny_bind (seqEpoch_at ho6 rfl (wpAny_bind (listUpdate_at ho6 rfl ?_ (hsz:=Nat.zero_le _) (hsz2:=?_))))
   ·rw[hf];simp only[bne_self_eq_false,Bool.false_eq_true,if_false];refine wpAny_pure ?_;have q:=hfin us' p1 (by
     rw[p2,List.pairwise_map]at hs;rw[List.pairwise_map];refine hs.imp_of_mem λ{x y} hx hy z=>?_;have z:ltI (gOf h6 (.ref y.1)) (gOf h6 (.ref x.1))=false:=z;rw[zjP (hT6 y (p1.mem_iff.mp hy)),zjP (hT6 x (p1.mem_iff.mp hx))]at z;exact z)
    rw[<- e2]at q;exact q
   ·show(Array.map (λx=>x.2) (arrOf st')).size<=_;rw[e2,List.size_toArray,List.length_map,p1.length_eq];lia
  ·have hm:x∈(us.map λu=>(Value.ref u.1,Value.ref u.1)):=by
    have hx:((refsOf us).toArray.zip (refsOf us).toArray)[j]? = some x:=hx;rw[List.zip_toArray,zdK,List.getElem?_toArray]at hx;exact List.mem_of_getElem? hx
   obtain⟨u,hu,rfl⟩:=List.mem_map.mp hm;exact⟨u.2,hT6 u hu⟩
theorem ziO {l:Addr}{us:List (Addr×List Int)}{Q:Value->Shared->Prop}(hl:s.heap.IsList l (refsOf us).toArray)(hT:∀u∈us,TupAt s.heap (.ref u.1) u.2/\u.2≠[])(hsz:us.length<=sizeLine)
  (h:∀us',us'.Perm us->(us'.map (·.2)).Pairwise (λx y=>ltI y x=false)->Q (.ref (s.heap.objs.size+1)) { s with heap:=sortedAll s.heap (refsOf us) (refsOf us').toArray }) :
  wpAny (model prog w) A (call (.builtin "sorted") [.ref l]) Q E s:=by
 refine Calls.call_function_entry kind_sorted plain_sorted entry_sorted (args_sorted1 _) ?_;unfold Builtin.«sorted»;refine wpAny_bind (m:=checkCount "sorted" 1 1 _) (wpAny_pure (wpAny_bind (collect_list hl (wpAny_bind (wpAny_newList ?_)) (hsz:=by rw[List.length_map];exact hsz))));obtain⟨h5,eh⟩:∃h5,h5=(s.heap.push (seqObj "list" #[] 0)).update s.heap.objs.size (Obj.mapSeq (·++(refsOf us).toArray)):=⟨_,rfl⟩;have hz:h5.objs.size=s.heap.objs.size+1:=by rw[eh,Heap.size_update,size_push']
 have hoL:(h5.push (seqObj "list" (refsOf us).toArray 0)).get? (s.heap.objs.size+1)=some (seqObj "list" (refsOf us).toArray 0):=by rw[<- hz];exact Heap.get?_push_size _ rfl
 have kp:∀b o,s.heap.get? b=some o->(h5.push (seqObj "list" (refsOf us).toArray 0)).get? b=some o:=λb o e=>by
  have hb:=Heap.lt_size e;rw[Heap.get?_push_ne _ _ _ (by rw[hz];exact Nat.ne_of_lt (Nat.lt_succ_of_lt hb)),eh,Heap.get?_update_other _ _ (Nat.ne_of_gt hb),Heap.get?_push_ne _ _ _ (Nat.ne_of_lt hb)];exact e
 have hfin:∀us',us'.Perm us->(us'.map (·.2)).Pairwise (λx y=>ltI y x=false)->Q (.ref (s.heap.objs.size+1)) { s with heap:=sortedHeap (h5.push (seqObj "list" (refsOf us).toArray 0)) (s.heap.objs.size+1) (refsOf us) (refsOf us').toArray }:=by
  rw[eh];exact h
 show wpAny _ _ _ _ _ { s with heap:=((s.heap.push (seqObj "list" #[] 0)).update s.heap.objs.size (Obj.mapSeq (·++(refsOf us).toArray))).push (seqObj "list" (refsOf us).toArray 0) };rw[<- eh,hz];refine wpAny_bind (wpAny_holding (wpAny_call_entry slot_list_sort ⟨_,hoL,rfl⟩ entry_list_sort (zgA (s:={ s with heap:=h5.push (seqObj "list" (refsOf us).toArray 0) }) hoL (λu hu=>?_) hsz λus' a1 a2=>⟨_,rfl,?_⟩) (args_list_sort _)))
 ·obtain⟨⟨b,o,vs,m,e,hb,c,d,i⟩,z⟩:=hT u hu;exact⟨⟨b,o,vs,m,e,kp b o hb,c,d,i⟩,z⟩
 ·exact wpAny_pure ⟨_,rfl,hfin us' a1 a2⟩
end
end Srt
namespace L2
open PySem PySem.Spec PyProof.Rows
theorem zhK:∀ {us:List (Addr×List Int)}{its:List Value},Vals (us.map λu=>V.ref u.1) its->its=Srt.refsOf us
 | [],_,r=>by cases r;rfl
 | u::us,_,r=>by
  cases r with
  | cons r1 r2=>
   have e:_=Value.ref u.1:=r1;rw[e,zhK r2];rfl
theorem zhL:∀(us:List (Addr×List Int)),Vals (us.map λu=>V.ref u.1) (Srt.refsOf us)
 | []=>.nil
 | u::us=>.cons rfl (zhL us)
theorem ints_of:∀ {ns:List Int}{its:List Value},Vals (ns.map V.int) its->IntsAre its ns
 | [],_,r=>by cases r;exact .nil
 | n::ns,_,r=>by
  cases r with
  | cons r1 r2=>
   obtain⟨t,rfl⟩:=(show ∃t,_=Value.int n t from r1);exact .cons n t (ints_of r2)
theorem zfO:∀ {ns:List Int}{its:List Value},IntsAre its ns->Vals (ns.map V.int) its
 | [],_,r=>by cases r;exact .nil
 | n::ns,_,r=>by
  cases r with
  | cons n t r2=>exact .cons ⟨t,rfl⟩ (zfO r2)
noncomputable def ziP (P:Program)(w:World)(a:Addr)(xs:List Int):HO:=.ext λh=>JS.zlv P w h a xs
noncomputable def ziQ (v d:Addr):HO:=.ext λh=>PySem.W.KdlKeysView h v d
section
variable {X:Cx}
theorem zkF:zcd X (.builtin "sorted") (λxs H Q=>∃(p:Addr) (us:List (Addr×List Int)),xs=[.ref p]/\SqL X.K H p (us.map λu=>V.ref u.1)/\(∀u∈us,SqT X.K H u.1 (u.2.map V.int)/\u.2≠[])/\
  ∀(l:Addr) (us':List (Addr×List Int)),H l=none->us'.Perm us->(us'.map (·.2)).Pairwise (λx y=>Srt.ltI y x=false)->Q (.ref l) (upd H l (.lst (us'.map λu=>V.ref u.1)))):=by
 intro pins s σ H xs us Q I r h;obtain⟨p,us,rfl,hp,hT,q⟩:=h;obtain⟨u,rfl,rx⟩:=vals1 r;cases rx;obtain⟨its,r,ht,hz⟩:=I.list hp;have ei:=zhK r;subst ei;rw[List.length_map]at hz;refine Srt.ziO ht.isList (λu hu=>?_) (by lia) λus' a1 a2=>?_
 ·obtain⟨h1,h2⟩:=hT u hu;obtain⟨its2,rv,⟨o,ho,hc,n,hd⟩,_⟩:=I.tuple h1;exact⟨⟨u.1,o,its2,n,rfl,ho,hc,hd,ints_of rv⟩,h2⟩
 ·obtain⟨e,he⟩:=sortedAll_at s.heap (Srt.refsOf us) (Srt.refsOf us').toArray;have kp:∀b o,s.heap.get? b=some o->(sortedAll s.heap (Srt.refsOf us) (Srt.refsOf us').toArray).get? b=some o:=λ_ _=>sortedAll_old;refine⟨.ref (s.heap.objs.size+1),_,I.laid (t':=s.toks) (o:=.lst (us'.map λu=>V.ref u.1)) kp (Nat.le_succ _) ?_,rfl,q _ us' (I.hok.fresh (Nat.le_succ _)) a1 a2⟩;exact⟨by rw[List.length_map,a1.length_eq];exact hz,Srt.refsOf us',e,zhL us',he⟩
theorem zfb (hc:X.calm=true):zcd X (.type "set") (λxs H Q=>∃(p:Addr) (ss:List Int),xs=[.ref p]/\SqL X.K H p (ss.map V.int)/\ss.length+1<scanBound/\∀l,H l=none->Q (.ref l) (upd H l (ziP X.prog X.w l (ss.foldl JS.addS [])))):=by
 intro pins s σ H xs us Q I r h;obtain⟨p,ss,rfl,hp,hz,q⟩:=h;obtain⟨u,rfl,rx⟩:=vals1 r;cases rx;obtain⟨its,r,ht,_⟩:=I.list hp;have hlen:=r.length;rw[List.length_map]at hlen;refine JS.zfb (ys:=ss) (I.ok.hd hc) ht.isList (λi v hv=>?_) (by rw[List.size_toArray];exact hlen) (by rw[List.size_toArray];lia) λh' tk hS kp=>?_
 ·have hv':its[i]? = some v:=by simpa using hv
  have hi:i<its.length:=(List.getElem?_eq_some_iff.mp hv').1;have e1:(ss.map V.int)[i]? = some (V.int ss[i]):=by simp[show i<ss.length by lia]
  obtain⟨u,q1,q2⟩:=r.get e1;rw[hv']at q1;cases q1;obtain⟨t,e2⟩:=(show ∃t,v=Value.int _ t from q2);exact⟨_,t,by simp[show i<ss.length by lia],e2⟩
 ·refine⟨.ref s.heap.objs.size,_,I.laid (t':=tk) (o:=ziP X.prog X.w s.heap.objs.size (ss.foldl JS.addS [])) kp (Nat.le_refl _) ?_,rfl,q _ I.fresh⟩;obtain⟨es,ep,t,rc,_⟩:=id hS;obtain⟨o,ho,_⟩:=rc.obj;exact⟨hS,⟨o,ho⟩,λh1 h2 hs k=>JS.KSet.keep hs k⟩
theorem zgB (hc:X.calm=true):zcd X (.builtin "sorted") (λxs H Q=>∃(p:Addr) (ss:List Int),xs=[.ref p]/\H p=some (ziP X.prog X.w p ss)/\ss.length<64/\∀(l:Addr) (zs:List Int),H l=none->zs.Perm ss->zs.Pairwise (·<=·)->Q (.ref l) (upd H l (.lst (zs.map V.int)))):=by
 intro pins s σ H xs us Q I r h;obtain⟨p,ss,rfl,hp,h64,q⟩:=h;obtain⟨u,rfl,rx⟩:=vals1 r;cases rx;obtain⟨hS,_,_⟩:=(show zaV X.prog X.w H s.heap p (ziP X.prog X.w p ss) from I.hok p _ hp);refine JS.ziy (I.ok.hd hc) hS h64 λh1 h' d tk out zs e a1 a2 a3 kp kp' he=>?_;have I1:Inv X pins σ H { s with heap:=h1,drawn:=d,toks:=tk }:=I.call' (ch:=[]) rfl (Un.kept kp) (I.hok.kept kp) I.bare (λ_ z=>nomatch z);have hl2:zs.length=ss.length:=a2.length_eq;refine⟨.ref h1.objs.size,_,I1.laid (h':=h') (t':=tk) (o:=.lst (zs.map V.int)) kp' (Nat.le_refl _) ?_,rfl,q _ zs (I1.hok.fresh (Nat.le_refl _)) a2 a3⟩;exact⟨by rw[List.length_map,sizeLine_eq];lia,out,e,zfO a1,he⟩
theorem zpU:MtR X "dict.keys" (λx xs H Q=>∃(d:Addr) (kvs:List (Key×V)),x=.ref d/\xs=[]/\Rd H d (.dK kvs)/\∀v,H v=none->Q (.ref v) (upd H v (ziQ v d))):=by
 intro pins s σ H x xs v us Q I rx rv h;obtain⟨d,kvs,rfl,rfl,hq,q⟩:=h;cases rx;cases rv;obtain⟨z,lo,vs,rel,dd⟩:=zfz I.hok hq;refine call_meetsIn PySem.F.slot_dict_keys dd.typeIs PySem.F.entry_dict_keys (PySem.F.args_dict_keys_1 _) (PySem.W.kdl_meets_keys (zay X.prog X.w) d lo) ⟨⟨vs,dd⟩,?_⟩;refine⟨.ref s.heap.objs.size,_,I.laid (t':=s.toks) (o:=ziQ s.heap.objs.size d) (λb o e=>Heap.get?_push_of_some _ e) (Nat.le_refl _) ?_,rfl,q _ I.fresh⟩;exact⟨⟨_,Heap.get?_push_size _ rfl,rfl,rfl⟩,⟨_,Heap.get?_push_size _ rfl⟩,λh1 h2 ⟨o,e,c⟩ k=>⟨o,k o e,c⟩⟩
end
end L2
namespace PL
open PySem PySem.Spec L2
open PyProof.Rows hiding St
open Srt (ltI zgz zcQ zfo zdI zdJ)
section
variable {X:Cx}
theorem zgC (hc:X.calm=true):zcd X (.builtin "sorted") (λxs H Q=>∃(v d:Addr) (kvs:List (Key×V)) (ss:List Str),xs=[.ref v]/\H v=some (ziQ v d)/\Rd H d (.dK kvs)/\kvs.map (·.1)=ss.map Sum.inr/\ss.length<64/\∀(l:Addr) (zs:List Str),H l=none->zs.Perm ss->sortedS zs=true->Q (.ref l) (upd H l (.lst (zs.map V.str)))):=by
 intro pins s σ H xs us Q I r h;obtain⟨v,d,kvs,ss,rfl,hv,hq,hk,h64,q⟩:=h;obtain⟨u,rfl,rx⟩:=vals1 r;cases rx;obtain⟨hS,_,_⟩:=(show zaV X.prog X.w H s.heap v (ziQ v d) from I.hok v _ hv);obtain⟨z,lo,vs,rel,dd⟩:=zfz I.hok hq;obtain⟨ep,hat⟩:=dd.dictAt;have hlen:kvs.length=vs.length:=KV.length rel;have hks:kvs.length=ss.length:=by have:=congrArg List.length hk;simpa using this
 refine Calls.call_function_entry kind_sorted plain_sorted entry_sorted (args_sorted1 _) ?_;unfold Builtin.«sorted»;refine wpAny_bind (m:=checkCount "sorted" 1 1 _) (wpAny_pure ?_);refine wpAny_bind (PySem.W.kdu_collect (A:=X.A.in1) (PySem.W.kdl_keys (knd:=zay X.prog X.w) (kvs:=vs) (ep:=ep)) (I.ok.hd hc) ⟨hS,hat⟩ (by rw[sizeLine_eq];lia) λh1 tk acc kp hacc=>?_);have hst:StrsAre acc.toList ss:=by
  obtain⟨hs,hv⟩:=hacc;have key:∀(l:List Value) (ss:List Str) (n:Nat),l.length=ss.length->(∀(j:Nat) v,l[j]? = some v->∃(x:Str) (t:Tok),ss[j]? = some x/\v=Value.str x t)->StrsAre l ss:=by
   intro l;induction l with
   | nil=>intro ss n hl _;cases ss with
    | nil=>exact .nil
    | cons _ _=>simp at hl
   | cons y l ih=>intro ss n hl hh;cases ss with
    | nil=>simp at hl
    | cons x ss=>
     obtain⟨x',t,e1,e2⟩:=hh 0 y rfl;cases e1;rw[e2];exact .cons x t (ih ss n (by simpa using hl) λj v hj=>hh (j+1) v (by simpa using hj))
  refine key acc.toList ss 0 (by rw[Array.length_toList,hs];lia) λj u hu=>?_;obtain⟨k,x,hx,hk2⟩:=hv j u (by rw[<- Array.getElem?_toList];exact hu);have hj:j<kvs.length:=by have:=(List.getElem?_eq_some_iff.mp hx).1;lia
  have hkj:kvs[j]? = some kvs[j]:=List.getElem?_eq_getElem hj;obtain⟨u2,hu2,_⟩:=zoA rel hkj;rw[hx]at hu2;have ek:k=kvs[j].1:=by cases hu2;rfl
  have es:(kvs.map (·.1))[j]? = (ss.map Sum.inr)[j]?:=by rw[hk]
  rw[List.getElem?_map,List.getElem?_map,hkj]at es;have hjs:j<ss.length:=by lia
  rw[List.getElem?_eq_getElem hjs]at es;have es:kvs[j].1=Sum.inr ss[j]:=Option.some.inj es;rw[ek,es]at hk2;obtain⟨t,e⟩:=Value.isStrOf_shape (show Value.isStrOf ss[j] u=true from hk2);exact⟨ss[j],t,List.getElem?_eq_getElem hjs,e⟩
 have hl64:acc.toList.length<64:=by rw[StrsAre.length hst];exact h64
 refine JS.zjn (s:={ s with heap:=h1,toks:=tk }) hst hl64 λh' out zs e a1 a2 a3 kp' he=>?_;have I1:Inv X pins σ H { s with heap:=h1,toks:=tk }:=I.kept (t':=tk) kp;have hl2:zs.length=ss.length:=a2.length_eq;refine⟨.ref h1.objs.size,_,I1.laid (h':=h') (t':=tk) (o:=.lst (zs.map V.str)) kp' (Nat.le_refl _) ?_,rfl,q _ zs (I1.hok.fresh (Nat.le_refl _)) a2 a3⟩;exact⟨by rw[List.length_map,sizeLine_eq];lia,out,e,zhd a1,he⟩
end
noncomputable def sortI (ss:List (List Int)):List (List Int):=ss.mergeSort λa b=>!ltI b a
theorem sortI_perm (ss:List (List Int)):(sortI ss).Perm ss:=List.mergeSort_perm ss _
theorem znR (ss:List (List Int)):(sortI ss).Pairwise (λx y=>ltI y x=false):=by
 have h:=List.pairwise_mergeSort (le:=λa b:List Int=>!ltI b a) (λa b c h1 h2=>by
  simp only[Bool.not_eq_true']at h1 h2 ⊢;exact zdJ h1 h2) (λa b=>by
  cases h:ltI b a with
  | false=>rfl
  | true=>rw[zcQ _ _ h];rfl) ss
 exact h.imp λ{a b} z=>by simpa using z
theorem zdL:∀ {l m:List (List Int)},l.Perm m->l.Pairwise (λx y=>ltI y x=false)->m.Pairwise (λx y=>ltI y x=false)->l=m
 | [],m,h,_,_=>(List.nil_perm.mp h).symm
 | a::l,[],h,_,_=>absurd h.length_eq (by simp)
 | a::l,b::m,h,h1,h2=>by
  have e:a=b:=by
   rcases List.mem_cons.mp (h.mem_iff.mp List.mem_cons_self)with z | z
   ·exact z
   ·rcases List.mem_cons.mp (h.symm.mem_iff.mp (List.mem_cons_self (a:=b) (l:=m)))with y | y
    ·exact y.symm
    ·exact zfo _ _ ((List.pairwise_cons.mp h2).1 a z) ((List.pairwise_cons.mp h1).1 b y)
  subst e;rw[zdL ((List.perm_cons a).mp h) (List.pairwise_cons.mp h1).2 (List.pairwise_cons.mp h2).2]
theorem zjS {zs ss:List (List Int)}(h:zs.Perm ss)(hp:zs.Pairwise (λx y=>ltI y x=false)):zs=sortI ss:=zdL (h.trans (sortI_perm ss).symm) hp (znR ss)
theorem zgD {K:PySem.W.Frag}{Fz:FZ}{H:Hp}:∀ {ss:List Int}{xs:List V},DenL K Fz H (ss.map PV.int) xs->xs=ss.map V.int
 | [],xs,h=>by rw[List.map_nil]at h;simp only[DenL]at h;exact h
 | s::r,xs,h=>by
  rw[List.map_cons]at h;simp only[DenL]at h;obtain⟨v,t,z,h1,h2⟩:=h;simp only[Den]at h1;subst z h1;rw[List.map_cons,zgD h2]
theorem zgE {K:PySem.W.Frag}{Fz:FZ}{H:Hp}:∀(ss:List Int),DenL K Fz H (ss.map PV.int) (ss.map V.int)
 | []=>DenL.nil
 | s::r=>by rw[List.map_cons,List.map_cons];exact DenL.cons (by simp only[Den]) (zgE r)
theorem zhM {K:PySem.W.Frag}{Fz:FZ}{H:Hp}:∀ {ss:List (List Int)}{xs:List V},DenL K Fz H (ss.map λr=>PV.tup (r.map PV.int)) xs->∃us:List (Addr×List Int),xs=us.map (λu=>V.ref u.1)/\us.map (·.2)=ss/\∀u∈us,H u.1=some (.tup (u.2.map V.int))
 | [],xs,h=>by rw[List.map_nil]at h;simp only[DenL]at h;exact⟨[],h,rfl,λu hu=>by cases hu⟩
 | s::r,xs,h=>by
  rw[List.map_cons]at h;simp only[DenL]at h;obtain⟨v,t,z,h1,h2⟩:=h;simp only[Den]at h1;obtain⟨p,ys,e1,e2,e3⟩:=h1;have e4:=zgD e3;subst e4;obtain⟨us,g1,g2,g3⟩:=zhM h2;refine⟨(p,s)::us,by rw[z,e1,g1];rfl,by rw[List.map_cons,g2],λu hu=>?_⟩;rcases List.mem_cons.mp hu with rfl | hu
  ·exact e2
  ·exact g3 u hu
theorem zhN {K:PySem.W.Frag}{Fz:FZ}{H:Hp}:∀(us:List (Addr×List Int)),(∀u∈us,H u.1=some (.tup (u.2.map V.int)))->DenL K Fz H ((us.map (·.2)).map λr=>PV.tup (r.map PV.int)) (us.map λu=>V.ref u.1)
 | [],_=>DenL.nil
 | u::us,h=>by
  rw[List.map_cons,List.map_cons,List.map_cons];refine DenL.cons ?_ (zhN us λv hv=>h v (List.mem_cons_of_mem _ hv));simp only[Den];exact⟨u.1,_,rfl,h u List.mem_cons_self,zgE u.2⟩
noncomputable def zhO:PF:=λds Q=>∃ss:List (List Int),ds=[.lst (ss.map λr=>PV.tup (r.map PV.int))]/\(∀r∈ss,r≠[])/\Q (.lst ((sortI ss).map λr=>PV.tup (r.map PV.int))) .new
theorem znS {X:Cx}:zdZ X.K (λxs H Q=>∃(p:Addr)(us:List (Addr×List Int)),xs=[.ref p]/\SqL X.K H p (us.map λu=>V.ref u.1)/\(∀u∈us,SqT X.K H u.1 (u.2.map V.int)/\u.2≠[])/\
  ∀(l:Addr) (us':List (Addr×List Int)),H l=none->us'.Perm us->(us'.map (·.2)).Pairwise (λx y=>Srt.ltI y x=false)->Q (.ref l) (upd H l (.lst (us'.map λu=>V.ref u.1)))) zhO where
 mono ds Q Q' m h:=by obtain⟨ss,e1,e2,q⟩:=h;exact⟨ss,e1,e2,m _ _ q⟩
 run Fz H ds vs Q al r h:=by
  obtain⟨ss,rfl,e2,q⟩:=h;obtain⟨v,rfl,rv⟩:=zcV r;obtain⟨a,xs,rfl,h1,h2⟩:=zak rv;obtain⟨us,rfl,g2,g3⟩:=zhM h2;refine⟨a,us,rfl,h1,λu hu=>⟨SqT.of (g3 u hu),e2 _ (by rw[<- g2];exact List.mem_map.mpr ⟨u,hu,rfl⟩)⟩,λl us' hl hz hs=>?_⟩;have ez:us'.map (·.2)=sortI ss:=zjS (by rw[<- g2];exact hz.map _) hs;have hd:DenL X.K Fz H ((us'.map (·.2)).map λr=>PV.tup (r.map PV.int)) (us'.map λu=>V.ref u.1):=zhN us' λu hu=>g3 u (hz.mem_iff.mp hu);rw[ez]at hd;exact q _ Fz _ (.newL al hl hd)
section
variable {X:Cx}{e:Expr}{es:List Expr}{te:TPE}{t:TPA}{x:Str}{p p1 p2 q1 pos pos2 apos cpos:Pos}
theorem zjT (hg:Gl X "sorted") (hm:X.mg "sorted" = none) (ha:PuA X (e::es) t) (he:starEach (e::es) X.env=(false,eval e X.env)::starEach es X.env:=by rfl) (hpl:(backTo pos (starEach es X.env)).any (·.1)=false:=by rfl):PuE X (.Call (.Name "sorted" p) (e::es) [] pos) (tB zhO t):=
 zbS zkF znS hg hm zgl ha (by decide) (by decide) he hpl
noncomputable def zhP (te:TPE):TPE:=λρ Q=>te ρ λd _=>∃ss:List Int,d=.lst (ss.map PV.int)/\ss.length<64/\∀zs:List Int,zs.Pairwise (· < ·)->(∀x,x∈zs↔x∈ss)->Q (.lst (zs.map PV.int)) .new
theorem zen:∀(ys xs:List Int),xs.Nodup->(ys.foldl JS.addS xs).Nodup
 | [],_,h=>h
 | y::ys,xs,h=>by
  rw[List.foldl_cons];refine zen ys _ ?_;unfold JS.addS;split
  ·exact h
  ·rename_i hy
   exact List.nodup_cons.mpr ⟨hy,h⟩
theorem ziR (hc:X.calm=true)(hg:Gl X "sorted") (hm:X.mg "sorted" = none) (hg2:Gl X "set") (hm2:X.mg "set" = none) (he:PuE X e te)
  (hs1:starEach [e] X.env=(false,eval e X.env)::starEach [] X.env:=by rfl) (hpl1:(backTo pos2 (starEach [] X.env)).any (·.1)=false:=by rfl)
  (hs2:starEach [Expr.Call (.Name "set" p2) [e] [] pos2] X.env=(false,eval (Expr.Call (.Name "set" p2) [e] [] pos2) X.env)::starEach [] X.env:=by rfl) (hpl2:(backTo pos (starEach [] X.env)).any (·.1)=false:=by rfl) :
  PuE X (.Call (.Name "sorted" p) [.Call (.Name "set" p2) [e] [] pos2] [] pos) (zhP te) where
 mono ρ Q Q' m h:=he.mono ρ _ _ (λd k ⟨ss,e1,e2,q⟩=>⟨ss,e1,e2,λzs h1 h2=>m _ _ (q zs h1 h2)⟩) h
 run:=PE.weak (zeK (zgB hc) hg hm zgl (zbA (zeW (zfb hc) hg2 hm2 bSet (zbA he.run zce hs1) (by decide) (by decide) hs1 hpl1) zce hs2) (by decide) (by decide) hs2 hpl2) λσ H Q h=>by
  obtain⟨ρ,Fz,R,h⟩:=h;refine⟨ρ,Fz,R,he.mono ρ _ _ (λd k q v F1 H1 p1=>?_) h⟩;obtain⟨ss,rfl,e2,q⟩:=q;obtain⟨a,xs,rfl,h1,h2⟩:=zak (p1.root R);have:=zgD h2;subst this;refine⟨a,ss,rfl,h1,by unfold scanBound;lia,λst hst=>?_⟩;have q1:=JS.zcE ss [];simp only[List.length_nil,Nat.zero_add]at q1;refine⟨st,_,rfl,zag,by lia,λl zs hl hz hs=>?_⟩;have hne:l≠st:=λz=>by subst z;rw[zag]at hl;cases hl
  have hl':H1 l=none:=by rw[zaf hne]at hl;exact hl
  have x2:Ext F1 H1 F1 (upd H1 st (ziP X.prog X.w st (ss.foldl JS.addS []))):=Ext.laid ⟨Same.refl _,λ_ h=>h,λ_ h=>.inl h,p1.ext.al⟩ hst;have p3:Post X.K [] [] F1 (upd H1 st (ziP X.prog X.w st (ss.foldl JS.addS []))) F1 (upd (upd H1 st (ziP X.prog X.w st (ss.foldl JS.addS []))) l (.lst (zs.map V.int))) (.lst (zs.map PV.int)) .new (.ref l):=Post.newL x2.al hl (zgE zs);have hnd:zs.Nodup:=hz.nodup_iff.mpr (zen ss [] List.nodup_nil);refine q zs (List.Pairwise.imp₂ (λa b (h1:a<=b) (h2:a≠b)=>by lia) hs hnd) (λx=>?_) _ F1 _ (p3.behind (p1.ext.trans x2));rw[hz.mem_iff,JS.zdo];simp
noncomputable def zhQ (i:Nat):TPE:=λρ Q=>∃(ss:List Str)(ds:List PV),ρ[i]? = some (some (.dK (ss.map Sum.inr) ds,true))/\ss.length<64/\∀zs:List Str,zs.Perm ss->sortedS zs=true->Q (.lst (zs.map PV.str)) .new
theorem ziS (i:Nat)(hc:X.calm=true)(hg:Gl X "sorted") (hm:X.mg "sorted" = none) (hN:X.N[i]? = some x:=by rfl) (hv:Vis X.env.scope x:=by first | exact Or.inl rfl | exact Or.inr (Or.inl rfl) | exact Or.inr (Or.inr rfl)) (hd:(x == ("__debug__" : Str))=false:=by decide) (hcd:(x == ("__classdict__" : Str))=false:=by decide)
  (hbase:attributeBase (.Name x q1) "keys" X.env (eval (.Name x q1) X.env)=eval (.Name x q1) X.env:=by rfl) (hline:(apos.endLine == cpos.line)=true:=by rfl)
  (hs2:starEach [Expr.Call (.Attribute (.Name x q1) "keys" apos) [] [] cpos] X.env=(false,eval (Expr.Call (.Attribute (.Name x q1) "keys" apos) [] [] cpos) X.env)::starEach [] X.env:=by rfl) (hpl2:(backTo pos (starEach [] X.env)).any (·.1)=false:=by rfl) :
  PuE X (.Call (.Name "sorted" p) [.Call (.Attribute (.Name x q1) "keys" apos) [] [] cpos] [] pos) (zhQ i) where
 mono ρ Q Q' m h:=by obtain⟨ss,ds,e1,e2,q⟩:=h;exact⟨ss,ds,e1,e2,λzs h1 h2=>m _ _ (q zs h1 h2)⟩
 run:=PE.weak (zeK (zgC hc) hg hm zgl (zbA (zqR PySem.F.plainAttrs_dict PySem.F.slot_dict_keys PySem.F.type_dict_keys zpU (zcC hN hv hd hcd) hbase hline) zce hs2) (by decide) (by decide) hs2 hpl2) λσ H Q h=>by
  obtain⟨ρ,Fz,R,ss,ds,e1,e2,q⟩:=h;obtain⟨a,xs,hs,ha,hl,hdn,nf⟩:=zlY R e1;refine⟨_,hs,.inr (.inr (.inl ⟨rfl,.inl ⟨_,ha⟩⟩)),a,(ss.map Sum.inr).zip xs,rfl,rfl,.inl ha,λv hv=>?_⟩;have hne:a≠v:=λz=>by subst z;rw[ha]at hv;cases hv
  have x2:Ext Fz H Fz (upd H v (ziQ v a)):=Ext.laid ⟨Same.refl _,λ_ h=>h,λ_ h=>.inl h,R.al⟩ hv;refine⟨v,a,(ss.map Sum.inr).zip xs,ss,rfl,zag,.inl (by rw[zaf hne];exact ha),List.map_fst_zip (by lia),e2,λl zs hl hz hs=>?_⟩;have p3:Post X.K [] [] Fz (upd H v (ziQ v a)) Fz (upd (upd H v (ziQ v a)) l (.lst (zs.map V.str))) (.lst (zs.map PV.str)) .new (.ref l):=Post.newL x2.al hl (zfg zs);exact q zs hz hs _ Fz _ (p3.behind x2)
noncomputable def zse (i:Nat)(te:TPE):TPM:=λρ Q=>∃ds,ρ[i]? = some (some (.lst ds,true))/\te ρ λd k=>∃es,d=.lst es/\k=.new/\ds.length+es.length<=sizeLine/\Q .non (ρ.set i (some (.lst (ds++es),true)))
theorem znT (i:Nat)(he:PuE X e te)(hN:X.N[i]? = some x:=by rfl)(hv:Vis X.env.scope x:=by first | exact Or.inl rfl | exact Or.inr (Or.inl rfl) | exact Or.inr (Or.inr rfl))(hd:(x == ("__debug__" : Str))=false:=by decide) (hcd:(x == ("__classdict__" : Str))=false:=by decide)
  (hbase:attributeBase (.Name x p) "extend" X.env (eval (.Name x p) X.env)=eval (.Name x p) X.env:=by rfl)
  (hfew:((backTo cpos (starEach [e] X.env)).all (λx=>!x.1)&&(backToKw cpos (keywordEach [] X.env)).all (λx=>x.1.isSome)&&decide ([e].length+([]:List Keyword).length+(if ([]:List Keyword).isEmpty then 0 else 1)<30))=true:=by rfl)
  (hline:(apos.endLine == cpos.line)=true:=by rfl) (hs:starEach [e] X.env=(false,eval e X.env)::starEach [] X.env:=by rfl) (hplain:(backTo cpos (starEach [] X.env)).any (·.1)=false:=by rfl):PuM X (.Call (.Attribute (.Name x p) "extend" apos) [e] [] cpos) (zse i te) where
 mono ρ Q Q' m h:=by
  obtain⟨ds,e1,h⟩:=h;exact⟨ds,e1,he.mono ρ _ _ (λd _ ⟨es,q1,q2,q3,q⟩=>⟨es,q1,q2,q3,m _ _ q⟩) h⟩
 run:=PE.weak (zks PySem.F.plainAttrs_list PySem.F.slot_list_extend PySem.F.type_list_extend zla (zcC hN hv hd hcd) (zbA he.run zce hs) hbase hfew hline hs hplain) λσ H Q h=>by
  obtain⟨ρ,Fz,R,ds,e1,h⟩:=h;obtain⟨a,xs,hs,ha,hd,nf⟩:=zcc R e1;refine⟨_,hs,.inl ⟨rfl,xs,SqL.of ha⟩,ρ,Fz,R,he.mono ρ _ _ (λd k q v F1 H1 p1=>?_) h⟩;obtain⟨es,rfl,rfl,q2,q⟩:=q;have R2:=R.ext p1.ext;obtain⟨a',xs',hs',ha',hd',nf'⟩:=zcc R2 e1;rw[hs]at hs';cases hs';obtain⟨pe,b,rfl,hb0,hbf,zs,hb,hz⟩:=p1;have hl:=hd'.length;have hl2:=hz.length;refine⟨a,b,xs',zs,rfl,rfl,ha',hb,by lia,?_⟩;have ow:Own X.K F1 (upd H1 a (.lst (xs'++zs))) (.lst (ds++es)) a:=⟨_,zag,(DenL.rew ha' nf' (hd'.append hz))⟩;obtain⟨R3,s3,o3⟩:=R2.mut e1 hs ha' ow;exact q .non F1 _ ((Step.of pe).trans (zar.refl ρ σ H) s3) (zar.trans (Step.of pe) (zar.refl ρ σ H) o3) R3 (by simp only[Den])
end
noncomputable def zsf (ti:TPI)(t:Nat)(tc:TPT):TPS:=λρ O=>ti ρ λits _=>(∀(i:Nat) d,its[i]? = some d->zrq tc (ρ.set t (some (d,false))) λb=>b=false)/\O.nx ρ/\∀d∈its,O.nx (ρ.set t (some (d,false)))
section
variable {X:Cx}{tg iter c:Expr}{a:List Stmt}{ti:TPI}{tc:TPT}{ta:TPS}{pos p2:Pos}
theorem znU {t:Nat}(hc:X.calm=true)(hp:PassesOwn (model X.prog X.w) X.A X.env X.xe)(hi:PuI X tg iter ti)(hg:PuG X tg (zaY t))(ht:PuT X c tc)(ha:PuSs X a ta)(hs:∀x,foldedSetIterable iter X.env x=pure x:=by intro _;rfl):PuS X (.For tg iter [.If c a [] p2] [] pos) (zsf ti t tc) where
 mono ρ O O' m h:=hi.mono ρ _ _ (λits o ⟨h1,h2,h3⟩=>⟨h1,m.nx _ h2,λd hd=>m.nx _ (h3 d hd)⟩) h
 run:=PS.weak (zjc hp hc hi.run hg.run (zir (zoN ht.run ha.run ziq)) hs) λD σ H h=>by
  obtain⟨ρ,Fz,R,h⟩:=h;refine⟨ρ,Fz,R,hi.mono ρ _ _ (λits o q J Fz1 H1 x wk=>?_) h⟩;obtain⟨h1,h2,h3⟩:=q;have R1:=R.ext x;refine⟨λi m σ' H'=>m=its.length-i/\i<=its.length/\∃ρ' F',Rel X.K F' ρ' σ' H'/\(ρ'=ρ\/∃d∈its,ρ'=ρ.set t (some (d,false)))/\Ext Fz1 H1 F' H'/\∀b,zax ρ' σ' b->zax ρ σ b,
   ⟨its.length,by lia,Nat.zero_le _,ρ,Fz1,R1,.inl rfl,⟨Same.refl _,λ_ h=>h,λ_ h=>.inl h,R1.al⟩,λ_ h=>h⟩,?_⟩
  rintro i m σ' H' ⟨rfl,hle,ρ',F',R',hρ,x',o'⟩;obtain⟨wgo,wstop⟩:=wk H' (.inl x'.same) i;by_cases hlt:i<its.length
  ·obtain⟨go,yl⟩:=wgo its[i] (List.getElem?_eq_getElem hlt);refine .inr ⟨go,λσ2 H2=>∃ρ2 F2,Rel X.K F2 ρ2 σ2 H2/\(ρ2=ρ\/∃d∈its,ρ2=ρ.set t (some (d,false)))/\Ext Fz1 H1 F2 H2/\∀b,zax ρ2 σ2 b->zax ρ σ b,λσ2 H2 hN=>⟨its.length-(i+1),by lia,rfl,hlt,hN⟩,λxv H2 y=>?_⟩;obtain⟨sm,dn⟩:=yl xv H2 y;have x2:Ext F' H' F' H2:=⟨sm,λ_ h=>h,λ_ h=>.inl h,λb hb z=>R'.al b hb (sm.free z)⟩;refine⟨ρ',F',its[i],R'.ext x2,Den.mono (Keep.of (Same.refl _)) x'.sub _ _ dn,λσ2 R2 o2=>?_⟩;have e2:ρ'.set t (some (its[i],false))=ρ.set t (some (its[i],false)):=by
    rcases hρ with rfl | ⟨d,_,rfl⟩
    ·rfl
    ·rw[List.set_set]
   rw[e2]at R2 o2;refine⟨ρ.set t (some (its[i],false)),F',R2,ht.mono _ _ _ (λb hb F3 H3 x3=>?_) (h1 i its[i] (List.getElem?_eq_getElem hlt))⟩;have hb:b=false:=hb;subst hb;dsimp only;rw[if_neg Bool.false_ne_true];exact⟨_,F3,R2.ext x3,.inr ⟨its[i],List.getElem_mem hlt,rfl⟩,(x'.trans x2).trans x3,λb hb=>o' b (o2 b hb)⟩
  ·have e:i=its.length:=by lia
   subst e;refine .inl ⟨wstop (Nat.le_refl _),?_⟩;have st:Step ρ σ Fz H F' H':=.of (x.trans x');have oi:zar ρ σ H ρ' σ':=λb hb=>.inl (o' b hb);rcases hρ with rfl | ⟨d,hd,rfl⟩
   ·exact h2 σ' F' H' st oi R'
   ·exact h3 d hd σ' F' H' st oi R'
end
end PL
namespace Q03
open PySem PySem.Spec L2 PL
open PyProof.Rows hiding St
noncomputable def top (i:Nat):Stmt:=PySem.Challenge.pw_joinwood_k03_answers.main.body.getD i (.Pass ⟨0,0,0,0⟩)
noncomputable abbrev zaK:Stmt:=top 1
noncomputable abbrev zaU:Stmt:=top 2
noncomputable abbrev zbB:Stmt:=top 3
noncomputable abbrev zaM:Stmt:=top 4
noncomputable abbrev zaG:Stmt:=top 5
noncomputable abbrev zaH:Stmt:=top 7
noncomputable abbrev zao:Stmt:=top 8
noncomputable abbrev zaq:Stmt:=top 9
noncomputable abbrev zbp:Stmt:=top 10
noncomputable abbrev zdM:Stmt:=top 12
noncomputable abbrev sMix:Stmt:=top 13
noncomputable abbrev zbq:Stmt:=top 14
noncomputable abbrev zdN:Stmt:=top 15
noncomputable abbrev zbr:Stmt:=top 16
noncomputable abbrev zeo:Stmt:=top 17
noncomputable abbrev sDue:Stmt:=top 18
noncomputable abbrev sLaw:Stmt:=top 19
noncomputable def ixS (ls:List Str)(w:Str):Nat:=idxP (ls.map PV.str) (.str w)
theorem zcH {ls:List Str}{w:Str}(h:w∈ls):ixS ls w<ls.length:=by
 have:idxP (ls.map PV.str) (.str w)<(ls.map PV.str).length:=List.findIdx_lt_length_of_exists ⟨.str w,List.mem_map.mpr ⟨w,h,rfl⟩,by simp⟩;simpa[ixS]using this
noncomputable def cellsOf (row:List PV)(ls ws:List Str):List PV:=ws.map λw=>row.getD (ixS ls w) .non
noncomputable def zbZ:PF:=λds Q=>∃(row:List PV)(lp:PV)(ls ws:List Str),ds=[.tup row,lp,.lst (ws.map PV.str)]/\(lp=.lst (ls.map PV.str)\/lp=.tup (ls.map PV.str))/\(∀w∈ws,w∈ls)/\ls.length=row.length/\ws.length<=100/\Q (.tup (cellsOf row ls ws)) .frz
theorem zcI:zbR zbZ:=λds Q Q' m ⟨a,b,c,d,e,h1,h2,h3,h4,q⟩=>⟨a,b,c,d,e,h1,h2,h3,h4,m _ _ q⟩
theorem zfp (ls:List Str):(ls.map PV.str).all zfl=true:=by simp[zfl]
open Lean in
def puM (x:String):MacroM (TSyntax `tactic):=do
 let ls<-((("pSeq zdD zbW bxIf zef zeg zbX zdE zaF zcp zco rdE rdT BX.pv pIdx fSum fOrd zdG zej zcn zbY zei zbO pSet pRet pIf zda zcj zbF mApp zec zck zed zaY zdb zbu zdc t2 i0 i2 pVar pC zbm pNil pTup pLst noOwn isOwn tBl zcZ tOrP zds tTru zdv TruP zdX zdY tIfE pEq pIn pIx pCat PL.tB fLen LenP zdx zbV fIsi zbc zaQ pSlL zdA zdB zcB zbn iLst zeb pDI zdC fAll zcm iDic pFor PL.plain zbe zbU blkP List.map_cons List.map_nil List.length_cons List.length_nil List.cons_append List.nil_append List.replicate List.getElem?_cons_zero List.getElem?_cons_succ List.getElem?_nil Option.getD_some Option.getD_none List.set_cons_zero List.set_cons_succ List.cons.injEq Option.some.injEq Prod.mk.injEq PV.int.injEq PV.bl.injEq PV.str.injEq PV.lst.injEq PV.tup.injEq PV.ty.injEq PV.dK.injEq exists_eq_left' exists_eq_left exists_eq' exists_eq exists_and_left exists_and_right exists_eq_right true_and and_true reduceCtorEq false_and and_false false_or or_false exists_false exists_const Bool.false_eq_true if_true if_false and_assoc ite_true ite_false Bool.not_eq_true' decide_eq_true_eq decide_eq_false_iff_not Bool.not_false Bool.not_true true_or or_true not_true_eq_false not_false_eq_true Bool.and_eq_true Nat.zero_add Nat.sub_self Nat.reduceAdd Nat.reduceSub implies_true ne_eq zbP zaT Bool.true_and Bool.and_true List.all_nil "++x).splitOn " ").filter (·!="")).toArray.mapM λn=>`(Lean.Parser.Tactic.simpLemma|$(mkIdent n.toName):term)
 `(tactic|simp only[$ls,*])
local macro_rules | `(tactic| walk_at "pu")=>puM ""
local macro_rules | `(tactic| walk_at "go")=>`(tactic| ((first | (with_reducible refine hold ?_) | (with_reducible refine zbI ?_) | (with_reducible refine zeI ?_));walk_at "pu"))
local macro_rules | `(tactic| walk_at "side")=>`(tactic| first | assumption | decide | lia | exact⟨by decide,by decide⟩ | exact⟨by decide,by decide,by decide⟩ | exact Or.inl ⟨by lia,by lia⟩ | exact Or.inr ⟨by lia,by lia⟩)
local macro_rules | `(tactic| walk_at "auto")=>`(tactic| repeat (first | ((with_reducible refine hold ?_);walk_at "pu") | ((with_reducible refine zbI ?_);walk_at "pu") | ((with_reducible refine And.intro ?_ ?_);(· walk_at "side"))))
section
variable {P:Program}{w:World}{K:PySem.W.Frag}{mg:Str->Option Value}{base:Heap}
theorem zhR:zaC ["row","letters","wanted"] ["row","letters","wanted"] (zac zaK):=⟨rfl,rfl,rfl,by decide +kernel,rfl,by decide +kernel,by decide +kernel⟩
theorem zep {f:Addr}{fd:FuncData}(F:Fun K "cells_of" "cells_of" zaK f fd) (B:Bl mg):FnOk P w K mg base CX0 1 f fd ["row","letters","wanted"] (spP K zbZ):=by
 refine zaL F zhR (λds Q ⟨a,b,c,d,e,_⟩=>by rw[e];rfl) (λcdv A outer s H E hr=>?_);have hu:(A.deeper (envOfC "cells_of" (zac zaK) s.heap.objs.size f cdv)).units+16<cLine:=by have q:=hr.units;lia
 have nd:=zhR.nd;refine⟨_,(zah (zaD (zdz rfl B.tuple (zaa (zaR (N:=["letter","row","letters"]) (k:=1) (js:=[0,1]) rfl (zcD (sup:=zac zaK) (XN:=["row","letters","wanted"]) rfl rfl (by decide +kernel)) (by decide) (zaP (by decide)) (zaw (zab 2)) ⟨λ_ _ _ _ _=>(zai (i:=0) (by show(["letter","row","letters"]:List Str).Nodup;decide +kernel) rfl (Or.inl rfl)),λ_ _ _ _ _=>zbo,λ_ _ _ _ _=>(zaS (zab 1) (zgt (zab 2) (zab 0)))⟩) zad)))),λds Q h=>?_⟩;obtain⟨row,lp,ls,ws,rfl,hlp,hws,hll,h100,q⟩:=h;walk_at "pu";refine⟨by rw[List.length_map,sizeLine_eq];lia,λi out=>out=cellsOf row ls (ws.take i),rfl,?_,?_⟩
 ·rintro i d out hd-rfl;rw[List.getElem?_map]at hd;cases hw:ws[i]? with
  | none=>rw[hw]at hd;cases hd
  | some x=>
   rw[hw]at hd;cases hd;have hx:=hws x (List.mem_of_getElem? hw);have hi:=zcH hx;refine⟨ls.map PV.str,hlp,zfp ls,rfl,List.mem_map.mpr ⟨x,hx,rfl⟩,row[ixS ls x]'(by lia),zbl (List.getElem?_eq_getElem (show ixS ls x<row.length by lia)),?_⟩;show _=_;rw[List.take_add_one,hw];unfold cellsOf;rw[List.map_append]
   congr 1
   simp[List.getElem?_eq_getElem (show ixS ls x<row.length by lia)]
 ·rintro out-rfl;rw[List.length_map,List.take_of_length_le (Nat.le_refl _)];exact q
end
noncomputable abbrev zbC:=List (List Int×List Int)
noncomputable def keyI (κ:List Int):List Key:=κ.map λi=>(Sum.inl i:Key)
noncomputable def dkI (cs:List Int):PV:=.dK (keyI cs) (cs.map λ_=>.bl true)
noncomputable def gks (g:zbC):List (List Key):=g.map λp=>keyI p.1
noncomputable def gvs (g:zbC):List PV:=g.map λp=>dkI p.2
noncomputable def zoE (g:zbC):PV:=.dT (gks g) (gvs g)
noncomputable def rowI (r:List Int):PV:=.tup (r.map PV.int)
theorem zgF {a b:List Int}(h:keyI a=keyI b):a=b:=by
 unfold keyI at h;exact List.map_inj_right (λx y e=>by injection e) |>.mp h
theorem zoF (κ:List Int):keyT (keyI κ)=rowI κ:=by
 unfold keyT keyI rowI;rw[List.map_map];rfl
noncomputable def addC (cs:List Int)(c:Int):List Int:=if c∈cs then cs else cs++[c]
noncomputable def zbD (g:zbC)(κ:List Int)(c:Int):zbC:=if g.any (λp=>decide (p.1=κ))=true then g.map (λp=>if p.1=κ then(p.1,addC p.2 c) else p) else g++[(κ,[c])]
theorem znV (g:zbC)(κ:List Int)(c:Int):(zbD g κ c).map (·.1)=if g.any (λp=>decide (p.1=κ))=true then g.map (·.1) else g.map (·.1)++[κ]:=by
 unfold zbD;split
 ·rw[List.map_map];refine List.map_congr_left λp _=>?_;show(if p.1=κ then(p.1,addC p.2 c) else p).1=p.1
  split<;>rfl
 ·rw[List.map_append];rfl
theorem znW {g:zbC}{κ:List Int}{c:Int}(h:(g.map (·.1)).Nodup):((zbD g κ c).map (·.1)).Nodup:=by
 rw[znV];split
 ·exact h
 ·rename_i hn
  rw[List.nodup_append];refine⟨h,by simp,λx hx y hy e=>hn ?_⟩;rw[List.any_eq_true];obtain⟨p,hp,rfl⟩:=List.mem_map.mp hx;exact⟨p,hp,by rw[decide_eq_true_iff,e];exact List.mem_singleton.mp hy⟩
theorem zmF (g:zbC)(κ:List Int):hasT (gks g) (keyI κ)=g.any λp=>decide (p.1=κ):=by
 unfold hasT gks;rw[List.any_map]
 congr 1
 funext p;show decide (keyI p.1=keyI κ)=decide (p.1=κ);by_cases e:p.1=κ
 ·simp[e]
 ·have:¬ keyI p.1=keyI κ:=λz=>e (zgF z);simp[e,this]
theorem putI (cs:List Int)(c:Int):zhC (keyI cs) (cs.map λ_=>.bl true) (.inl c) (.bl true)=dkI (addC cs c):=by
 have hk:hasK (keyI cs) (.inl c)=decide (c∈cs):=by
  unfold hasK keyI;rw[List.any_map,Bool.eq_iff_iff,List.any_eq_true,decide_eq_true_iff];constructor
  ·rintro⟨x,hx,e⟩;have:x=c:=by simpa using e
   rw[<- this];exact hx
  ·exact λh=>⟨c,h,by simp⟩
 unfold zhC addC dkI;rw[hk];by_cases h:c∈cs
 ·rw[if_pos (decide_eq_true h),if_pos h]
  congr 1
  unfold putD keyI;rw[List.zip_map',List.map_map];refine List.map_congr_left λx _=>?_;show(if (Sum.inl x:Key)=Sum.inl c then PV.bl true else PV.bl true)=_
  split<;>rfl
 ·rw[if_neg (by simpa using h),if_neg h];unfold keyI;rw[List.map_append,List.map_append];rfl
theorem zsg {g:zbC}{κ:List Int}(h:g.any (λp=>decide (p.1=κ))=true)(nd:(g.map (·.1)).Nodup):∃(j:Nat)(cs:List Int),ixK (gks g) (keyI κ)=j/\g[j]? = some (κ,cs)/\∀(m:Nat) p,g[m]? = some p->(p.1=κ↔m=j):=by
 have hex:∃x∈gks g,decide (x=keyI κ)=true:=by
  obtain⟨p,hp,e⟩:=List.any_eq_true.mp h;have e:p.1=κ:=by simpa using e
  exact⟨keyI p.1,List.mem_map.mpr ⟨p,hp,rfl⟩,by rw[e];simp⟩
 obtain⟨j,hj,hlt,hat⟩:∃j,ixK (gks g) (keyI κ)=j/\j<(gks g).length/\(gks g)[j]? = some (keyI κ):=by
  have hlt:(gks g).findIdx (λx=>decide (x=keyI κ))<(gks g).length:=List.findIdx_lt_length_of_exists hex;have:=List.findIdx_getElem (p:=λx=>decide (x=keyI κ)) (xs:=gks g) (w:=hlt);exact⟨(gks g).findIdx (λx=>decide (x=keyI κ)),rfl,hlt,by rw[List.getElem?_eq_getElem hlt];exact congrArg some (by simpa using this)⟩
 have hq:∃q,g[j]? = some q/\q.1=κ:=by
  unfold gks at hat;rw[List.getElem?_map]at hat;cases hg:g[j]? with
  | none=>rw[hg]at hat;cases hat
  | some q=>rw[hg]at hat;exact⟨q,rfl,zgF (Option.some.inj hat)⟩
 obtain⟨q,hq,hk⟩:=hq;refine⟨j,q.2,hj,by rw[hq];congr 1;exact Prod.ext hk rfl,λm p hm=>?_⟩;constructor
 ·intro e;have h1:(g.map (·.1))[m]? = some κ:=by rw[List.getElem?_map,hm,<- e];rfl
  have h2:(g.map (·.1))[j]? = some κ:=by rw[List.getElem?_map,hq,<- hk];rfl
  exact(List.getElem?_inj (by have:=(List.getElem?_eq_some_iff.mp hm).1;simpa using this) nd).mp (h1.trans h2.symm)
 ·intro e;subst e;rw[hq]at hm;rw[<- Option.some.inj hm];exact hk
theorem znX {g:zbC}(nd:(g.map (·.1)).Nodup)(κ:List Int)(c:Int):∃cs:List Int,(zcu (gks g) (gvs g) (keyI κ)).2[ixK (zcu (gks g) (gvs g) (keyI κ)).1 (keyI κ)]? = some (dkI cs)/\(cs=[]\/∃κ',(κ',cs)∈g)/\
  (BX.T (zcu (gks g) (gvs g) (keyI κ)).1 ((zcu (gks g) (gvs g) (keyI κ)).2.set (ixK (zcu (gks g) (gvs g) (keyI κ)).1 (keyI κ)) (zhC (keyI cs) (cs.map λ_=>.bl true) (.inl c) (.bl true))))=.T (gks (zbD g κ c)) (gvs (zbD g κ c)):=by
 unfold zcu;rw[zmF];by_cases h:g.any (λp=>decide (p.1=κ))=true
 ·rw[if_pos h];obtain⟨j,cs,e1,e2,e3⟩:=zsg h nd;refine⟨cs,?_,.inr ⟨κ,List.mem_of_getElem? e2⟩,?_⟩
  ·show(gvs g)[ixK (gks g) (keyI κ)]? = _;rw[e1];unfold gvs;rw[List.getElem?_map,e2];rfl
  ·rw[putI];show BX.T (gks g) ((gvs g).set (ixK (gks g) (keyI κ)) (dkI (addC cs c)))=_;rw[e1];have hg:zbD g κ c=g.map (λp=>if p.1=κ then(p.1,addC p.2 c) else p):=by unfold zbD;rw[if_pos h]
   rw[hg]
   congr 1
   ·unfold gks;rw[List.map_map];refine List.map_congr_left λp _=>?_;show keyI p.1=keyI (if p.1=κ then(p.1,addC p.2 c) else p).1
    split<;>rfl
   ·refine List.ext_getElem? λm=>?_;unfold gvs;rw[List.getElem?_set,List.getElem?_map,List.getElem?_map,List.getElem?_map];by_cases em:j=m
    ·subst em;have hjl:j<(g.map λp=>dkI p.2).length:=by have:=(List.getElem?_eq_some_iff.mp e2).1;simpa using this
     rw[if_pos rfl,if_pos hjl,e2];simp
    ·rw[if_neg em];cases hm:g[m]? with
     | none=>rfl
     | some p=>
      have:¬ p.1=κ:=λz=>em ((e3 m p hm).mp z).symm;simp[this]
 ·rw[if_neg h];have hk:keyI κ∉gks g:=λz=>h (by rw[<- zmF];exact zgs.mpr z);refine⟨[],?_,.inl rfl,?_⟩
  ·show(gvs g++[PV.dK [] []])[ixK (gks g++[keyI κ]) (keyI κ)]? = _;rw[ziJ hk];have:(gks g).length=(gvs g).length:=by simp[gks,gvs]
   rw[this,List.getElem?_append_right (Nat.le_refl _),Nat.sub_self];rfl
  ·rw[putI];show BX.T (gks g++[keyI κ]) ((gvs g++[PV.dK [] []]).set (ixK (gks g++[keyI κ]) (keyI κ)) _)=_;rw[ziJ hk];have:(gks g).length=(gvs g).length:=by simp[gks,gvs]
   rw[this,List.set_append_right _ _ (Nat.le_refl _),Nat.sub_self];have hg:zbD g κ c=g++[(κ,[c])]:=by unfold zbD;rw[if_neg h]
   rw[hg];unfold gks gvs;rw[List.map_append,List.map_append];rfl
noncomputable def zal (row:List Int)(ls ws:List Str):List Int:=ws.map λw=>row.getD (ixS ls w) 0
theorem ziT {row:List Int}{ls ws:List Str}(hl:ls.length=row.length)(hw:∀w∈ws,w∈ls):PV.tup (cellsOf (row.map PV.int) ls ws)=rowI (zal row ls ws):=by
 unfold rowI zal cellsOf;rw[List.map_map]
 congr 1
 refine List.map_congr_left λw hm=>?_;have hi:=zcH (hw w hm);have h1:(row.map PV.int).getD (ixS ls w) .non=PV.int (row[ixS ls w]'(by lia)):=by
  rw[List.getD_eq_getElem?_getD,List.getElem?_map,List.getElem?_eq_getElem (by lia)];rfl
 have h2:row.getD (ixS ls w) 0=row[ixS ls w]'(by lia):=by
  rw[List.getD_eq_getElem?_getD,List.getElem?_eq_getElem (by lia)];rfl
 show(row.map PV.int).getD (ixS ls w) .non=PV.int (row.getD (ixS ls w) 0);rw[h1,h2]
noncomputable def zaA (ls ea:List Str):List Str:=ls.filter λx=>decide (x∈ea)
noncomputable def zaJ (ls ea:List Str)(x:Str)(rows:List (List Int)):zbC:=rows.foldl (λg r=>zbD g (zal r ls (zaA ls ea)) (r.getD (ixS ls x) 0)) []
structure zmG (ls:List Str)(rows:List (List Int)):Prop where
 many:rows.length<=10000
 wide:∀r∈rows,r.length=ls.length
noncomputable def zeR:PF:=λds Q=>∃(ls ea:List Str)(x:Str)(rows:List (List Int)),ds=[.tup (ls.map PV.str),.lst (rows.map rowI),.lst (ea.map PV.str),.str x]/\ls.length<=100/\x∈ls/\zmG ls rows/\Q (.tup [.lst ((zaA ls ea).map PV.str),zoE (zaJ ls ea x rows)]) .frz
theorem zhS:zbR zeR:=λds Q Q' m ⟨a,b,c,d,e,h1,h2,h3,q⟩=>⟨a,b,c,d,e,h1,h2,h3,m _ _ q⟩
theorem zjU:∀(rows:List (List Int))(g:zbC)(k:List Int->List Int)(c:List Int->Int),(g.map (·.1)).Nodup->((rows.foldl (λg r=>zbD g (k r) (c r)) g).map (·.1)).Nodup
 | [],g,k,c,h=>h
 | r::rows,g,k,c,h=>zjU rows _ k c (znW h)
theorem zmH (g:zbC)(κ:List Int)(c:Int):(zbD g κ c).length<=g.length+1:=by
 unfold zbD;split
 ·rw[List.length_map];lia
 ·rw[List.length_append];simp
theorem znY (cs:List Int)(c:Int):(addC cs c).length<=cs.length+1:=by
 unfold addC;split
 ·lia
 ·simp
theorem ziU {g:zbC}{κ:List Int}{c:Int}{M:Nat}(h:∀p∈g,p.2.length<=M):∀p∈zbD g κ c,p.2.length<=M+1:=by
 unfold zbD;split
 ·intro p hp;obtain⟨q,hq,rfl⟩:=List.mem_map.mp hp;have h1:=h q hq;have h2:=znY q.2 c;by_cases e:q.1=κ
  ·rw[if_pos e];show(addC q.2 c).length<=_;lia
  ·rw[if_neg e];lia
 ·intro p hp;rcases List.mem_append.mp hp with hp | hp
  ·have:=h p hp;lia
  ·rw[List.mem_singleton.mp hp];simp
theorem zfP:∀(rows:List (List Int))(g:zbC)(k:List Int->List Int)(c:List Int->Int)(M:Nat),(∀p∈g,p.2.length<=M)->(rows.foldl (λg r=>zbD g (k r) (c r)) g).length<=g.length+rows.length/\∀p∈rows.foldl (λg r=>zbD g (k r) (c r)) g,p.2.length<=M+rows.length
 | [],g,k,c,M,h=>⟨by simp,by simpa using h⟩
 | r::rows,g,k,c,M,h=>by
  obtain⟨h1,h2⟩:=zfP rows (zbD g (k r) (c r)) k c (M+1) (ziU h);have h3:=zmH g (k r) (c r);refine⟨by rw[List.foldl_cons,List.length_cons];lia,λp hp=>?_⟩;have:=h2 p hp;rw[List.length_cons];lia
theorem zcq (r:List Int):zaT (r.map PV.int)=true:=by
 induction r with
 | nil=>rfl
 | cons a r ih=>simp[zaT,zbO,ih]
theorem zcv (r:List Str):(r.map PV.str).all (PL.plain 6)=true:=by simp[PL.plain]
theorem zbh {x:Str}{r:List Str}:PV.str x∈r.map PV.str↔x∈r:=by simp
local macro_rules | `(tactic| walk_at "pu")=>puM "zbZ pFrz zdu"
section
variable {P:Program}{w:World}{K:PySem.W.Frag}{mg:Str->Option Value}{base:Heap}
theorem zhT:zaC ["letters","rows","earlier","letter","known","place","choices","row","cells"] ["letters","rows","earlier","letter"] (zac zaU):=⟨rfl,rfl,rfl,by decide +kernel,rfl,by decide +kernel,by decide +kernel⟩
theorem zkG {f f1:Addr}{fd fd1:FuncData}(F:Fun K "guide_of" "guide_of" zaU f fd) (CellsOf:Fx K mg "cells_of" zaK ["row","letters","wanted"] f1 fd1) (B:Bl mg):FnOk P w K mg base CX0 2 f fd ["letters","rows","earlier","letter"] (spP K zeR):=by
 have GCellsOf:FnOk P w K mg base CX0 1 f1 fd1 ["row","letters","wanted"] (spP K zbZ):=zep CellsOf.fn B;refine zaL F zhT (λds Q ⟨a,b,c,d,e,_⟩=>by rw[e];rfl) (λcdv A outer s H E hr=>?_);have hu:(A.deeper (envOfC "guide_of" (zac zaU) s.heap.objs.size f cdv)).units+16<cLine:=by have q:=hr.units;lia
 have nd:=zhT.nd;refine⟨_,(zae (zjt (i:=4) (N:=["name","earlier"]) (k:=1) (js:=[2]) rfl (zcD (sup:=zac zaU) (XN:=["letters","rows","earlier","letter","known","place","choices","row","cells"]) rfl rfl (by decide +kernel)) (by decide) (zaP (by decide)) (zff (zab 0)) ⟨λ_ _ _ _ _=>(zai (i:=0) (by show(["name","earlier"]:List Str).Nodup;decide +kernel) rfl (Or.inl rfl)),λ_ _ _ _ _=>(zcN (zlN hu (zab 0) (zab 1))),λ_ _ _ _ _=>(zab 0)⟩ nd rfl rfl)
   (zae (zam (i:=5) nd rfl (Or.inl rfl) (zgt (zab 0) (zab 3)))
   (zmt (z:=6) nd rfl (Or.inl rfl) (zcO (ziH (i:=7) nd rfl (Or.inl rfl) rfl PassesOwn.never (zaw (zab 1)) (znK (iy:=8) (hu1 hu) nd (zan GCellsOf zcI hr rfl CellsOf.mg CellsOf.fn.kp CellsOf.bd (zaa (zab 7) (zaa (zab 0) (zaa (zab 4) zad)))) (zaS (zab 7) (zab 5)) ziA zgp))
   (zjE (zah (zbd 4 (zaD (zhj (zaa (zab 4) (zaa (zab 6) zad))))))))))),λds Q h=>?_⟩
 obtain⟨ls,ea,x,rows,rfl,hl100,hx,rok,q⟩:=h;have hsz:=sizeLine_eq;walk_at "pu";refine⟨by rw[List.length_map];lia,λi out=>out=(zaA (ls.take i) ea).map PV.str,rfl,?_,?_⟩
 ·rintro i d out hd-rfl;rw[List.getElem?_map]at hd;cases hw:ls[i]? with
  | none=>rw[hw]at hd;cases hd
  | some y=>
   rw[hw]at hd;cases hd;refine⟨rfl,zcv ea,ite2 (λe=>?_) (λe=>?_)⟩
   ·have hy:y∈ea:=zbh.mp e;show _=_;rw[List.take_add_one,hw];unfold zaA;simp[hy]
   ·have hy:¬ y∈ea:=λz=>e (zbh.mpr z);show _=_;rw[List.take_add_one,hw];unfold zaA;simp[hy]
 ·rintro out-rfl;rw[List.length_map,List.take_of_length_le (Nat.le_refl _)];walk_at "go";refine⟨zfp ls,rfl,zbh.mpr hx,?_⟩;walk_at "go";refine⟨by decide,?_⟩;walk_at "go";obtain⟨Iv,hIv⟩:∃Iv:Nat->PEnv->BX->Prop,∀i ρ β,Iv i ρ β↔∃(k7:Option (PV×Bool)),ρ=[some (PV.tup (List.map PV.str ls),false),some (PV.lst (List.map rowI rows),false),some (PV.lst (List.map PV.str ea),false),some (PV.str x,false),
    some (PV.lst (List.map PV.str (zaA ls ea)),true),some (PV.int (ixS ls x:Int),false),none,k7,none]/\β=.T (gks (zaJ ls ea x (rows.take i))) (gvs (zaJ ls ea x (rows.take i))):=⟨_,λ_ _ _=>Iff.rfl⟩
  refine⟨Iv,(hIv _ _ _).mpr ⟨none,rfl,rfl⟩,?_,?_⟩
  ·intro i d ρ β hd hI;obtain⟨k7,rfl,rfl⟩:=(hIv _ _ _).mp hI;rw[List.getElem?_map]at hd;cases hr2:rows[i]? with
   | none=>rw[hr2]at hd;cases hd
   | some r=>
    rw[hr2]at hd;cases hd;have hrl:=rok.wide r (List.mem_of_getElem? hr2);have hkn:∀w∈zaA ls ea,w∈ls:=λw hw=>(List.mem_filter.mp hw).1;have hkl:(zaA ls ea).length<=100:=Nat.le_trans (List.length_filter_le _ _) hl100;have hil:i<rows.length:=(List.getElem?_eq_some_iff.mp hr2).1;have htl:(rows.take i).length<=10000:=by rw[List.length_take];have:=rok.many;lia
    obtain⟨gl,gc⟩:=zfP (rows.take i) [] (λr=>zal r ls (zaA ls ea)) (λr=>r.getD (ixS ls x) 0) 0 (λp hp=>by cases hp);have gn:=zjU (rows.take i) [] (λr=>zal r ls (zaA ls ea)) (λr=>r.getD (ixS ls x) 0) List.nodup_nil;have hcI:=ziT (row:=r) hrl.symm hkn;have hci:cellsOf (r.map PV.int) ls (zaA ls ea)=(zal r ls (zaA ls ea)).map PV.int:=by
     unfold rowI at hcI;injection hcI
    have hxi:=zcH hx;obtain⟨cs,b1,b2,b3⟩:=znX (g:=zaJ ls ea x (rows.take i)) gn (zal r ls (zaA ls ea)) (r.getD (ixS ls x) 0);have hcl:cs.length<=10000:=by
     rcases b2 with rfl | ⟨κ,hκ⟩
     ·simp
     ·have:=gc _ hκ;simp only at this;lia
    have hstep:zaJ ls ea x (rows.take (i+1))=zbD (zaJ ls ea x (rows.take i)) (zal r ls (zaA ls ea)) (r.getD (ixS ls x) 0):=by
     unfold zaJ;rw[List.take_add_one,hr2,List.foldl_append];rfl
    walk_at "go";refine⟨_,_,rfl,by decide,_,rfl,ls,zaA ls ea,rfl,rfl,hkn,by rw[List.length_map];lia,hkl,?_,?_,keyI (zal r ls (zaA ls ea)),?_,?_,.inl ⟨_,.inr rfl,PV.int (r.getD (ixS ls x) 0),?_,rfl,.inl (r.getD (ixS ls x) 0),rfl,_,_,b1,?_,?_⟩⟩
    ·rw[hci];exact zcq _
    ·rw[hci];exact zcq _
    ·rw[zoF];exact hcI
    ·have:(gks (zaJ ls ea x (rows.take i))).length<=10000:=by
      unfold gks;rw[List.length_map];have h0:(zaJ ls ea x (rows.take i)).length<=(0:Nat)+(rows.take i).length:=gl;lia
     lia
    ·refine zbl ?_;rw[List.getElem?_map,List.getElem?_eq_getElem (show ixS ls x<r.length by lia),List.getD_eq_getElem?_getD,List.getElem?_eq_getElem (show ixS ls x<r.length by lia)];rfl
    ·unfold keyI;rw[List.length_map];lia
    ·walk_at "go";refine(hIv _ _ _).mpr ⟨_,rfl,?_⟩;rw[hstep];exact b3
  ·intro ρ β hI;obtain⟨k7,rfl,rfl⟩:=(hIv _ _ _).mp hI;rw[List.length_map,List.take_of_length_le (Nat.le_refl _)];walk_at "go";walk_at "go";exact⟨by decide,q⟩
end
noncomputable abbrev GP:=List Str×zbC
noncomputable def gAt (g:zbC)(κ:List Int):List Int:=((g.find? λp=>decide (p.1=κ)).map (·.2)).getD []
theorem zsh (g:zbC)(κ:List Int):(dgP (gks g) (gvs g) (keyI κ)).getD (.dK [] [])=dkI (gAt g κ):=by
 induction g with
 | nil=>rfl
 | cons p g ih=>
  unfold dgP gks gvs gAt at *;simp only[List.map_cons,List.zip_cons_cons,List.find?_cons];by_cases e:p.1=κ
  ·rw[decide_eq_true e,decide_eq_true (congrArg keyI e)];rfl
  ·have:¬ keyI p.1=keyI κ:=λz=>e (zgF z);rw[decide_eq_false e,decide_eq_false this];exact ih
theorem zmI (g:zbC)(κ:List Int):gAt g κ=[]\/∃e∈g,gAt g κ=e.2:=by
 unfold gAt;cases h:g.find? λp=>decide (p.1=κ)with
 | none=>exact .inl rfl
 | some e=>exact .inr ⟨e,List.mem_of_find?_eq_some h,rfl⟩
theorem ztd (cs:List Int)(c:Int):(dgP (keyI cs) (cs.map λ_=>PV.bl true) (.inl c)).isSome=decide (c∈cs):=by
 induction cs with
 | nil=>rfl
 | cons a cs ih=>
  unfold dgP keyI at *;simp only[List.map_cons,List.zip_cons_cons,List.find?_cons];by_cases e:a=c
  ·subst e;simp
  ·have h2:¬ (Sum.inl a:Key)=Sum.inl c:=λz=>e (by injection z);rw[decide_eq_false h2];simp only;rw[ih];have:¬ c=a:=λz=>e z.symm;simp[this]
noncomputable def zap (p:List Int)(ea:List Str)(gs:List GP):List (List Int):=gs.map λg=>gAt g.2 (zal p ea g.1)
noncomputable def inAll (ch:List (List Int))(c:Int):Bool:=(ch.map λd=>decide (c∈d)).all id
theorem zhU {ch:List (List Int)}{c:Int}:inAll ch c=true↔∀d∈ch,c∈d:=by
 unfold inAll;rw[List.all_map,List.all_eq_true];simp
structure zkH (parts:List (List Int))(ea:List Str)(gs:List GP)(L:List (List Int)):Prop where
 mem:∀q,q∈L↔∃p∈parts,∃c,q=p++[c]/\inAll (zap p ea gs) c=true
 nd:parts.Nodup->(∀g∈gs,∀e∈g.2,e.2.Nodup)->L.Nodup
theorem zkH.step {parts L:List (List Int)}{ea:List Str}{gs:List GP}(h:zkH parts ea gs L)(p:List Int){cs:List Int}(hcs:cs∈zap p ea gs):zkH (parts++[p]) ea gs (L++(cs.filter (inAll (zap p ea gs))).map λc=>p++[c]) where
 mem q:=by
  rw[List.mem_append,h.mem,List.mem_map];constructor
  ·rintro(⟨r,hr,c,rfl,hc⟩ | ⟨c,hc,rfl⟩)
   ·exact⟨r,List.mem_append.mpr (.inl hr),c,rfl,hc⟩
   ·exact⟨p,List.mem_append.mpr (.inr (List.mem_singleton.mpr rfl)),c,rfl,(List.mem_filter.mp hc).2⟩
  ·rintro⟨r,hr,c,rfl,hc⟩;rcases List.mem_append.mp hr with hr | hr
   ·exact .inl ⟨r,hr,c,rfl,hc⟩
   ·rw[List.mem_singleton.mp hr]at hc ⊢;exact .inr ⟨c,List.mem_filter.mpr ⟨zhU.mp hc cs hcs,hc⟩,rfl⟩
 nd hp hg:=by
  rw[List.nodup_append]at hp;obtain⟨h1,_,h3⟩:=hp;rw[List.nodup_append];have hcn:cs.Nodup:=by
   obtain⟨g,hg2,rfl⟩:=List.mem_map.mp hcs;rcases zmI g.2 (zal p ea g.1)with e | ⟨e,he,e2⟩
   ·rw[e];exact List.nodup_nil
   ·rw[e2];exact hg g hg2 e he
  refine⟨h.nd h1 hg,(hcn.filter _).map _ (λa b hab z=>hab (by simpa using z)),λa ha b hb e=>?_⟩;obtain⟨r,hr,c,rfl,_⟩:=(h.mem a).mp ha;obtain⟨c2,_,rfl⟩:=List.mem_map.mp hb;exact h3 r hr p (List.mem_singleton.mpr rfl) (List.append_inj_left' e rfl)
noncomputable def gpP (g:GP):PV:=.tup [.lst (g.1.map PV.str),zoE g.2]
structure GpOk (ea:List Str)(M:Nat)(g:GP):Prop where
 sub:∀w∈g.1,w∈ea
 few:g.1.length<=100
 cells:∀e∈g.2,e.2.length<=M
noncomputable def zfq:PF:=λds Q=>∃(parts:List (List Int))(ea:List Str)(gs:List GP)(M:Nat),ds=[.lst (parts.map rowI),.lst (ea.map PV.str),.lst (gs.map gpP)]/\gs≠[]/\gs.length<=100/\ea.length<=100/\(∀p∈parts,p.length=ea.length)/\(∀g∈gs,GpOk ea M g)/\parts.length*M<=100000/\
 ∀L,zkH parts ea gs L->L.length<=parts.length*M->Q (.lst (L.map rowI)) .new
theorem ziV:zbR zfq:=λds Q Q' m ⟨a,b,c,d,e,h1,h2,h3,h4,h5,h6,q⟩=>⟨a,b,c,d,e,h1,h2,h3,h4,h5,h6,λL g l=>m _ _ (q L g l)⟩
local macro_rules | `(tactic| walk_at "pu")=>puM "zbZ pFrz zdu ziK zmw"
section
variable {P:Program}{w:World}{K:PySem.W.Frag}{mg:Str->Option Value}{base:Heap}
theorem zjV:zaC ["parts","earlier","guides","grown","part","choices","cell"] ["parts","earlier","guides"] (zac zbB):=⟨rfl,rfl,rfl,by decide +kernel,rfl,by decide +kernel,by decide +kernel⟩
theorem zmJ {f f1:Addr}{fd fd1:FuncData}(F:Fun K "longer" "longer" zbB f fd) (CellsOf:Fx K mg "cells_of" zaK ["row","letters","wanted"] f1 fd1) (B:Bl mg):FnOk P w K mg base CX0 2 f fd ["parts","earlier","guides"] (spP K zfq):=by
 have GCellsOf:FnOk P w K mg base CX0 1 f1 fd1 ["row","letters","wanted"] (spP K zbZ):=zep CellsOf.fn B;refine zaL F zjV (λds Q ⟨a,b,c,d,e,_⟩=>by rw[e];rfl) (λcdv A outer s H E hr=>?_);have hu:(A.deeper (envOfC "longer" (zac zbB) s.heap.objs.size f cdv)).units+16<cLine:=by have q:=hr.units;lia
 have nd:=zjV.nd;refine⟨_,(zae (zam (i:=3) nd rfl (Or.inl rfl) (zbE zad))
   (zae (zbQ rfl PassesOwn.never (zaw (zab 0)) (zai (i:=4) nd rfl (Or.inr rfl)) (zae (zjt (i:=5) (N:=["known","found","earlier","part"]) (k:=2) (js:=[1,4]) rfl (zcD (sup:=zac zbB) (XN:=["parts","earlier","guides","grown","part","choices","cell"]) rfl rfl (by decide +kernel)) (by decide) (ziD (loc2 (by decide) (by decide))) (zaw (zab 2)) ⟨λ_ _ _ _ _=>(zgj (n:=2) rfl (zbv (zai (i:=0) (by show(["known","found","earlier","part"]:List Str).Nodup;decide +kernel) rfl (Or.inl rfl)) (zbv (zai (i:=1) (by show(["known","found","earlier","part"]:List Str).Nodup;decide +kernel) rfl (Or.inl rfl)) zeM))),λ_ _ _ _ _=>zbo,λ_ _ _ _ _=>(znI (hu1 hu) (zab 1) (zan GCellsOf zcI hr rfl CellsOf.mg CellsOf.fn.kp CellsOf.bd (zaa (zab 3) (zaa (zab 2) (zaa (zab 0) zad)))) zmp)⟩ nd rfl rfl)
   (zah (zbd 5 (znG rfl PassesOwn.never (zlW (zmv rfl rfl B.min rfl B.len (zab 5))) (zai (i:=6) nd rfl (Or.inr rfl)) (zah (zfI (zdW (zrL rfl rfl B.all (zaa (zaR (N:=["cells","cell"]) (k:=1) (js:=[6]) rfl (zcD (sup:=zac zbB) (XN:=["parts","earlier","guides","grown","part","choices","cell"]) rfl rfl (by decide +kernel)) (by decide) (zaP (by decide)) (zaw (zab 5)) ⟨λ_ _ _ _ _=>(zai (i:=0) (by show(["cells","cell"]:List Str).Nodup;decide +kernel) rfl (Or.inl rfl)),λ_ _ _ _ _=>zbo,λ_ _ _ _ _=>(zrS (hu1 hu) (zab 1) (zab 0))⟩) zad))) (zah (zbw (zcl 3 (zmx (zab 4) (zhj (zaa (zab 6) zad)))))) zcM)))))))
   (zah (zaD (zab 3))))),λds Q h=>?_⟩
 obtain⟨parts,ea,gs,M,rfl,hgs,hg100,he100,hpl,hok,hM,q⟩:=h;have hsz:=sizeLine_eq;walk_at "pu";walk_at "auto";obtain⟨Iv,hIv⟩:∃Iv:Nat->PEnv->Prop,∀i ρ,Iv i ρ↔∃(L:List (List Int)) (k4 k5 k6:Option (PV×Bool)),zkH (parts.take i) ea gs L/\L.length<=i*M/\ρ=[some (PV.lst (List.map rowI parts),false),some (PV.lst (List.map PV.str ea),false),
     some (PV.lst (List.map gpP gs),false),some (PV.lst (L.map rowI),true),k4,k5,k6]:=⟨_,λ_ _=>Iff.rfl⟩
 refine⟨Iv,(hIv _ _).mpr ⟨[],none,none,none,⟨λq=>by simp,λ_ _=>List.nodup_nil⟩,by simp,rfl⟩,?_,?_⟩
 ·intro i d ρ hd hI;obtain⟨L,k4,k5,k6,hG,hL,rfl⟩:=(hIv _ _).mp hI;rw[List.getElem?_map]at hd;cases hp:parts[i]? with
  | none=>rw[hp]at hd;cases hd
  | some p=>
   rw[hp]at hd;cases hd;have hpm:=List.mem_of_getElem? hp;have hpe:=hpl p hpm;have hip:i<parts.length:=(List.getElem?_eq_some_iff.mp hp).1;have hiM:(i+1)*M<=100000:=Nat.le_trans (Nat.mul_le_mul_right M hip) hM;have htk:parts.take (i+1)=parts.take i++[p]:=by rw[List.take_add_one,hp];rfl
   walk_at "go";refine⟨by rw[List.length_map];lia,λj out=>out=(zap p ea (gs.take j)).map dkI,rfl,?_,?_⟩
   ·rintro j d out hd-rfl;rw[List.getElem?_map]at hd;cases hg:gs[j]? with
    | none=>rw[hg]at hd;cases hd
    | some g=>
     rw[hg]at hd;cases hd;have gok:=hok g (List.mem_of_getElem? hg);have hcI:=ziT (row:=p) (ls:=ea) (ws:=g.1) hpe.symm gok.sub;refine⟨_,rfl,rfl,_,_,rfl,_,_,rfl,rfl,gks g.2,gvs g.2,rfl,p.map PV.int,rfl,ea,g.1,rfl,rfl,gok.sub,by rw[List.length_map];lia,gok.few,keyI (zal p ea g.1),by rw[zoF];exact hcI,?_⟩;show _=_;rw[zsh,List.take_add_one,hg];unfold zap;rw[List.map_append,List.map_append];rfl
   ·rintro out-rfl;rw[List.length_map,List.take_of_length_le (Nat.le_refl _)];walk_at "go";have hcl:(zap p ea gs).length=gs.length:=by unfold zap;rw[List.length_map]
    have hg0:0<gs.length:=List.length_pos_iff.mpr hgs;refine⟨(zap p ea gs).map λcs=>(keyI cs,cs.map λ_=>PV.bl true),by rw[List.map_map];rfl,by rw[List.length_map];lia,λz hz _=>?_⟩;obtain⟨cs,hcs,rfl⟩:=List.mem_map.mp hz;have hcsM:cs.length<=M:=by
     obtain⟨g,hg2,rfl⟩:=List.mem_map.mp hcs;rcases zmI g.2 (zal p ea g.1)with e | ⟨e,he,e2⟩
     ·rw[e];exact Nat.zero_le _
     ·rw[e2];exact(hok g hg2).cells e he
    have hwk:zlV false (keyI cs) (cs.map λ_=>PV.bl true)=cs.map PV.int:=by
     show(keyI cs).map keyP=_;unfold keyI;rw[List.map_map];rfl
    simp only[hwk];obtain⟨Jv,hJv⟩:∃Jv:Nat->PEnv->Prop,∀j ρ,Jv j ρ↔∃(k6:Option (PV×Bool)),ρ=[some (PV.lst (List.map rowI parts),false),some (PV.lst (List.map PV.str ea),false),
     some (PV.lst (List.map gpP gs),false),some (PV.lst ((L++((cs.take j).filter (inAll (zap p ea gs))).map λc=>p++[c]).map rowI),true),some (rowI p,false),some (PV.lst ((zap p ea gs).map dkI),false),k6]:=⟨_,λ_ _=>Iff.rfl⟩
    refine⟨Jv,(hJv _ _).mpr ⟨k6,by simp⟩,?_,?_⟩
    ·intro j d ρ hd hJ;obtain⟨k6,rfl⟩:=(hJv _ _).mp hJ;rw[List.getElem?_map]at hd;cases hc:cs[j]? with
     | none=>rw[hc]at hd;cases hd
     | some c=>
      rw[hc]at hd;cases hd;have hjc:j<cs.length:=(List.getElem?_eq_some_iff.mp hc).1;have hfl:((cs.take j).filter (inAll (zap p ea gs))).length<=j:=Nat.le_trans (List.length_filter_le _ _) (by rw[List.length_take];lia);walk_at "go";refine⟨by rw[List.length_map];lia,λm out=>out=(((zap p ea gs).take m).map λd=>decide (c∈d)).map PV.bl,rfl,?_,?_⟩
      ·rintro m d out hd-rfl;rw[List.getElem?_map]at hd;cases hx:(zap p ea gs)[m]? with
       | none=>rw[hx]at hd;cases hd
       | some x=>
        rw[hx]at hd;cases hd;refine⟨keyI x,x.map λ_=>PV.bl true,rfl,.inl c,rfl,?_⟩;show _=_;rw[ztd,List.take_add_one,hx,List.map_append,List.map_append];rfl
      ·rintro out-rfl;rw[List.length_map,List.take_of_length_le (Nat.le_refl _)];refine⟨_,rfl,?_⟩;refine ite2 (λe=>?_) (λe=>?_)
       ·walk_at "go";refine⟨by rw[List.length_map,List.length_append,List.length_map];rw[Nat.add_mul]at hiM;lia,by lia,p.map PV.int,rfl,by rw[List.length_map];lia,?_⟩;refine(hJv _ _).mpr ⟨some (.int c,false),?_⟩;have e:inAll (zap p ea gs) c=true:=e;rw[List.take_add_one,hc];simp[List.filter_append,e,rowI]
       ·walk_at "go";refine(hJv _ _).mpr ⟨some (.int c,false),?_⟩;have e:¬ inAll (zap p ea gs) c=true:=e;rw[List.take_add_one,hc];simp[List.filter_append,e]
    ·intro ρ hJ;obtain⟨k6,rfl⟩:=(hJv _ _).mp hJ;rw[List.length_map,List.take_of_length_le (Nat.le_refl _)];refine(hIv _ _).mpr ⟨_,_,_,_,by rw[htk];exact hG.step p hcs,?_,rfl⟩;rw[List.length_append,List.length_map];have:=List.length_filter_le (inAll (zap p ea gs)) cs;rw[Nat.add_mul];lia
 ·intro ρ hI;obtain⟨L,k4,k5,k6,hG,hL,rfl⟩:=(hIv _ _).mp hI;rw[List.length_map]at hG hL;rw[List.take_of_length_le (Nat.le_refl _)]at hG;walk_at "go";exact q L hG hL
end
theorem zpV (g:zbC)(κ':List Int)(c':Int)(κ:List Int):gAt (g.map λp=>if p.1=κ' then(p.1,addC p.2 c') else p) κ=if κ'=κ/\g.any (λp=>decide (p.1=κ'))=true then addC (gAt g κ) c' else gAt g κ:=by
 induction g with
 | nil=>simp[gAt]
 | cons a g ih=>
  by_cases e:a.1=κ
  ·by_cases e2:κ'=κ
   ·subst e2;have hany:((a::g).any λp=>decide (p.1=κ'))=true:=by simp[e]
    rw[if_pos ⟨rfl,hany⟩];unfold gAt;rw[List.map_cons,if_pos e];simp[e]
   ·have hn:¬ a.1=κ':=λz=>e2 (z.symm.trans e);rw[if_neg (λz=>e2 z.1)];unfold gAt;rw[List.map_cons,if_neg hn];simp[e]
  ·have h1:¬ (if a.1=κ' then(a.1,addC a.2 c') else a).1=κ:=by split<;>exact e
   have hl:gAt ((a::g).map λp=>if p.1=κ' then(p.1,addC p.2 c') else p) κ=gAt (g.map λp=>if p.1=κ' then(p.1,addC p.2 c') else p) κ:=by
    unfold gAt;rw[List.map_cons,List.find?_cons,decide_eq_false h1]
   have hr:gAt (a::g) κ=gAt g κ:=by
    unfold gAt;rw[List.find?_cons,decide_eq_false e]
   rw[hl,hr,ih];by_cases e2:κ'=κ
   ·subst e2;have:((a::g).any λp=>decide (p.1=κ'))=g.any λp=>decide (p.1=κ'):=by simp[e]
    rw[this]
   ·rw[if_neg (λz=>e2 z.1),if_neg (λz=>e2 z.1)]
theorem znZ {g:zbC}{κ:List Int}(h:¬ g.any (λp=>decide (p.1=κ))=true):g.find? (λp=>decide (p.1=κ))=none:=by
 rw[List.find?_eq_none];intro x hx e;exact h (List.any_eq_true.mpr ⟨x,hx,e⟩)
theorem zoa (g:zbC)(κ':List Int)(c':Int)(κ:List Int):gAt (zbD g κ' c') κ=if κ'=κ then addC (gAt g κ) c' else gAt g κ:=by
 unfold zbD;by_cases h:g.any (λp=>decide (p.1=κ'))=true
 ·rw[if_pos h,zpV];by_cases e:κ'=κ
  ·rw[if_pos ⟨e,h⟩,if_pos e]
  ·rw[if_neg (λz=>e z.1),if_neg e]
 ·rw[if_neg h];unfold gAt;rw[List.find?_append];by_cases e:κ'=κ
  ·subst e;rw[znZ h,if_pos rfl];simp[addC]
  ·rw[if_neg e];simp[e]
theorem zjW {cs:List Int}{c d:Int}:d∈addC cs c↔d∈cs\/c=d:=by
 unfold addC;split
 ·constructor
  ·exact .inl
  ·rintro(h | rfl)
   ·exact h
   ·assumption
 ·rw[List.mem_append,List.mem_singleton];constructor<;>(rintro(h | h);exact .inl h;exact .inr h.symm)
theorem zpW {cs:List Int}{c:Int}(h:cs.Nodup):(addC cs c).Nodup:=by
 unfold addC;split
 ·exact h
 ·rename_i hn
  rw[List.nodup_append];exact⟨h,by simp,λa ha b hb e=>hn (by rw[<- List.mem_singleton.mp hb,<- e];exact ha)⟩
theorem zfQ:∀(rows:List (List Int))(g:zbC)(k:List Int->List Int)(c:List Int->Int)(κ:List Int)(d:Int),d∈gAt (rows.foldl (λg r=>zbD g (k r) (c r)) g) κ↔d∈gAt g κ\/∃r∈rows,k r=κ/\c r=d
 | [],g,k,c,κ,d=>by simp
 | r::rows,g,k,c,κ,d=>by
  rw[List.foldl_cons,zfQ rows,zoa];by_cases e:k r=κ
  ·rw[if_pos e,zjW];constructor
   ·rintro((h | h) | ⟨r2,h1,h2⟩)
    ·exact .inl h
    ·exact .inr ⟨r,List.mem_cons_self,e,h⟩
    ·exact .inr ⟨r2,List.mem_cons_of_mem _ h1,h2⟩
   ·rintro(h | ⟨r2,h1,h2,h3⟩)
    ·exact .inl (.inl h)
    ·rcases List.mem_cons.mp h1 with rfl | h1
     ·exact .inl (.inr h3)
     ·exact .inr ⟨r2,h1,h2,h3⟩
  ·rw[if_neg e];constructor
   ·rintro(h | ⟨r2,h1,h2⟩)
    ·exact .inl h
    ·exact .inr ⟨r2,List.mem_cons_of_mem _ h1,h2⟩
   ·rintro(h | ⟨r2,h1,h2,h3⟩)
    ·exact .inl h
    ·rcases List.mem_cons.mp h1 with rfl | h1
     ·exact absurd h2 e
     ·exact .inr ⟨r2,h1,h2,h3⟩
theorem zob (ls ea:List Str)(x:Str)(rows:List (List Int))(κ:List Int)(d:Int):d∈gAt (zaJ ls ea x rows) κ↔∃r∈rows,zal r ls (zaA ls ea)=κ/\r.getD (ixS ls x) 0=d:=by
 unfold zaJ;rw[zfQ];constructor
 ·rintro(h | h)
  ·exact absurd h (by simp[gAt])
  ·exact h
 ·exact .inr
theorem zmK {g:zbC}{κ:List Int}{c:Int}{Z:List Int->Prop}(h0:Z [c])(hs:∀cs,Z cs->Z (addC cs c))(h:∀p∈g,Z p.2):∀p∈zbD g κ c,Z p.2:=by
 unfold zbD;split
 ·intro p hp;obtain⟨q,hq,rfl⟩:=List.mem_map.mp hp;by_cases e:q.1=κ
  ·rw[if_pos e];exact hs _ (h q hq)
  ·rw[if_neg e];exact h q hq
 ·intro p hp;rcases List.mem_append.mp hp with hp | hp
  ·exact h p hp
  ·rw[List.mem_singleton.mp hp];exact h0
theorem zhV {Z:List Int->Prop}:∀(rows:List (List Int))(g:zbC)(k:List Int->List Int)(c:List Int->Int),(∀r∈rows,Z [c r])->(∀r∈rows,∀cs,Z cs->Z (addC cs (c r)))->(∀p∈g,Z p.2)->∀p∈rows.foldl (λg r=>zbD g (k r) (c r)) g,Z p.2
 | [],g,k,c,h0,hs,h=>h
 | r::rows,g,k,c,h0,hs,h=>zhV rows _ k c (λr2 m=>h0 r2 (List.mem_cons_of_mem _ m)) (λr2 m=>hs r2 (List.mem_cons_of_mem _ m)) (zmK (h0 r List.mem_cons_self) (hs r List.mem_cons_self) h)
theorem ziW (ls ea:List Str){x:Str}{rows:List (List Int)}(hx:x∈ls)(hw:∀r∈rows,r.length=ls.length){vals:List Int}(hv:∀r∈rows,∀c∈r,c∈vals):∀e∈zaJ ls ea x rows,e.2.Nodup/\∀c∈e.2,c∈vals:=by
 unfold zaJ;have hc:∀r∈rows,r.getD (ixS ls x) 0∈vals:=λr hr=>by
  have hi:ixS ls x<r.length:=by rw[hw r hr];exact zcH hx
  rw[List.getD_eq_getElem?_getD,List.getElem?_eq_getElem hi];exact hv r hr _ (List.getElem_mem hi)
 refine zhV (Z:=λcs=>cs.Nodup/\∀c∈cs,c∈vals) rows [] _ _ (λr hr=>⟨by simp,λc hm=>by rw[List.mem_singleton.mp hm];exact hc r hr⟩) (λr hr cs h=>⟨zpW h.1,λc hm=>?_⟩) (λp hp=>by cases hp);rcases zjW.mp hm with h2 | rfl
 ·exact h.2 c h2
 ·exact hc r hr
theorem zeS {ea:List Str}{w:Str}(l:List Str)(h:w∈ea):ixS (ea++l) w=ixS ea w:=by
 have hl:=zcH h;unfold ixS idxP at hl ⊢;rw[List.map_append,List.findIdx_append,if_pos (by simpa using hl)]
theorem zmL {ea:List Str}{x:Str}(h:x∉ea):ixS (ea++[x]) x=ea.length:=by
 unfold ixS idxP;have h1:(ea.map PV.str).findIdx (λy=>decide (y=PV.str x))=(ea.map PV.str).length:=by
  rw[List.findIdx_eq_length];intro y hy;obtain⟨z,hz,rfl⟩:=List.mem_map.mp hy;exact decide_eq_false λe=>h (by injection e with e;rw[<- e];exact hz)
 rw[List.map_append,List.findIdx_append,if_neg (by rw[h1];lia)];simp
noncomputable def Fits (ls:List Str)(t:List (List Int))(ea:List Str)(p:List Int):Prop:=∃r∈t,∀w∈ls,w∈ea->p.getD (ixS ea w) 0=r.getD (ixS ls w) 0
noncomputable abbrev Tab:=List Str×List (List Int)
structure Parts (tabs:List Tab)(ea:List Str)(L:List (List Int)):Prop where
 nd:L.Nodup
 mem:∀p,p∈L↔p.length=ea.length/\∀b∈tabs,Fits b.1 b.2 ea p
noncomputable def zaE (tabs:List Tab)(ea:List Str)(x:Str):List GP:=(tabs.filter λb=>decide (x∈b.1)).map λb=>(zaA b.1 ea,zaJ b.1 ea x b.2)
theorem Parts.start (tabs:List Tab):Parts tabs [] (if (tabs.all λb=>!b.2.isEmpty)=true then[[]] else[]):=by
 refine⟨by split<;>simp,λp=>?_⟩;have key:(tabs.all λb=>!b.2.isEmpty)=true↔∀b∈tabs,Fits b.1 b.2 [] []:=by
  rw[List.all_eq_true];refine⟨λh b hb=>?_,λh b hb=>?_⟩
  ·have:=h b hb;cases ht:b.2 with
   | nil=>rw[ht]at this;simp at this
   | cons r t=>exact⟨r,List.mem_cons_self,λw _ hw=>by cases hw⟩
  ·obtain⟨r,hr,_⟩:=h b hb;cases ht:b.2 with
   | nil=>rw[ht]at hr;cases hr
   | cons r t=>rfl
 by_cases h:(tabs.all λb=>!b.2.isEmpty)=true
 ·rw[if_pos h,List.mem_singleton];constructor
  ·rintro rfl;exact⟨rfl,key.mp h⟩
  ·rintro⟨e,_⟩;exact List.length_eq_zero_iff.mp e
 ·rw[if_neg h];constructor
  ·intro z;cases z
  ·rintro⟨e,z⟩;have:p=[]:=List.length_eq_zero_iff.mp e;subst this;exact absurd (key.mpr z) h
theorem zhW {r p:List Int}{ls ea ks:List Str}:zal r ls ks=zal p ea ks↔∀w∈ks,r.getD (ixS ls w) 0=p.getD (ixS ea w) 0:=by
 unfold zal;rw[List.map_inj_left]
theorem zdO {p:List Int}{c:Int}{i:Nat}(h:i<p.length):(p++[c]).getD i 0=p.getD i 0:=by
 rw[List.getD_eq_getElem?_getD,List.getD_eq_getElem?_getD,List.getElem?_append_left h]
theorem zjX (p:List Int)(c:Int):(p++[c]).getD p.length 0=c:=by
 rw[List.getD_eq_getElem?_getD,List.getElem?_append_right (Nat.le_refl _),Nat.sub_self];rfl
theorem zoc {ls ea:List Str}{t:List (List Int)}{p:List Int}{c:Int}{x:Str}(hx:x∉ea)(hl:p.length=ea.length)(h:Fits ls t (ea++[x]) (p++[c])):Fits ls t ea p:=by
 obtain⟨r,hr,h⟩:=h;refine⟨r,hr,λw hw he=>?_⟩;have:=h w hw (List.mem_append.mpr (.inl he));rw[zeS [x] he,zdO (by rw[hl];exact zcH he)]at this;exact this
theorem zjY {ls ea:List Str}{t:List (List Int)}{p:List Int}{c:Int}{x:Str}(hx:x∉ea)(hl:p.length=ea.length)(hm:x∈ls):Fits ls t (ea++[x]) (p++[c])↔c∈gAt (zaJ ls ea x t) (zal p ea (zaA ls ea)):=by
 rw[zob];constructor
 ·rintro⟨r,hr,h⟩;refine⟨r,hr,zhW.mpr λw hw=>?_,?_⟩
  ·obtain⟨h1,h2⟩:=List.mem_filter.mp hw;have h2:w∈ea:=by simpa using h2
   have:=h w h1 (List.mem_append.mpr (.inl h2));rw[zeS [x] h2,zdO (by rw[hl];exact zcH h2)]at this;exact this.symm
  ·have:=h x hm (List.mem_append.mpr (.inr (List.mem_singleton.mpr rfl)));rw[zmL hx,<- hl,zjX]at this;exact this.symm
 ·rintro⟨r,hr,h1,h2⟩;refine⟨r,hr,λw hw he=>?_⟩;rcases List.mem_append.mp he with he | he
  ·rw[zeS [x] he,zdO (by rw[hl];exact zcH he)];exact(zhW.mp h1 w (List.mem_filter.mpr ⟨hw,by simpa using he⟩)).symm
  ·have:=List.mem_singleton.mp he;subst this;rw[zmL hx,<- hl,zjX];exact h2.symm
theorem zkI {ls ea:List Str}{t:List (List Int)}{p:List Int}{c:Int}{x:Str}(hl:p.length=ea.length)(hm:x∉ls)(h:Fits ls t ea p):Fits ls t (ea++[x]) (p++[c]):=by
 obtain⟨r,hr,h⟩:=h;refine⟨r,hr,λw hw he=>?_⟩;rcases List.mem_append.mp he with he | he
 ·rw[zeS [x] he,zdO (by rw[hl];exact zcH he)];exact h w hw he
 ·exact absurd (List.mem_singleton.mp he▸hw) hm
theorem zfR {tabs:List Tab}{ea:List Str}{x:Str}{p:List Int}{c:Int}:inAll (zap p ea (zaE tabs ea x)) c=true↔∀b∈tabs,x∈b.1->c∈gAt (zaJ b.1 ea x b.2) (zal p ea (zaA b.1 ea)):=by
 rw[zhU];unfold zap zaE;constructor
 ·intro h b hb hx;exact h _ (List.mem_map.mpr ⟨_,List.mem_map.mpr ⟨b,List.mem_filter.mpr ⟨hb,by simpa using hx⟩,rfl⟩,rfl⟩)
 ·intro h d hd;obtain⟨g,hg,rfl⟩:=List.mem_map.mp hd;obtain⟨b,hb,rfl⟩:=List.mem_map.mp hg;obtain⟨h1,h2⟩:=List.mem_filter.mp hb;exact h b h1 (by simpa using h2)
theorem Parts.step {tabs:List Tab}{ea:List Str}{x:Str}{L L':List (List Int)}(h:Parts tabs ea L)(hx:x∉ea)(hG:zkH L ea (zaE tabs ea x) L')(hn:∀g∈zaE tabs ea x,∀e∈g.2,e.2.Nodup):Parts tabs (ea++[x]) L':=by
 refine⟨hG.nd h.nd hn,λq=>?_⟩;rw[hG.mem];constructor
 ·rintro⟨p,hp,c,rfl,hc⟩;obtain⟨hl,hf⟩:=(h.mem p).mp hp;refine⟨by simp[hl],λb hb=>?_⟩;by_cases hm:x∈b.1
  ·exact(zjY hx hl hm).mpr (zfR.mp hc b hb hm)
  ·exact zkI hl hm (hf b hb)
 ·rintro⟨hl,hf⟩;rw[List.length_append]at hl;have hne:q≠[]:=λe=>by subst e;simp at hl
  have e:=(List.dropLast_concat_getLast hne).symm;have hl2:q.dropLast.length=ea.length:=by rw[List.length_dropLast];simp at hl;lia
  rw[e]at hf;refine⟨q.dropLast,(h.mem _).mpr ⟨hl2,λb hb=>zoc hx hl2 (hf b hb)⟩,q.getLast hne,e,zfR.mpr λb hb hm=>(zjY hx hl2 hm).mp (hf b hb)⟩
noncomputable def shpP (tabs:List Tab):PV:=.lst (tabs.map λb=>.tup (b.1.map PV.str))
noncomputable def tblP (t:List (List Int)):PV:=.lst (t.map rowI)
noncomputable def rwsP (tabs:List Tab):PV:=.lst (tabs.map λb=>tblP b.2)
structure TabsOk (tabs:List Tab)(order:List Str)(vals:List Int):Prop where
 few:tabs.length<=100
 ls:∀b∈tabs,b.1.length<=100
 rows:∀b∈tabs,zmG b.1 b.2
 cells:∀b∈tabs,∀r∈b.2,∀c∈r,c∈vals
 nd:order.Nodup
 short:order.length<=100
 all:∀x∈order,∃b∈tabs,x∈b.1
 v1:1<=vals.length
 size:vals.length ^ order.length<=100000
structure ToOk (tabs:List Tab):Prop where
 few:tabs.length<=100
 ls:∀b∈tabs,b.1.length<=100
 rows:∀b∈tabs,zmG b.1 b.2
noncomputable def zcJ:PF:=λds Q=>∃(tabs:List Tab)(ea:List Str)(x:Str),ds=[shpP tabs,rwsP tabs,.lst (ea.map PV.str),.str x]/\ToOk tabs/\Q (.lst ((zaE tabs ea x).map gpP)) .new
theorem zgG:zbR zcJ:=λds Q Q' m ⟨a,b,c,e,h1,q⟩=>⟨a,b,c,e,h1,m _ _ q⟩
noncomputable def lvP (Ls:List (List (List Int))):PV:=.lst (Ls.map λL=>.lst (L.map rowI))
structure zoG (tabs:List Tab)(order:List Str)(vals:List Int)(n:Nat)(Ls:List (List (List Int))):Prop where
 len:Ls.length=n+1
 at_:∀i L,Ls[i]? = some L->Parts tabs (order.take i) L/\L.length<=vals.length ^ i
noncomputable def zcw:PF:=λds Q=>∃(tabs:List Tab)(order:List Str)(vals:List Int),ds=[shpP tabs,rwsP tabs,.lst (order.map PV.str)]/\TabsOk tabs order vals/\∀Ls,zoG tabs order vals order.length Ls->Q (lvP Ls) .new
theorem zfr:zbR zcw:=λds Q Q' m ⟨a,b,c,e,h1,q⟩=>⟨a,b,c,e,h1,λL g=>m _ _ (q L g)⟩
theorem sub_len:∀ {l m:List Int},l.Nodup->(∀c∈l,c∈m)->l.length<=m.length
 | [],m,_,_=>Nat.zero_le _
 | a::l,m,h,hs=>by
  rw[List.nodup_cons]at h;have ha:=hs a List.mem_cons_self;have:=sub_len (m:=m.erase a) h.2 (λc hc=>(List.mem_erase_of_ne (λe=>h.1 (by rw[<- e];exact hc))).mpr (hs c (List.mem_cons_of_mem _ hc)));rw[List.length_erase_of_mem ha]at this;have:=List.length_pos_of_mem ha;rw[List.length_cons];lia
theorem zhX (ds:List PV)(i:Nat):cutP ds none (some (i:Int))=ds.take i:=by
 unfold cutP;rw[HT.zng,HT.zoU,List.drop_zero,Nat.sub_zero];by_cases h:i<=ds.length
 ·rw[Nat.min_eq_left h]
 ·rw[Nat.min_eq_right (by lia),List.take_of_length_le (Nat.le_refl _),List.take_of_length_le (by lia)]
theorem zjZ {ds:List PV}{d:PV}(h:ds[ds.length-1]? = some d):atI ds (-1)=some d:=by
 have hl:ds.length-1<ds.length:=(List.getElem?_eq_some_iff.mp h).1;unfold atI ixN;rw[if_neg (by decide),if_pos (by lia)];have e:((-1:Int)+(ds.length:Int)).toNat=ds.length-1:=by lia
 rw[e];exact h
local macro_rules | `(tactic| walk_at "pu")=>puM "zeR zcJ zfq pFrz zdu ziK zmw pNeg"
section
variable {P:Program}{w:World}{K:PySem.W.Frag}{mg:Str->Option Value}{base:Heap}
theorem zfS:zaC ["shape","rows","earlier","letter"] ["shape","rows","earlier","letter"] (zac zaM):=⟨rfl,rfl,rfl,by decide +kernel,rfl,by decide +kernel,by decide +kernel⟩
theorem ziX {f f1 f2:Addr}{fd fd1 fd2:FuncData}(F:Fun K "guides_to" "guides_to" zaM f fd) (CellsOf:Fx K mg "cells_of" zaK ["row","letters","wanted"] f1 fd1) (GuideOf:Fx K mg "guide_of" zaU ["letters","rows","earlier","letter"] f2 fd2) (B:Bl mg):FnOk P w K mg base CX0 3 f fd ["shape","rows","earlier","letter"] (spP K zcJ):=by
 have GGuideOf:FnOk P w K mg base CX0 2 f2 fd2 ["letters","rows","earlier","letter"] (spP K zeR):=zkG GuideOf.fn CellsOf B;refine zaL F zfS (λds Q ⟨a,b,c,e,_⟩=>by rw[e];rfl) (λcdv A outer s H E hr=>?_);have hu:(A.deeper (envOfC "guides_to" (zac zaM) s.heap.objs.size f cdv)).units+16<cLine:=by have q:=hr.units;lia
 have nd:=zfS.nd;refine⟨_,(zah (zaD (zaR (N:=["own","table","earlier","letter"]) (k:=2) (js:=[2,3]) rfl (zcD (sup:=zac zaM) (XN:=["shape","rows","earlier","letter"]) rfl rfl (by decide +kernel)) (by decide) (ziD (loc2 (by decide) (by decide))) (zpE rfl B.zip (zaa (zab 0) (zaa (zab 1) zad))) ⟨λ_ _ _ _ _=>(zgj (n:=2) rfl (zbv (zai (i:=0) (by show(["own","table","earlier","letter"]:List Str).Nodup;decide +kernel) rfl (Or.inl rfl)) (zbv (zai (i:=1) (by show(["own","table","earlier","letter"]:List Str).Nodup;decide +kernel) rfl (Or.inl rfl)) zeM))),λ_ _ _ _ _=>(zcN (zlN hu (zab 3) (zab 0))),λ_ _ _ _ _=>(zan GGuideOf zhS hr rfl GuideOf.mg GuideOf.fn.kp GuideOf.bd (zaa (zab 0) (zaa (zab 1) (zaa (zab 2) (zaa (zab 3) zad)))))⟩))),λds Q h=>?_⟩;obtain⟨tabs,ea,x,rfl,ok,q⟩:=h;have hsz:=sizeLine_eq;have hf:=ok.few;walk_at "pu";refine⟨_,rfl,_,rfl,?_⟩;refine⟨by rw[zgq,List.length_map,List.length_map];lia,λj out=>out=(zaE (tabs.take j) ea x).map gpP,rfl,?_,?_⟩
 ·rintro j d out hd-rfl;obtain⟨u,v,hu2,hv2,rfl⟩:=zjG hd;rw[List.getElem?_map]at hu2 hv2;cases hb:tabs[j]? with
  | none=>rw[hb]at hu2;cases hu2
  | some b=>
   rw[hb]at hu2 hv2;cases hu2;cases hv2;have hbm:=List.mem_of_getElem? hb;have htl:tabs.take (j+1)=tabs.take j++[b]:=by rw[List.take_add_one,hb];rfl
   refine⟨_,rfl,?_⟩;walk_at "pu";refine⟨zcv b.1,ite2 (λe=>?_) (λe=>?_)⟩
   ·have hm:x∈b.1:=zbh.mp e;refine⟨b.1,rfl,ea,x,b.2,rfl,rfl,rfl,ok.ls b hbm,hm,ok.rows b hbm,?_⟩;have hg1:zaE (tabs.take (j+1)) ea x=zaE (tabs.take j) ea x++[(zaA b.1 ea,zaJ b.1 ea x b.2)]:=by
     rw[htl];unfold zaE;rw[List.filter_append,List.map_append];simp[hm]
    rw[hg1,List.map_append];rfl
   ·have hm:¬ x∈b.1:=λz=>e (zbh.mpr z);have hg1:zaE (tabs.take (j+1)) ea x=zaE (tabs.take j) ea x:=by
     rw[htl];unfold zaE;rw[List.filter_append,List.map_append];simp[hm]
    rw[hg1]
 ·rintro out-rfl;rw[zgq,List.length_map,List.length_map,Nat.min_self,List.take_of_length_le (Nat.le_refl _)];exact q
theorem zeB:zaC ["shape","rows","order","found","place","letter","earlier"] ["shape","rows","order"] (zac zaG):=⟨rfl,rfl,rfl,by decide +kernel,rfl,by decide +kernel,by decide +kernel⟩
theorem zgH {f f1 f2 f3 f4:Addr}{fd fd1 fd2 fd3 fd4:FuncData}(F:Fun K "parts_along" "parts_along" zaG f fd) (CellsOf:Fx K mg "cells_of" zaK ["row","letters","wanted"] f1 fd1) (GuideOf:Fx K mg "guide_of" zaU ["letters","rows","earlier","letter"] f2 fd2) (Longer:Fx K mg "longer" zbB ["parts","earlier","guides"] f3 fd3) (GuidesTo:Fx K mg "guides_to" zaM ["shape","rows","earlier","letter"] f4 fd4) (B:Bl mg):FnOk P w K mg base CX0 4 f fd ["shape","rows","order"] (spP K zcw):=by
 have GGuidesTo:FnOk P w K mg base CX0 3 f4 fd4 ["shape","rows","earlier","letter"] (spP K zcJ):=ziX GuidesTo.fn CellsOf GuideOf B;have GLonger:FnOk P w K mg base CX0 3 f3 fd3 ["parts","earlier","guides"] (spP K zfq):=(zmJ Longer.fn CellsOf B).mono (by decide);refine zaL F zeB (λds Q ⟨a,b,c,e,_⟩=>by rw[e];rfl) (λcdv A outer s H E hr=>?_);have hu:(A.deeper (envOfC "parts_along" (zac zaG) s.heap.objs.size f cdv)).units+16<cLine:=by have q:=hr.units;lia
 have nd:=zeB.nd;refine⟨_,(zae (zam (i:=3) nd rfl (Or.inl rfl) (zbE (zaa (zny (zdW (zpI rfl rfl B.all (zaa (zab 1) zad))) (zbE (zaa (zhj zad) zad)) (zbE zad)) zad)))
   (zae (zbQ rfl PassesOwn.never (zjF rfl B.enumerate (zab 2)) (zgj (n:=2) rfl (zbv (zai (i:=4) nd rfl (Or.inl rfl)) (zbv (zai (i:=5) nd rfl (Or.inl rfl)) zeM))) (zae (zam (i:=6) nd rfl (Or.inl rfl) (zjA (zab 2) zjy (zjz (zab 4))))
   (zah (zbd 6 (zbw (zcl 3 (zan GLonger ziV hr rfl Longer.mg Longer.fn.kp Longer.bd (zaa (zaS (zab 3) (zjJ zaj)) (zaa (zab 6) (zaa (zan GGuidesTo zgG hr rfl GuidesTo.mg GuidesTo.fn.kp GuidesTo.bd (zaa (zab 0) (zaa (zab 1) (zaa (zab 6) (zaa (zab 5) zad))))) zad))))))))))
   (zah (zaD (zab 3))))),λds Q h=>?_⟩
 obtain⟨tabs,order,vals,rfl,ok,q⟩:=h;have hsz:=sizeLine_eq;walk_at "pu";have hh:∀L0:List (List Int),Parts tabs [] L0->L0.length<=1->Hold
       (pSeq
        (pFor (zbY (pVar 2)) (zdc 2 (zbu (zaY 4) (zbu (zaY 5) zdb)))
         (pSeq (pSet 6 (pSlL (pVar 2) zdA (zdB (pVar 4))))
          (pFrz 6
           (zbF
            (mApp 3
             (zbc zfq
              (zbm (t2 pIx (pVar 3) (pNeg (pC (PV.int 1))))
               (zbm (pVar 6)
                (zbm
                 (zbc zcJ
                  (zbm (pVar 0) (zbm (pVar 1) (zbm (pVar 6) (zbm (pVar 5) pNil)))))
                 pNil)))))))))
        (pRet (pVar 3)))
       {nx:=λx=>Q PV.non Kd.frz,rt:=Q,bk:=λx=>False,ct:=λx=>False }
       [some (shpP tabs,false),some (rwsP tabs,false),some (PV.lst (List.map PV.str order),false),
        some (lvP [L0],true),none,none,none]:=by
  intro L0 hP0 hL0;walk_at "go";obtain⟨Iv,hIv⟩:∃Iv:Nat->PEnv->Prop,∀i ρ,Iv i ρ↔∃(Ls:List (List (List Int))) (k4 k5 k6:Option (PV×Bool)),zoG tabs order vals i Ls/\ρ=[some (shpP tabs,false),some (rwsP tabs,false),some (PV.lst (List.map PV.str order),false),
        some (lvP Ls,true),k4,k5,k6]:=⟨_,λ_ _=>Iff.rfl⟩
  refine⟨Iv,(hIv _ _).mpr ⟨[L0],none,none,none,⟨rfl,λi L e=>?_⟩,rfl⟩,?_,?_⟩
  ·match i,e with
   | 0,e=>cases e;exact⟨by simpa using hP0,by simpa using hL0⟩
   | i+1,e=>simp at e
  ·intro i d ρ hd hI;obtain⟨Ls,k4,k5,k6,hLs,rfl⟩:=(hIv _ _).mp hI;obtain⟨x,hx,rfl⟩:=zfk hd;rw[List.getElem?_map]at hx;cases ho:order[i]? with
   | none=>rw[ho]at hx;cases hx
   | some x=>
    rw[ho]at hx;cases hx;refine⟨_,rfl,?_⟩;walk_at "pu";have hio:i<order.length:=(List.getElem?_eq_some_iff.mp ho).1;have hxo:x∈order:=List.mem_of_getElem? ho;have htk:order.take (i+1)=order.take i++[x]:=by rw[List.take_add_one,ho];rfl
    have hxn:x∉order.take i:=λz=>by
     have h1:(order.take (i+1)).Nodup:=(List.take_sublist _ _).nodup ok.nd;rw[htk,List.nodup_append]at h1;exact h1.2.2 x z x (List.mem_singleton.mpr rfl) rfl
    have hlen:=hLs.len;have hlast:Ls[i]? = some (Ls[i]'(by lia)):=List.getElem?_eq_getElem (by lia);obtain⟨hP,hL⟩:=hLs.at_ i _ hlast;generalize Ls[i]'(by lia)=L at hlast hP hL;walk_at "go";rw[zhX,<- List.map_take];walk_at "go";have hgc:∀g∈zaE tabs (order.take i) x,(∀w∈g.1,w∈order.take i)/\g.1.length<=100/\∀e∈g.2,e.2.Nodup/\e.2.length<=vals.length:=λg hg=>by
     obtain⟨b,hb,rfl⟩:=List.mem_map.mp hg;obtain⟨h1,h2⟩:=List.mem_filter.mp hb;have h2:x∈b.1:=by simpa using h2
     refine⟨λw hw=>by have:=(List.mem_filter.mp hw).2;simpa using this,Nat.le_trans (List.length_filter_le _ _) (ok.ls b h1),λe he=>?_⟩;obtain⟨n1,n2⟩:=ziW b.1 (order.take i) h2 (ok.rows b h1).wide (ok.cells b h1) e he;exact⟨n1,sub_len n1 n2⟩
    have hpow:L.length*vals.length<=100000:=by
     refine Nat.le_trans (Nat.mul_le_mul_right _ hL) ?_;rw[<- Nat.pow_succ];exact Nat.le_trans (Nat.pow_le_pow_right ok.v1 hio) ok.size
    have hlo:(order.take i).length<=100:=by rw[List.length_take];have:=ok.short;lia
    have hso:=ok.short;refine⟨_,rfl,by rw[List.length_map];lia,_,.inl rfl,PV.lst (L.map rowI),zjZ ?_,tabs,rfl,rfl,order.take i,rfl,⟨ok.few,ok.ls,ok.rows⟩,L,rfl,order.take i,rfl,zaE tabs (order.take i) x,rfl,?_,?_,hlo,λp hp=>((hP.mem p).mp hp).1,vals.length,λg hg=>⟨(hgc g hg).1,(hgc g hg).2.1,λe he=>((hgc g hg).2.2 e he).2⟩,hpow,λL' hG hl=>?_⟩
    ·rw[List.length_map,hlen,Nat.add_sub_cancel,List.getElem?_map,hlast];rfl
    ·obtain⟨b,hb,hx⟩:=ok.all x hxo;have:(zaA b.1 (order.take i),zaJ b.1 (order.take i) x b.2)∈zaE tabs (order.take i) x:=List.mem_map.mpr ⟨b,List.mem_filter.mpr ⟨hb,by simpa using hx⟩,rfl⟩;exact List.ne_nil_of_mem this
    ·unfold zaE;rw[List.length_map];exact Nat.le_trans (List.length_filter_le _ _) ok.few
    ·refine(hIv _ _).mpr ⟨Ls++[L'],_,_,_,⟨by rw[List.length_append,hlen];rfl,λj M e=>?_⟩,by unfold lvP;rw[List.map_append];rfl⟩;rcases Nat.lt_or_ge j Ls.length with hj | hj
     ·rw[List.getElem?_append_left hj]at e;exact hLs.at_ j M e
     ·rw[List.getElem?_append_right hj]at e;have hj0:j-Ls.length=0:=by
       rcases Nat.eq_zero_or_pos (j-Ls.length)with z | z
       ·exact z
       ·rw[List.getElem?_eq_none (by simp;lia)]at e;cases e
      rw[hj0]at e;have e:L'=M:=Option.some.inj e;have hji:j=i+1:=by lia
      rw[<- e,hji,htk];refine⟨hP.step hxn hG λg hg e he=>((hgc g hg).2.2 e he).1,Nat.le_trans hl ?_⟩;rw[Nat.pow_succ];exact Nat.mul_le_mul_right _ hL
  ·intro ρ hI;obtain⟨Ls,k4,k5,k6,hLs,rfl⟩:=(hIv _ _).mp hI;rw[zdF,List.length_map]at hLs;walk_at "go";exact q Ls hLs
 refine⟨tabs.map λb=>b.2.map rowI,by unfold rwsP tblP;rw[List.map_map];rfl,?_⟩;have hst:=Parts.start tabs;have hall:((tabs.map λb=>b.2.map rowI).all λd=>!d.isEmpty)=tabs.all λb=>!b.2.isEmpty:=by
  rw[List.all_map]
  congr 1
  funext b;show(!(b.2.map rowI).isEmpty) = !b.2.isEmpty;cases b.2<;>rfl
 rw[hall];refine ite2 (λe=>?_) (λe=>?_)
 ·rw[if_pos e]at hst;exact⟨by lia,by lia,by lia,hh _ hst (by simp)⟩
 ·rw[if_neg e]at hst;exact⟨by lia,by lia,hh _ hst (by simp)⟩
end
open K01 (mix zcG abc stepOf zbg zbL)
noncomputable def fMix:PF:=λds Q=>∃c j:Int,ds=[.int c,.int j]/\0<=j/\j<=1000/\Q (.int (mix c j)) .frz
local macro_rules | `(tactic| walk_at "pu")=>puM "fMix"
theorem zbs:zbR fMix:=λds Q Q' m ⟨c,j,e,h1,h2,q⟩=>⟨c,j,e,h1,h2,m _ _ q⟩
section
variable {P:Program}{w:World}{K:PySem.W.Frag}{mg:Str->Option Value}{base:Heap}
theorem zsi:zaC ["_law_cell","_law_j","_law_number"] ["_law_cell","_law_j"] (zac sMix):=⟨rfl,rfl,rfl,by decide +kernel,rfl,by decide +kernel,by decide +kernel⟩
theorem zka {f:Addr}{fd:FuncData}(F:Fun K "_law_mix" "_law_mix" sMix f fd):FnOk P w K mg base CX0 1 f fd ["_law_cell","_law_j"] (spP K fMix):=by
 refine zaL F zsi (λds Q ⟨c,j,e,_⟩=>by rw[e];rfl) (λcdv A outer s H E hr=>?_);have hu:(A.deeper (envOfC "_law_mix" (zac sMix) s.heap.objs.size f cdv)).units+16<cLine:=by have q:=hr.units;lia
 have nd:=zsi.nd;refine⟨_,(zae (zfI (PuW.t (zpk (zoy hu (zbj (zab 0) zaj) zaj) (znx (zho hu (zow (zab 0) zaj) zaj)))) (zah (zaD (zbj (zow (zab 0) (zcg zaj (zez zaj (zab 1)))) zaj))) zcM)
   (zae (zam (i:=2) nd rfl (Or.inl rfl) (zbj (zcg (zez (zab 0) (zcg (zez zaj (zab 1)) zaj)) (zab 1)) zaj))
   (zae (zam (i:=2) nd rfl (Or.inl rfl) (zbj (zez (zcg (zez (zab 2) (zab 2)) zaj) zaj) zaj))
   (zah (zaD (zbj (zez (zab 2) (zab 2)) zaj)))))),λds Q h=>?_⟩
 obtain⟨c,j,rfl,h0,h1,q⟩:=h;have n1:=Int.emod_nonneg (c*(2*j+3)+j) (show(2147483629:Int)≠0 by decide);have n2:=Int.emod_lt_of_pos (c*(2*j+3)+j) (show(0:Int)<2147483629 by decide);have b2:∀z:Int,CMul (z % 2147483629) (z % 2147483629):=λz=>.inl ⟨by lia,by lia⟩;have els:¬ (c % 2=1/\c / 2 ^ 27≠0)->Q (.int ((((c*(2*j+3)+j) % 2147483629*((c*(2*j+3)+j) % 2147483629)+1)*48271 % 2147483629)*(((c*(2*j+3)+j) % 2147483629*((c*(2*j+3)+j) % 2147483629)+1)*48271 % 2147483629) % 2147483587)) .frz:=λhn=>by
  unfold mix at q;rw[if_neg hn]at q;exact q
 walk_at "pu";refine⟨by decide,ite2 (λe1=>⟨by decide,ite2 (λe2=>?a) (λe2=>?b)⟩) (λe1=>?c)⟩
 case a=>
  walk_at "auto";unfold mix at q;rw[if_pos ⟨e1,e2⟩]at q;exact q
 case b=>
  walk_at "auto";exact els λz=>e2 z.2
 case c=>
  walk_at "auto";exact els λz=>e1 z.1
theorem take_snoc {α:Type}{l:List α}{i:Nat}{o:α}(h:l[i]? = some o):l.take i++[o]=l.take (i+1):=by rw[List.take_add_one,h];rfl
noncomputable def zcR (c:Int):List Str:=zbg (mix c 1 % 26).toNat (stepOf (mix c 2 % 6).toNat)
theorem ziY (c:Int):(zcR c).Nodup:=zbL _ _ (by lia) (by lia)
theorem zhY (c:Int):(zcR c).length=6:=by simp[zcR,zbg]
noncomputable abbrev ABC:Str:="ABCDEFGHIJKLMNOPQRSTUVWXYZ"
theorem zsj:∀n:Nat,n<26->ABC.cps.toList[n]? = some (65+n):=by decide +kernel
theorem zpX:ABC.length=26:=by decide +kernel
theorem zod:∀n:Nat,n<6->atI [PV.int 1,PV.int 3,PV.int 5,PV.int 7,PV.int 9,PV.int 11] (n:Int)=some (PV.int (stepOf n)):=λn h=>zbl (by
 match n,h with
 | 0,_=>rfl
 | 1,_=>rfl
 | 2,_=>rfl
 | 3,_=>rfl
 | 4,_=>rfl
 | 5,_=>rfl)
noncomputable def nLet (c:Int):Nat:=(2+mix c 3 % 5).toNat
theorem zfs (c:Int):2<=nLet c/\nLet c<=6:=by unfold nLet;lia
noncomputable def letS (c:Int):List Str:=(zcR c).take (nLet c)
theorem zpY (c:Int):(letS c).Nodup:=(List.take_sublist _ _).nodup (ziY c)
theorem zeT (c:Int):(letS c).length=nLet c:=by unfold letS;rw[List.length_take,zhY];have:=zfs c;lia
noncomputable def zdP:PF:=λds Q=>∃c:Int,ds=[.int c]/\Q (.lst ((letS c).map PV.str)) .new
theorem zhZ:zbR zdP:=λds Q Q' m ⟨c,e,q⟩=>⟨c,e,m _ _ q⟩
theorem zia:zaC ["_law_cell","_law_letters_here","_law_start","_law_step"] ["_law_cell"] (zac zbq):=⟨rfl,rfl,rfl,by decide +kernel,rfl,by decide +kernel,by decide +kernel⟩
theorem zkJ {f fM:Addr}{fd fdM:FuncData}(F:Fun K "_law_letters" "_law_letters" zbq f fd) (Mix:Fx K mg "_law_mix" sMix ["_law_cell","_law_j"] fM fdM) (B:Bl mg):FnOk P w K mg base CX0 2 f fd ["_law_cell"] (spP K zdP):=by
 have GMix:FnOk P w K mg base CX0 1 fM fdM ["_law_cell","_law_j"] (spP K fMix):=zka Mix.fn;refine zaL F zia (λds Q ⟨c,e,_⟩=>by rw[e];rfl) (λcdv A outer s H E hr=>?_);have hu:(A.deeper (envOfC "_law_letters" (zac zbq) s.heap.objs.size f cdv)).units+16<cLine:=by have q:=hr.units;lia
 have nd:=zia.nd;refine⟨_,(zae (zam (i:=1) nd rfl (Or.inr rfl) zrh)
   (zae (zam (i:=2) nd rfl (Or.inr rfl) (zbj (zan GMix zbs hr rfl Mix.mg Mix.fn.kp Mix.bd (zaa (zab 0) (zaa zaj zad))) zaj))
   (zae (zam (i:=3) nd rfl (Or.inr rfl) (zaS (zbE (zaa zaj (zaa zaj (zaa zaj (zaa zaj (zaa zaj (zaa zaj zad))))))) (zbj (zan GMix zbs hr rfl Mix.mg Mix.fn.kp Mix.bd (zaa (zab 0) (zaa zaj zad))) zaj)))
   (zah (zaD (zaR (N:=["_law_k","_law_letters_here","_law_start","_law_step"]) (k:=1) (js:=[1,2,3]) rfl (zcD (sup:=zac zbq) (XN:=["_law_cell","_law_letters_here","_law_start","_law_step"]) rfl rfl (by decide +kernel)) (by decide) (zaP (by decide)) (zbK rfl B.range (zaa (zcg zaj (zbj (zan GMix zbs hr rfl Mix.mg Mix.fn.kp Mix.bd (zaa (zab 0) (zaa zaj zad))) zaj)) zad)) ⟨λ_ _ _ _ _=>(zai (i:=0) (by show(["_law_k","_law_letters_here","_law_start","_law_step"]:List Str).Nodup;decide +kernel) rfl (Or.inl rfl)),λ_ _ _ _ _=>zbo,λ_ _ _ _ _=>(zaS (zab 1) (zbj (zcg (zab 2) (zez (zab 3) (zab 0))) zaj))⟩)))))),λds Q h=>?_⟩
 obtain⟨c,rfl,q⟩:=h;have m1:=zcG c 1;have m2:=zcG c 2;have m3:=zcG c 3;have e1:mix c 1 % 26=((mix c 1 % 26).toNat:Int):=by lia
 have e2:mix c 2 % 6=((mix c 2 % 6).toNat:Int):=by lia
 have nl:=zfs c;walk_at "pu";walk_at "auto";refine⟨_,by rw[e2];exact zod _ (by lia),?_⟩;walk_at "go";have hl:(rngP 0 (2+mix c 3 % 5).toNat).length=nLet c:=zbT 0 _;refine⟨by decide,by decide,by decide,by lia,by lia,by rw[hl,sizeLine_eq];lia,λi out=>out=((letS c).map PV.str).take i,rfl,?_,?_⟩
 ·rintro i d out hd-rfl;obtain⟨hi,rfl⟩:=zct hd;have hi6:i<nLet c:=hi;have n0:((mix c 1 % 26)+(stepOf (mix c 2 % 6).toNat:Int)*(0+(i:Int))) % 26=((((mix c 1 % 26).toNat+stepOf (mix c 2 % 6).toNat*i) % 26:Nat):Int):=by
   rw[Int.zero_add,e1];lia
  refine⟨_,rfl,.inr ⟨by lia,by lia⟩,by decide,by rw[zpX];decide,65+((mix c 1 % 26).toNat+stepOf (mix c 2 % 6).toNat*i) % 26,?_,take_snoc ?_⟩
  ·rw[n0];exact zbl (zsj _ (Nat.mod_lt _ (by decide)))
  ·unfold letS;rw[List.getElem?_map,List.getElem?_take_of_lt hi6];unfold zcR zbg;simp[List.getElem?_range (show i<6 by lia),abc]
 ·rintro out-rfl;rw[hl,List.take_of_length_le (by rw[List.length_map,zeT];exact Nat.le_refl _)];exact q
end
theorem zkb:∀(l:List Str)(i:Nat)(h:i<l.length),(l[i]::l.eraseIdx i).Perm l
 | a::l,0,_=>.refl _
 | a::l,i+1,h=>(List.Perm.swap a _ _).trans (.cons a (zkb l i (by simpa using h)))
theorem zfT {α β:Type}(f:α->β):∀(l:List α)(i:Nat),(l.map f).eraseIdx i=(l.eraseIdx i).map f
 | [],_=>rfl
 | _::_,0=>rfl
 | x::r,i+1=>by rw[List.map_cons,List.eraseIdx_cons_succ,List.eraseIdx_cons_succ,List.map_cons,zfT f r i]
noncomputable def zft (c:Int)(i k n:Nat):Nat:=(mix c (11+4*(i:Int)+(k:Int)) % (n:Int)).toNat
theorem zkc {c:Int}{i k n:Nat}(h:0<n):zft c i k n<n:=by
 unfold zft;have:=Int.emod_nonneg (mix c (11+4*(i:Int)+(k:Int))) (show(n:Int)≠0 by lia);have:=Int.emod_lt_of_pos (mix c (11+4*(i:Int)+(k:Int))) (show(0:Int)<n by lia);lia
noncomputable def popN (c:Int)(i:Nat):Nat->List Str×List Str
 | 0=>(letS c,[])
 | k+1=>((popN c i k).1.eraseIdx (zft c i k (popN c i k).1.length),(popN c i k).2++[(popN c i k).1.getD (zft c i k (popN c i k).1.length) ⟨#[]⟩])
theorem zfu (c:Int)(i:Nat):∀k:Nat,k<=nLet c->(popN c i k).1.length+k=nLet c/\(popN c i k).2.length=k/\((popN c i k).1++(popN c i k).2).Perm (letS c)
 | 0,_=>⟨zeT c,rfl,by simp[popN]⟩
 | k+1,h=>by
  obtain⟨h1,h2,h3⟩:=zfu c i k (by lia);have hk:zft c i k (popN c i k).1.length<(popN c i k).1.length:=zkc (by lia);refine⟨?_,?_,?_⟩
  ·show((popN c i k).1.eraseIdx _).length+(k+1)=_;rw[List.length_eraseIdx_of_lt hk];lia
  ·show((popN c i k).2++[_]).length=_;rw[List.length_append,h2];rfl
  ·refine List.Perm.trans ?_ h3;show((popN c i k).1.eraseIdx _++((popN c i k).2++[_])).Perm _;rw[List.getD_eq_getElem?_getD,List.getElem?_eq_getElem hk,<- List.append_assoc];refine List.perm_append_comm.trans ?_;show((popN c i k).1[zft c i k (popN c i k).1.length]::((popN c i k).1.eraseIdx _++(popN c i k).2)).Perm _;exact(zkb _ _ hk).append_right _
noncomputable def nPat (c:Int)(i:Nat):Nat:=(1+mix c (5+(i:Int)) % min 4 (nLet c:Int)).toNat
theorem zfv (c:Int)(i:Nat):1<=nPat c i/\nPat c i<=4/\nPat c i<=nLet c:=by
 unfold nPat;have:=zfs c;have h0:(0:Int)<min 4 (nLet c:Int):=by lia
 have:=Int.emod_nonneg (mix c (5+(i:Int))) (Int.ne_of_gt h0);have:=Int.emod_lt_of_pos (mix c (5+(i:Int))) h0;lia
noncomputable def patS (c:Int)(i:Nat):List Str:=(popN c i (nPat c i)).2
theorem zkd (c:Int)(i:Nat):(patS c i).length=nPat c i:=(zfu c i _ (zfv c i).2.2).2.1
theorem zke (c:Int)(i:Nat):∀x∈patS c i,x∈letS c:=λx hx=>(zfu c i _ (zfv c i).2.2).2.2.mem_iff.mp (List.mem_append.mpr (.inr hx))
theorem zpZ (c:Int)(i:Nat):(patS c i).Nodup:=(List.nodup_append.mp ((zfu c i _ (zfv c i).2.2).2.2.nodup_iff.mpr (zpY c))).2.1
noncomputable def nShp (c:Int):Nat:=(1+mix c 4 % 6).toNat
theorem zmM (c:Int):1<=nShp c/\nShp c<=6:=by unfold nShp;lia
noncomputable def shpS (c:Int):List (List Str):=(List.range (nShp c)).map (patS c)
noncomputable def shpV (sh:List (List Str)):PV:=.lst (sh.map λls=>.tup (ls.map PV.str))
noncomputable def zib:PF:=λds Q=>∃c:Int,ds=[.int c]/\Q (shpV (shpS c)) .new
theorem zfU:zbR zib:=λds Q Q' m ⟨c,e,q⟩=>⟨c,e,m _ _ q⟩
local macro_rules | `(tactic| walk_at "pu")=>puM "fMix zdP pFrz zdu"
section
variable {P:Program}{w:World}{K:PySem.W.Frag}{mg:Str->Option Value}{base:Heap}
theorem zmN:zaC ["_law_cell","_law_letters_here","_law_found","_law_i","_law_some","_law_pattern","_law_k"] ["_law_cell"] (zac zdN):=⟨rfl,rfl,rfl,by decide +kernel,rfl,by decide +kernel,by decide +kernel⟩
theorem zoe {f fM fL:Addr}{fd fdM fdL:FuncData}(F:Fun K "_law_shape" "_law_shape" zdN f fd) (Mix:Fx K mg "_law_mix" sMix ["_law_cell","_law_j"] fM fdM) (Letters:Fx K mg "_law_letters" zbq ["_law_cell"] fL fdL) (B:Bl mg):FnOk P w K mg base CX0 3 f fd ["_law_cell"] (spP K zib):=by
 have GMix:FnOk P w K mg base CX0 2 fM fdM ["_law_cell","_law_j"] (spP K fMix):=(zka Mix.fn).mono (by decide);have GLetters:FnOk P w K mg base CX0 2 fL fdL ["_law_cell"] (spP K zdP):=zkJ Letters.fn Mix B;refine zaL F zmN (λds Q ⟨c,e,_⟩=>by rw[e];rfl) (λcdv A outer s H E hr=>?_);have hu:(A.deeper (envOfC "_law_shape" (zac zdN) s.heap.objs.size f cdv)).units+16<cLine:=by have q:=hr.units;lia
 have nd:=zmN.nd;refine⟨_,(zae (zam (i:=1) nd rfl (Or.inl rfl) (zan GLetters zhZ hr rfl Letters.mg Letters.fn.kp Letters.bd (zaa (zab 0) zad)))
   (zae (zam (i:=2) nd rfl (Or.inl rfl) (zbE zad))
   (zae (zbQ rfl PassesOwn.never (zbK rfl B.range (zaa (zcg zaj (zbj (zan GMix zbs hr rfl Mix.mg Mix.fn.kp Mix.bd (zaa (zab 0) (zaa zaj zad))) zaj)) zad)) (zai (i:=3) nd rfl (Or.inl rfl)) (zae (zam (i:=4) nd rfl (Or.inl rfl) (zpq rfl B.list (zaa (zab 1) zad)))
   (zae (zam (i:=5) nd rfl (Or.inl rfl) (zbE zad))
   (zae (zbQ rfl PassesOwn.never (zbK rfl B.range (zaa (zcg zaj (zbj (zan GMix zbs hr rfl Mix.mg Mix.fn.kp Mix.bd (zaa (zab 0) (zaa (zcg zaj (zab 3)) zad))) (zpz rfl rfl B.min (zaa zaj (zaa (zdy rfl B.len (zaa (zab 1) zad)) zad))))) zad)) (zai (i:=6) nd rfl (Or.inl rfl)) (zah (zbw (ziE 5 (zlJ 4 (zbj (zan GMix zbs hr rfl Mix.mg Mix.fn.kp Mix.bd (zaa (zab 0) (zaa (zcg (zcg zaj (zez zaj (zab 3))) (zab 6)) zad))) (zdy rfl B.len (zaa (zab 4) zad))))))))
   (zah (zbw (zcl 2 (zdz rfl B.tuple (zaa (zab 5) zad)))))))))
   (zah (zaD (zab 2)))))),λds Q h=>?_⟩
 obtain⟨c,rfl,q⟩:=h;have m4:=zcG c 4;walk_at "pu";walk_at "auto";have nsl:=zmM c;have nll:=zfs c;have hl:(rngP 0 (1+mix c 4 % 6).toNat).length=nShp c:=zbT 0 _;have hsz:=sizeLine_eq;have hlet:=zeT c;obtain⟨Iv,hIv⟩:∃Iv:Nat->PEnv->Prop,∀i ρ,Iv i ρ↔∃(k3 k4 k5 k6:Option (PV×Bool)),ρ=[some (PV.int c,false),some (PV.lst (List.map PV.str (letS c)),true),some (PV.lst (((List.range i).map (patS c)).map λls=>PV.tup (ls.map PV.str)),true),k3,k4,k5,k6]:=⟨_,λ_ _=>Iff.rfl⟩;refine⟨Iv,(hIv _ _).mpr ⟨none,none,none,none,rfl⟩,?_,?_⟩
 ·intro i d ρ hd hI;obtain⟨k3,k4,k5,k6,rfl⟩:=(hIv _ _).mp hI;obtain⟨hi,rfl⟩:=zct hd;have hi6:i<nShp c:=hi;rw[Int.zero_add];have npl:=zfv c i;have hlp:(rngP 0 (1+mix c (5+(i:Int)) % min 4 (nLet c:Int)).toNat).length=nPat c i:=zbT 0 _;walk_at "go";walk_at "go";refine⟨by lia,?_⟩;walk_at "go";have hmn:(if ((List.map PV.str (letS c)).length:Int)<4 then((List.map PV.str (letS c)).length:Int) else 4)=min 4 (nLet c:Int):=by
   rw[List.length_map,hlet];split<;>lia
  have h0:(0:Int)<min 4 (nLet c:Int):=by lia
  have r1:=Int.emod_nonneg (mix c (5+(i:Int))) (Int.ne_of_gt h0);have r2:=Int.emod_lt_of_pos (mix c (5+(i:Int))) h0;rw[hmn];obtain⟨Jv,hJv⟩:∃Jv:Nat->PEnv->Prop,∀k ρ,Jv k ρ↔∃(k6:Option (PV×Bool)),ρ=[some (PV.int c,false),some (PV.lst (List.map PV.str (letS c)),true),some (PV.lst (((List.range i).map (patS c)).map λls=>PV.tup (ls.map PV.str)),true),
   some (PV.int (i:Int),false),some (PV.lst ((popN c i k).1.map PV.str),true),some (PV.lst ((popN c i k).2.map PV.str),true),k6]:=⟨_,λ_ _=>Iff.rfl⟩
  refine⟨by lia,by lia,h0,by lia,by lia,Jv,(hJv _ _).mpr ⟨k6,rfl⟩,?_,?_⟩
  ·intro k d ρ hd hJ;obtain⟨k6,rfl⟩:=(hJv _ _).mp hJ;obtain⟨hk,rfl⟩:=zct hd;have hk:k<nPat c i:=hk;rw[Int.zero_add];obtain⟨p1,p2,p3⟩:=zfu c i k (by lia);have hpos:0<(popN c i k).1.length:=by lia
   have hx:=zkc (c:=c) (i:=i) (k:=k) hpos;have b1:=Int.emod_nonneg (mix c (11+4*(i:Int)+(k:Int))) (show((popN c i k).1.length:Int)≠0 by lia);have b2:=Int.emod_lt_of_pos (mix c (11+4*(i:Int)+(k:Int))) (show(0:Int)<((popN c i k).1.length:Int) by lia);walk_at "go";rw[List.length_map];refine⟨.inl ⟨by lia,by lia⟩,by lia,by lia,by lia,by lia,by lia,zft c i k (popN c i k).1.length,seqIndex_of b1 b2,_,by rw[List.getElem?_map,List.getElem?_eq_getElem hx];rfl,by rw[List.length_map];lia,(hJv _ _).mpr ⟨some (PV.int (k:Int),false),?_⟩⟩;have g1:(popN c i k).1.getD (zft c i k (popN c i k).1.length) ⟨#[]⟩=(popN c i k).1[zft c i k (popN c i k).1.length]:=by
    rw[List.getD_eq_getElem?_getD,List.getElem?_eq_getElem hx];rfl
   rw[zfT];show _=[_,_,_,_,some (PV.lst (((popN c i k).1.eraseIdx (zft c i k (popN c i k).1.length)).map PV.str),true),some (PV.lst (((popN c i k).2++[(popN c i k).1.getD (zft c i k (popN c i k).1.length) ⟨#[]⟩]).map PV.str),true),_];rw[g1,List.map_append];rfl
  ·intro ρ hJ;obtain⟨k6,rfl⟩:=(hJv _ _).mp hJ;rw[hlp];walk_at "go";refine⟨by simp;lia,(hIv _ _).mpr ⟨some (PV.int (i:Int),false),some (PV.lst (List.map PV.str (popN c i (nPat c i)).1),true),some (PV.lst (List.map PV.str (popN c i (nPat c i)).2),true),k6,?_⟩⟩;rw[List.range_succ,List.map_append,List.map_append];rfl
 ·intro ρ hI;obtain⟨k3,k4,k5,k6,rfl⟩:=(hIv _ _).mp hI;rw[hl];walk_at "go";exact q
end
noncomputable def far (c:Int):Int:=c % (10 ^ 60-1)
noncomputable def numS (c:Int):List Int:=[[far c,0],[far c,-far c,far c+1],[0,-far c,1]].getD (mix c 40 % 3).toNat []
theorem zcS (c:Int):2<=(numS c).length/\(numS c).length<=3:=by
 unfold numS;have h:(mix c 40 % 3).toNat<3:=by lia
 generalize (mix c 40 % 3).toNat=n at h
 match n,h with
 | 0,_=>exact⟨by show 2<=_;simp,by simp⟩
 | 1,_=>exact⟨by show 2<=_;simp,by simp⟩
 | 2,_=>exact⟨by show 2<=_;simp,by simp⟩
noncomputable def zcT:PF:=λds Q=>∃c:Int,ds=[.int c]/\Q (.lst ((numS c).map PV.int)) .frz
theorem zeC:zbR zcT:=λds Q Q' m ⟨c,e,q⟩=>⟨c,e,m _ _ q⟩
local macro_rules | `(tactic| walk_at "pu")=>puM "fMix zdP pFrz zdu pNeg"
section
variable {P:Program}{w:World}{K:PySem.W.Frag}{mg:Str->Option Value}{base:Heap}
theorem zic:zaC ["_law_cell","_law_far"] ["_law_cell"] (zac zbr):=⟨rfl,rfl,rfl,by decide +kernel,rfl,by decide +kernel,by decide +kernel⟩
theorem zfV {f fM:Addr}{fd fdM:FuncData}(F:Fun K "_law_numbers" "_law_numbers" zbr f fd) (Mix:Fx K mg "_law_mix" sMix ["_law_cell","_law_j"] fM fdM) (B:Bl mg):FnOk P w K mg base CX0 2 f fd ["_law_cell"] (spP K zcT):=by
 have GMix:FnOk P w K mg base CX0 1 fM fdM ["_law_cell","_law_j"] (spP K fMix):=zka Mix.fn;refine zaL F zic (λds Q ⟨c,e,_⟩=>by rw[e];rfl) (λcdv A outer s H E hr=>?_);have hu:(A.deeper (envOfC "_law_numbers" (zac zbr) s.heap.objs.size f cdv)).units+16<cLine:=by have q:=hr.units;lia
 have nd:=zic.nd;refine⟨_,(zae (zam (i:=1) nd rfl (Or.inl rfl) (zbj (zab 0) (zrj (zrk zaj zaj) zaj)))
   (zah (zaD (zaS (zbE (zaa (zbE (zaa (zab 1) (zaa zaj zad))) (zaa (zbE (zaa (zab 1) (zaa (zjJ (zab 1)) (zaa (zcg (zab 1) zaj) zad)))) (zaa (zbE (zaa zaj (zaa (zjJ (zab 1)) (zaa zaj zad)))) zad)))) (zbj (zan GMix zbs hr rfl Mix.mg Mix.fn.kp Mix.bd (zaa (zab 0) (zaa zaj zad))) zaj))))),λds Q h=>?_⟩
 obtain⟨c,rfl,q⟩:=h;walk_at "pu";walk_at "auto";have m:=zcG c 40;have e2:mix c 40 % 3=((mix c 40 % 3).toNat:Int):=by lia
 have h3:(mix c 40 % 3).toNat<3:=by lia
 refine⟨.lst ((numS c).map PV.int),?_,q⟩;rw[e2];refine zbl ?_;unfold numS;generalize (mix c 40 % 3).toNat=n at h3
 match n,h3 with
 | 0,_=>rfl
 | 1,_=>rfl
 | 2,_=>rfl
end
open Srt (ltI zgz zcQ zfo zdI zdJ)
theorem zmO {ls:List Str}{w:Str}(h:w∈ls):ls[ixS ls w]? = some w:=by
 have h1:(ls.map PV.str).findIdx (λy=>decide (y=PV.str w))<(ls.map PV.str).length:=List.findIdx_lt_length_of_exists ⟨.str w,List.mem_map.mpr ⟨w,h,rfl⟩,by simp⟩;have h2:=List.findIdx_getElem (p:=λy=>decide (y=PV.str w)) (xs:=ls.map PV.str) (w:=h1);have h3:(ls.map PV.str)[(ls.map PV.str).findIdx (λy=>decide (y=PV.str w))]? = some (PV.str w):=by rw[List.getElem?_eq_getElem h1];exact congrArg some (of_decide_eq_true h2)
 rw[List.getElem?_map]at h3;show ls[(ls.map PV.str).findIdx (λy=>decide (y=PV.str w))]? = some w;cases e:ls[(ls.map PV.str).findIdx (λy=>decide (y=PV.str w))]? with
 | none=>rw[e]at h3;cases h3
 | some y=>rw[e]at h3;cases h3;rfl
theorem zsk {ls:List Str}(nd:ls.Nodup){w:Str}{i:Nat}(h:ls[i]? = some w):ixS ls w=i:=by
 have hm:=List.mem_of_getElem? h;have h1:=zcH hm;exact(List.getElem?_inj h1 nd).mp ((zmO hm).trans h.symm)
theorem zeq (row:List Int)(ls ws:List Str):(zal row ls ws).length=ws.length:=by unfold zal;rw[List.length_map]
theorem zid {row:List Int}{ls ws:List Str}{w:Str}(h:w∈ws):(zal row ls ws).getD (ixS ws w) 0=row.getD (ixS ls w) 0:=by
 unfold zal;rw[List.getD_eq_getElem?_getD,List.getElem?_map,zmO h];rfl
theorem zaZ {row:List Int}{A B C:List Str}(h:∀w∈C,w∈B):zal (zal row A B) B C=zal row A C:=by
 show C.map _=C.map _;exact List.map_congr_left λw hw=>zid (h w hw)
theorem zcx {row:List Int}{ls:List Str}(nd:ls.Nodup)(hl:row.length=ls.length):zal row ls ls=row:=by
 refine List.ext_getElem? λi=>?_;unfold zal;rw[List.getElem?_map];cases h:ls[i]? with
 | none=>
  have:ls.length<=i:=by simpa using h
  simp;lia
 | some w=>
  have hi:i<ls.length:=(List.getElem?_eq_some_iff.mp h).1;rw[Option.map_some,zsk nd h,List.getD_eq_getElem?_getD,List.getElem?_eq_getElem (show i<row.length by lia)];rfl
theorem zie {ls ea:List Str}{t:List (List Int)}{p:List Int}(nd:ls.Nodup)(hs:∀w∈ls,w∈ea)(hw:∀r∈t,r.length=ls.length):Fits ls t ea p↔zal p ea ls∈t:=by
 constructor
 ·rintro⟨r,hr,h⟩;have:zal p ea ls=r:=by
   rw[<- zcx nd (hw r hr)];show ls.map _=ls.map _;exact List.map_congr_left λw hm=>h w hm (hs w hm)
  rw[this];exact hr
 ·intro h;exact⟨_,h,λw hm _=>(zid hm).symm⟩
noncomputable def zaW (cells:List Int):Nat->List (List Int)
 | 0=>[[]]
 | n+1=>(zaW cells n).flatMap λp=>cells.map λc=>p++[c]
theorem zby {cells:List Int}:∀ {n:Nat}{p:List Int},p∈zaW cells n↔p.length=n/\∀c∈p,c∈cells
 | 0,p=>by
  show p∈[[]]↔_;rw[List.mem_singleton];constructor
  ·rintro rfl;exact⟨rfl,λc h=>by cases h⟩
  ·rintro⟨h,_⟩;exact List.length_eq_zero_iff.mp h
 | n+1,p=>by
  show p∈(zaW cells n).flatMap _↔_;rw[List.mem_flatMap];constructor
  ·rintro⟨q,hq,hp⟩;obtain⟨c,hc,rfl⟩:=List.mem_map.mp hp;obtain⟨h1,h2⟩:=zby.mp hq;refine⟨by simp[h1],λd hd=>?_⟩;rcases List.mem_append.mp hd with hd | hd
   ·exact h2 d hd
   ·rw[List.mem_singleton.mp hd];exact hc
  ·rintro⟨h1,h2⟩;have hne:p≠[]:=λe=>by subst e;simp at h1
   have e:=(List.dropLast_concat_getLast hne).symm;refine⟨p.dropLast,zby.mpr ⟨by rw[List.length_dropLast];lia,λc hc=>h2 c ((List.dropLast_sublist p).mem hc)⟩,List.mem_map.mpr ⟨p.getLast hne,h2 _ (List.getLast_mem hne),e.symm⟩⟩
theorem zkf:∀ {p q:List Int}{a b:Int},p.length=q.length->ltI p q=true->ltI (p++[a]) (q++[b])=true
 | [],[],_,_,_,h=>by cases h
 | [],_::_,_,_,hl,_=>by simp at hl
 | _::_,[],_,_,hl,_=>by simp at hl
 | x::p,y::q,a,b,hl,h=>by
  unfold ltI at h;show ltI (x::(p++[a])) (y::(q++[b]))=true;unfold ltI;by_cases e:x=y
  ·rw[if_pos e]at h ⊢;exact zkf (by simpa using hl) h
  ·rw[if_neg e]at h ⊢;exact h
theorem zkg:∀ {p:List Int}{a b:Int},a<b->ltI (p++[a]) (p++[b])=true
 | [],a,b,h=>by
  show ltI [a] [b]=true;unfold ltI;rw[if_neg (by lia)];exact decide_eq_true h
 | x::p,a,b,h=>by
  show ltI (x::(p++[a])) (x::(p++[b]))=true;unfold ltI;rw[if_pos rfl];exact zkg h
theorem zkh {cells:List Int}(hc:cells.Pairwise (· < ·)):∀n:Nat,(zaW cells n).Pairwise (λx y=>ltI x y=true)
 | 0=>by show[([]:List Int)].Pairwise _;simp
 | n+1=>by
  show((zaW cells n).flatMap _).Pairwise _;rw[List.pairwise_flatMap];refine⟨λp _=>?_,(zkh hc n).imp_of_mem λ{p q} hp hq h x hx y hy=>?_⟩
  ·rw[List.pairwise_map];exact hc.imp λ{a b} h=>zkg h
  ·obtain⟨a,_,rfl⟩:=List.mem_map.mp hx;obtain⟨b,_,rfl⟩:=List.mem_map.mp hy;exact zkf (by rw[(zby.mp hp).1,(zby.mp hq).1]) h
noncomputable def zdf (tabs:List Tab)(names:List Str)(p:List Int):Bool:=tabs.all λb=>decide (zal p names b.1∈b.2)
noncomputable def dueI (tabs:List Tab)(names:List Str)(cells:List Int):List (List Int):=(zaW cells names.length).filter (zdf tabs names)
theorem zof {l:List (List Int)}(h:l.Pairwise (λx y=>ltI x y=true)):l.Nodup:=h.imp λ{a b} h e=>by subst e;rw[zgz]at h;cases h
theorem zog {tabs:List Tab}{order names:List Str}{cells:List Int}{L:List (List Int)}(hP:Parts tabs order L)(no:order.Nodup)(nn:names.Nodup)(hm:∀w,w∈order↔w∈names)
  (nl:∀b∈tabs,b.1.Nodup) (hw:∀b∈tabs,∀r∈b.2,r.length=b.1.length) (hs:∀b∈tabs,∀w∈b.1,w∈names) (ha:∀w∈names,∃b∈tabs,w∈b.1) (hc:∀b∈tabs,∀r∈b.2,∀c∈r,c∈cells) (hp:cells.Pairwise (· < ·)) :
  sortI (L.map λp=>zal p order names)=dueI tabs names cells:=by
 have hlen:order.length=names.length:=((List.perm_ext_iff_of_nodup no nn).mpr hm).length_eq;have pwd:(dueI tabs names cells).Pairwise (λx y=>ltI x y=true):=(zkh hp _).filter _
 symm
 refine zjS ((List.perm_ext_iff_of_nodup (zof pwd) ?_).mpr λq=>?_) (pwd.imp λ{a b} h=>zcQ _ _ h)
 ·rw[List.Nodup,List.pairwise_map];refine hP.nd.imp_of_mem λ{a b} h1 h2 hab e=>hab ?_;have l1:=((hP.mem a).mp h1).1;have l2:=((hP.mem b).mp h2).1;have e1:zal (zal a order names) names order=a:=by rw[zaZ λw hw=>(hm w).mp hw,zcx no l1]
  have e2:zal (zal b order names) names order=b:=by rw[zaZ λw hw=>(hm w).mp hw,zcx no l2]
  rw[<- e1,<- e2,e]
 ·unfold dueI;rw[List.mem_filter,zby,List.mem_map];unfold zdf;rw[List.all_eq_true];constructor
  ·rintro⟨⟨h1,h2⟩,h3⟩;have eq:zal (zal q names order) order names=q:=by rw[zaZ λw hw=>(hm w).mpr hw,zcx nn h1]
   refine⟨zal q names order,(hP.mem _).mpr ⟨zeq _ _ _,λb hb=>?_⟩,eq⟩;rw[zie (nl b hb) (λw hx=>(hm w).mpr (hs b hb w hx)) (hw b hb),zaZ λw hx=>(hm w).mpr (hs b hb w hx)];exact of_decide_eq_true (h3 b hb)
  ·rintro⟨p,h1,rfl⟩;obtain⟨l1,hf⟩:=(hP.mem p).mp h1;have hin:∀b∈tabs,zal (zal p order names) names b.1∈b.2:=λb hb=>by
    rw[zaZ (hs b hb)];exact(zie (nl b hb) (λw hx=>(hm w).mpr (hs b hb w hx)) (hw b hb)).mp (hf b hb)
   refine⟨⟨zeq _ _ _,λc hcm=>?_⟩,λb hb=>decide_eq_true (hin b hb)⟩;obtain⟨w,hwn,rfl⟩:=List.mem_map.mp hcm;obtain⟨b,hb,hwb⟩:=ha w hwn;refine hc b hb _ (hin b hb) _ ?_;rw[zaZ (hs b hb)];exact List.mem_map.mpr ⟨w,hwb,rfl⟩
structure Names (sh:List (List Str))(ns:List Str):Prop where
 nd:ns.Nodup
 mem:∀x,x∈ns↔∃p∈sh,x∈p
 srt:sortedS ns=true
theorem Names.uniq {sh:List (List Str)}{a b:List Str}(h1:Names sh a)(h2:Names sh b):a=b:=
 K01.zfM (K01.zhH a h1.srt) (K01.zhH b h2.srt) h1.nd h2.nd λx=>(h1.mem x).trans (h2.mem x).symm
noncomputable def ordS (x:Str):Int:=((x.cps.getD 0 0:Nat):Int)
noncomputable def put1 (F:List (List (List Int)))(i:Nat)(r:List Int):List (List (List Int)):=if r∈F.getD i [] then F else F.set i (F.getD i []++[r])
structure RW (sh:List (List Str))(nums:List Int)(F:List (List (List Int)))(n:Nat):Prop where
 len:F.length=sh.length
 row:∀i l,F[i]? = some l->l.length<=n/\∀r∈l,r.length=(sh.getD i []).length/\∀c∈r,c∈nums
theorem RW.start (sh:List (List Str))(nums:List Int):RW sh nums (sh.map λ_=>[]) 0:=by
 refine⟨by simp,λi l h=>?_⟩;rw[List.getElem?_map]at h;cases e:sh[i]? with
 | none=>rw[e]at h;cases h
 | some x=>rw[e]at h;cases h;exact⟨by simp,λr hr=>by cases hr⟩
theorem RW.weak {sh:List (List Str)}{nums:List Int}{F:List (List (List Int))}{n m:Nat}(h:RW sh nums F n)(hm:n<=m):RW sh nums F m:=⟨h.len,λi l e=>⟨Nat.le_trans (h.row i l e).1 hm,(h.row i l e).2⟩⟩
theorem RW.put {sh:List (List Str)}{nums:List Int}{F:List (List (List Int))}{n i:Nat}{r:List Int}(h:RW sh nums F n)(hi:i<sh.length)(hr:r.length=(sh.getD i []).length)(hc:∀c∈r,c∈nums):RW sh nums (put1 F i r) (n+1):=by
 unfold put1;split
 ·exact h.weak (Nat.le_succ _)
 ·have hiF:i<F.length:=by rw[h.len];exact hi
  refine⟨by rw[List.length_set];exact h.len,λj l e=>?_⟩;rw[List.getElem?_set]at e;by_cases hij:i=j
  ·subst hij;rw[if_pos rfl,if_pos hiF]at e;have e:=Option.some.inj e;have g:F.getD i []=F[i]:=by rw[List.getD_eq_getElem?_getD,List.getElem?_eq_getElem hiF];rfl
   obtain⟨h1,h2⟩:=h.row i F[i] (List.getElem?_eq_getElem hiF);rw[g]at e;rw[<- e];refine⟨by rw[List.length_append];simp;lia,λr' hr'=>?_⟩;rcases List.mem_append.mp hr' with hr' | hr'
   ·exact h2 r' hr'
   ·rw[List.mem_singleton.mp hr'];exact⟨hr,hc⟩
  ·rw[if_neg hij]at e;obtain⟨h1,h2⟩:=h.row j l e;exact⟨by lia,h2⟩
noncomputable def zcU (c:Int)(n:Nat):Nat:=(mix c 1 % (n:Int)).toNat
theorem zki {c:Int}{n:Nat}(h:0<n):zcU c n<n:=by
 unfold zcU;have:=Int.emod_nonneg (mix c 1) (show(n:Int)≠0 by lia);have:=Int.emod_lt_of_pos (mix c 1) (show(0:Int)<n by lia);lia
noncomputable def numAt (nums:List Int)(i:Int):Int:=nums.getD (i % (nums.length:Int)).toNat 0
theorem zgI {nums:List Int}{i:Int}(h:0<nums.length):(i % (nums.length:Int)).toNat<nums.length:=by
 have:=Int.emod_nonneg i (show(nums.length:Int)≠0 by lia);have:=Int.emod_lt_of_pos i (show(0:Int)<nums.length by lia);lia
theorem zif {nums:List Int}{i:Int}(h:0<nums.length):numAt nums i∈nums:=by
 unfold numAt;rw[List.getD_eq_getElem?_getD,List.getElem?_eq_getElem (zgI h)];exact List.getElem_mem _
noncomputable def rowOf (nums:List Int)(c:Int)(k:Nat):List Int:=(List.range k).map λ(j:Nat)=>numAt nums (mix c (2+(j:Int)))
noncomputable def zeD (nums:List Int)(ls:List Str):List Int:=ls.map λw=>numAt nums (ordS w)
noncomputable def rws1 (sh:List (List Str))(nums:List Int)(cells:List Int):List (List (List Int)):=cells.foldl (λF c=>put1 F (zcU c sh.length) (rowOf nums c (sh.getD (zcU c sh.length) []).length)) (sh.map λ_=>[])
noncomputable def rws2 (sh:List (List Str))(nums:List Int)(F:List (List (List Int)))(m:Nat):List (List (List Int)):=(List.range m).foldl (λF i=>put1 F i (zeD nums (sh.getD i []))) F
noncomputable def rws3 (sh:List (List Str))(nums:List Int)(cells:List Int)(total:Int):List (List (List Int)):=if mix total 41 % 2=1 then rws2 sh nums (rws1 sh nums cells) sh.length else rws1 sh nums cells
theorem zkj {nums:List Int}(h:0<nums.length)(c:Int)(k:Nat):(rowOf nums c k).length=k/\∀x∈rowOf nums c k,x∈nums:=by
 refine⟨by simp[rowOf],λx hx=>?_⟩;obtain⟨j,_,rfl⟩:=List.mem_map.mp hx;exact zif h
theorem zig {nums:List Int}(h:0<nums.length)(ls:List Str):(zeD nums ls).length=ls.length/\∀x∈zeD nums ls,x∈nums:=by
 refine⟨by simp[zeD],λx hx=>?_⟩;obtain⟨j,_,rfl⟩:=List.mem_map.mp hx;exact zif h
theorem zmP (sh:List (List Str))(nums:List Int)(cells:List Int)(c:Int):rws1 sh nums (cells++[c])=put1 (rws1 sh nums cells) (zcU c sh.length) (rowOf nums c (sh.getD (zcU c sh.length) []).length):=by
 unfold rws1;rw[List.foldl_append];rfl
theorem zih (sh:List (List Str))(nums:List Int)(F:List (List (List Int)))(m:Nat):rws2 sh nums F (m+1)=put1 (rws2 sh nums F m) m (zeD nums (sh.getD m [])):=by
 unfold rws2;rw[List.range_succ,List.foldl_append];rfl
theorem RW.fold {sh:List (List Str)}{nums:List Int}(hs:0<sh.length)(hn:0<nums.length):∀(cells:List Int)(F:List (List (List Int)))(n:Nat),RW sh nums F n->RW sh nums (cells.foldl (λF c=>put1 F (zcU c sh.length) (rowOf nums c (sh.getD (zcU c sh.length) []).length)) F) (n+cells.length)
 | [],F,n,h=>h
 | c::cells,F,n,h=>by
  have:=RW.fold hs hn cells _ (n+1) (h.put (i:=zcU c sh.length) (r:=rowOf nums c (sh.getD (zcU c sh.length) []).length) (zki hs) (zkj hn c _).1 (zkj hn c _).2);rw[List.foldl_cons,List.length_cons,show n+(cells.length+1)=n+1+cells.length by lia];exact this
theorem rw1 {sh:List (List Str)}{nums:List Int}(hs:0<sh.length)(hn:0<nums.length)(cells:List Int):RW sh nums (rws1 sh nums cells) cells.length:=by
 have:=RW.fold hs hn cells _ 0 (RW.start sh nums);rw[Nat.zero_add]at this;exact this
theorem rw2 {sh:List (List Str)}{nums:List Int}(hn:0<nums.length){F:List (List (List Int))}{n:Nat}(h:RW sh nums F n):∀m,m<=sh.length->RW sh nums (rws2 sh nums F m) (n+m)
 | 0,_=>h
 | m+1,hm=>by
  rw[zih];exact(rw2 hn h m (by lia)).put (by lia) (zig hn _).1 (zig hn _).2
theorem rw3 {sh:List (List Str)}{nums:List Int}(hs:0<sh.length)(hn:0<nums.length)(cells:List Int)(total:Int):RW sh nums (rws3 sh nums cells total) (cells.length+sh.length):=by
 unfold rws3;split
 ·exact rw2 hn (rw1 hs hn cells) _ (Nat.le_refl _)
 ·exact(rw1 hs hn cells).weak (by lia)
noncomputable def rwsS (sh:List (List Str))(cells:List Int)(total:Int):List (List (List Int)):=(rws3 sh (numS total) cells total).map sortI
structure ShOk (sh:List (List Str)):Prop where
 pos:0<sh.length
 few:sh.length<=6
 pat:∀ls∈sh,1<=ls.length/\ls.length<=4/\ls.Nodup/\∀x∈ls,x.length=1
noncomputable def zmQ:PF:=λds Q=>∃(sh:List (List Str))(cells:List Int)(total:Int),ds=[shpV sh,.lst (cells.map PV.int),.int total]/\ShOk sh/\cells.length<=63/\Q (.lst ((rwsS sh cells total).map tblP)) .new
theorem zii:zbR zmQ:=λds Q Q' m ⟨a,b,c,e,h1,h2,q⟩=>⟨a,b,c,e,h1,h2,m _ _ q⟩
local macro_rules | `(tactic| walk_at "pu")=>puM "fMix zcT zhO pFrz zdu"
theorem zfW (l:List (List Int)):(l.map rowI).all (PL.plain 6)=true:=by
 rw[List.all_map,List.all_eq_true];intro r _;show PL.plain 6 (PV.tup (r.map PV.int))=true;simp[PL.plain]
theorem zoh {a b:List Int}(h:rowI a=rowI b):a=b:=by
 unfold rowI at h;injection h with h;exact List.map_inj_right (λx y e=>by injection e) |>.mp h
theorem zeU {r:List Int}{l:List (List Int)}:rowI r∈l.map rowI↔r∈l:=by
 rw[List.mem_map];constructor
 ·rintro⟨x,hx,e⟩;rw[<- zoh e];exact hx
 ·exact λh=>⟨r,h,rfl⟩
theorem zsl {n m:Nat}(h:m<n):ixN n (m:Int)=some m:=by
 unfold ixN;rw[if_pos (by lia),if_pos (by lia)];simp
theorem zkk {O:BOut}{a0 a1 a2 a3 a5:Option (PV×Bool)}{F:List (List (List Int))}{n:Nat}{l:List (List Int)}{r:List Int}(hl:F[n]? = some l)(hs:l.length<sizeLine)(h:O.nx [a0,a1,a2,a3,none,a5,some (.int (n:Int),false),some (rowI r,false)] (BX.L ((put1 F n r).map tblP))) :
  zfB (bxIf (tBl (t2 (pIn true) (pVar 7) (t2 pIx (pVar 4) (pVar 6)))) (zdE 4 (pVar 6) (pVar 7)) zbW 4) O [a0,a1,a2,a3,none,a5,some (.int (n:Int),false),some (rowI r,false)] (BX.L (F.map tblP)):=by
 have hg:F.getD n []=l:=by rw[List.getD_eq_getElem?_getD,hl];rfl
 have hnl:n<F.length:=(List.getElem?_eq_some_iff.mp hl).1;walk_at "go";refine⟨tblP l,zbl (by rw[List.getElem?_map,hl];rfl),l.map rowI,.inl rfl,by unfold rowI;simp[PL.plain],zfW l,ite2 (λe=>?_) (λe=>?_)⟩
 ·have hm:¬ r∈l:=λz=>e (zeU.mpr z);walk_at "go";have e2:(put1 F n r).map tblP=(F.map tblP).set n (.lst (l.map rowI++[rowI r])):=by
   unfold put1;rw[hg,if_neg hm,List.map_set]
   congr 1
   unfold tblP;rw[List.map_append];rfl
  rw[e2]at h;exact⟨n,_,rfl,zsl (by rw[List.length_map];exact hnl),l.map rowI,by rw[List.getElem?_map,hl];rfl,by rw[List.length_map];exact hs,zcq r,h⟩
 ·have hm:r∈l:=Classical.byContradiction λz=>e λy=>z (zeU.mp y);walk_at "go";have e2:put1 F n r=F:=by unfold put1;rw[hg,if_pos hm]
  rw[e2]at h;exact h
section
variable {P:Program}{w:World}{K:PySem.W.Frag}{mg:Str->Option Value}{base:Heap}
theorem zoH:zaC ["_law_shape_here","_law_cells","_law_total","_law_numbers_here","_law_found","_law_cell","_law_i","_law_row"] ["_law_shape_here","_law_cells","_law_total"] (zac zeo):=⟨rfl,rfl,rfl,by decide +kernel,rfl,by decide +kernel,by decide +kernel⟩
theorem zqa {f fM fN:Addr}{fd fdM fdN:FuncData}(F:Fun K "_law_rows" "_law_rows" zeo f fd) (Mix:Fx K mg "_law_mix" sMix ["_law_cell","_law_j"] fM fdM) (Numbers:Fx K mg "_law_numbers" zbr ["_law_cell"] fN fdN) (B:Bl mg):FnOk P w K mg base CX0 3 f fd ["_law_shape_here","_law_cells","_law_total"] (spP K zmQ):=by
 have GMix:FnOk P w K mg base CX0 2 fM fdM ["_law_cell","_law_j"] (spP K fMix):=(zka Mix.fn).mono (by decide);have GNumbers:FnOk P w K mg base CX0 2 fN fdN ["_law_cell"] (spP K zcT):=zfV Numbers.fn Mix B;refine zaL F zoH (λds Q ⟨a,b,c,e,_⟩=>by rw[e];rfl) (λcdv A outer s H E hr=>?_);have hu:(A.deeper (envOfC "_law_rows" (zac zeo) s.heap.objs.size f cdv)).units+16<cLine:=by have q:=hr.units;lia
 have nd:=zoH.nd;refine⟨_,(zae (zam (i:=3) nd rfl (Or.inr rfl) (zan GNumbers zeC hr rfl Numbers.mg Numbers.fn.kp Numbers.bd (zaa (zab 2) zad)))
   (zhv (N:=["_law_pattern"]) (z:=4) rfl (zcD (sup:=zac zeo) (XN:=["_law_shape_here","_law_cells","_law_total","_law_numbers_here","_law_found","_law_cell","_law_i","_law_row"]) rfl rfl (by decide +kernel)) (zaw (zab 0)) (λ_ _ _ _ _=>zis (i:=0) (by show(["_law_pattern"]:List Str).Nodup;decide +kernel) rfl (Or.inl rfl)) nd rfl rfl (zcO (ziH (i:=5) nd rfl (Or.inr rfl) rfl PassesOwn.never (zaw (zab 1)) (zcO (ziG (i:=6) nd rfl (Or.inl rfl) (zbj (zan GMix zbs hr rfl Mix.mg Mix.fn.kp Mix.bd (zaa (zab 5) (zaa zaj zad))) (zdy rfl B.len (zaa (zab 0) zad))))
   (zcO (ziG (i:=7) nd rfl (Or.inl rfl) (zdz rfl B.tuple (zaa (zaR (N:=["_law_k","_law_numbers_here","_law_cell"]) (k:=1) (js:=[3,5]) rfl (zcD (sup:=zac zeo) (XN:=["_law_shape_here","_law_cells","_law_total","_law_numbers_here","_law_found","_law_cell","_law_i","_law_row"]) rfl rfl (by decide +kernel)) (by decide) (zaP (by decide)) (zbK rfl B.range (zaa (zdy rfl B.len (zaa (zaS (zab 0) (zab 6)) zad)) zad)) ⟨λ_ _ _ _ _=>(zai (i:=0) (by show(["_law_k","_law_numbers_here","_law_cell"]:List Str).Nodup;decide +kernel) rfl (Or.inl rfl)),λ_ _ _ _ _=>zbo,λ_ _ _ _ _=>(zaS (zab 1) (zbj (zan GMix zbs hr rfl Mix.mg Mix.fn.kp Mix.bd (zaa (zab 2) (zaa (zcg zaj (zab 0)) zad))) (zdy rfl B.len (zaa (zab 1) zad))))⟩) zad)))
   (zfi (zmd (zdw hu (zab 7) (zaS (zab 4) (zab 6))) (zfi (zme (zab 6) (zab 7))) zgp)))))
   (zcO (zmd (zoy hu (zbj (zan GMix zbs hr rfl Mix.mg Mix.fn.kp Mix.bd (zaa (zab 2) (zaa zaj zad))) zaj) zaj) (zfi (ziH (i:=6) nd rfl (Or.inl rfl) rfl PassesOwn.never (zbK rfl B.range (zaa (zdy rfl B.len (zaa (zab 0) zad)) zad)) (zcO (ziG (i:=7) nd rfl (Or.inl rfl) (zdz rfl B.tuple (zaa (zaR (N:=["_law_letter","_law_numbers_here"]) (k:=1) (js:=[3]) rfl (zcD (sup:=zac zeo) (XN:=["_law_shape_here","_law_cells","_law_total","_law_numbers_here","_law_found","_law_cell","_law_i","_law_row"]) rfl rfl (by decide +kernel)) (by decide) (zaP (by decide)) (zff (zaS (zab 0) (zab 6))) ⟨λ_ _ _ _ _=>(zai (i:=0) (by show(["_law_letter","_law_numbers_here"]:List Str).Nodup;decide +kernel) rfl (Or.inl rfl)),λ_ _ _ _ _=>zbo,λ_ _ _ _ _=>(zaS (zab 1) (zbj (zrR rfl B.ord (zaa (zab 0) zad)) (zdy rfl B.len (zaa (zab 1) zad))))⟩) zad)))
   (zfi (zmd (zdw hu (zab 7) (zaS (zab 4) (zab 6))) (zfi (zme (zab 6) (zab 7))) zgp))))) zgp)
   (zjE (zah (zaD (zaR (N:=["_law_lines"]) (k:=1) (js:=[]) rfl (zcD (sup:=zac zeo) (XN:=["_law_shape_here","_law_cells","_law_total","_law_numbers_here","_law_found","_law_cell","_law_i","_law_row"]) rfl rfl (by decide +kernel)) (by decide) (zaP (by decide)) (zaw (zab 4)) ⟨λ_ _ _ _ _=>(zai (i:=0) (by show(["_law_lines"]:List Str).Nodup;decide +kernel) rfl (Or.inl rfl)),λ_ _ _ _ _=>zbo,λ_ _ _ _ _=>(zjT rfl B.sorted (zaa (zab 0) zad))⟩)))))))),λds Q h=>?_⟩
 obtain⟨sh,cells,total,rfl,ok,h63,q⟩:=h;have hsz:=sizeLine_eq;walk_at "pu";walk_at "auto";have hfew:=ok.few;have hpos:=ok.pos;have hn:=zcS total;refine⟨_,rfl,by rw[List.length_map];lia,?_⟩;have hβ0:List.replicate (sh.map λls=>PV.tup (ls.map PV.str)).length (PV.lst [])=(rws1 sh (numS total) (cells.take 0)).map tblP:=by
  unfold rws1;rw[List.length_map,List.take_zero,List.foldl_nil,List.map_map];show _=sh.map (Function.const _ (PV.lst []));rw[List.map_const]
 rw[hβ0];walk_at "go";obtain⟨Iv,hIv⟩:∃Iv:Nat->PEnv->BX->Prop,∀i ρ β,Iv i ρ β↔∃(k5 k6 k7:Option (PV×Bool)),ρ=[some (shpV sh,false),some (PV.lst (List.map PV.int cells),false),some (PV.int total,false),
      some (PV.lst (List.map PV.int (numS total)),false),none,k5,k6,k7]/\β=.L ((rws1 sh (numS total) (cells.take i)).map tblP):=⟨_,λ_ _ _=>Iff.rfl⟩
 refine⟨Iv,(hIv _ _ _).mpr ⟨none,none,none,rfl,rfl⟩,?_,?_⟩
 ·intro i d ρ β hd hI;obtain⟨k5,k6,k7,rfl,rfl⟩:=(hIv _ _ _).mp hI;rw[List.getElem?_map]at hd;cases hc:cells[i]? with
  | none=>rw[hc]at hd;cases hd
  | some c=>
   rw[hc]at hd;cases hd;have m1:=zcG c 1;have hix:=zki (c:=c) hpos;walk_at "go";refine⟨by decide,by decide,_,rfl,by rw[List.length_map];lia,?_⟩;have em:mix c 1 % ((sh.map λls=>PV.tup (ls.map PV.str)).length:Int)=((zcU c sh.length:Nat):Int):=by
    rw[List.length_map];have:=Int.emod_nonneg (mix c 1) (show(sh.length:Int)≠0 by lia);unfold zcU;lia
   rw[em];obtain⟨ls,hls⟩:∃ls,sh[zcU c sh.length]? = some ls:=⟨_,List.getElem?_eq_getElem hix⟩;have hlg:sh.getD (zcU c sh.length) []=ls:=by rw[List.getD_eq_getElem?_getD,hls];rfl
   have hp:=ok.pat ls (List.mem_of_getElem? hls);have hR:=rw1 hpos (show 0<(numS total).length by lia) (cells.take i);have hst:rws1 sh (numS total) (cells.take (i+1))=put1 (rws1 sh (numS total) (cells.take i)) (zcU c sh.length) (rowOf (numS total) c ls.length):=by
    rw[List.take_add_one,hc];show rws1 sh (numS total) (cells.take i++[c])=_;rw[zmP,hlg]
   generalize rws1 sh (numS total) (cells.take i)=F0 at hR hst;walk_at "go";have hlen:(rngP 0 ((ls.map PV.str).length:Int).toNat).length=ls.length:=by rw[zbT,List.length_map];simp
   have hp4:=hp.2.1;refine .inl ⟨_,.inl rfl,PV.tup (ls.map PV.str),zbl (by rw[List.getElem?_map,hls];rfl),_,rfl,by lia,by rw[List.length_map];lia,by rw[hlen];lia,λk out=>out=(rowOf (numS total) c k).map PV.int,rfl,?_,?_⟩
   ·rintro k d out hd-rfl;obtain⟨hk,rfl⟩:=zct hd;rw[Int.zero_add];have hk:k<ls.length:=by rw[List.length_map]at hk;lia
    have hnl:(0:Int)<((numS total).map PV.int).length:=by rw[List.length_map];lia
    refine⟨(k:Int),rfl,by lia,by lia,hnl,PV.int (numAt (numS total) (mix c (2+(k:Int)))),?_,?_⟩
    ·rw[List.length_map];have e0:=Int.emod_nonneg (mix c (2+(k:Int))) (show((numS total).length:Int)≠0 by lia);have hlt:=zgI (nums:=numS total) (i:=mix c (2+(k:Int))) (by lia);have e1:mix c (2+(k:Int)) % ((numS total).length:Int)=(((mix c (2+(k:Int)) % ((numS total).length:Int)).toNat:Nat):Int):=by lia
     rw[e1];refine zbl ?_;rw[List.getElem?_map,List.getElem?_eq_getElem hlt];unfold numAt;rw[List.getD_eq_getElem?_getD,List.getElem?_eq_getElem hlt];rfl
    ·show _=_;unfold rowOf;rw[List.range_succ,List.map_append,List.map_append];rfl
   ·rintro out-rfl;rw[hlen];have hix2:zcU c sh.length<F0.length:=by rw[hR.len];exact hix
    have hF:=List.getElem?_eq_getElem hix2;have hz:=(hR.row _ _ hF).1;refine⟨zcq _,zkk hF (by rw[List.length_take]at hz;lia) ((hIv _ _ _).mpr ⟨_,_,_,rfl,by rw[hst]⟩)⟩
 ·intro ρ β hI;obtain⟨k5,k6,k7,rfl,rfl⟩:=(hIv _ _ _).mp hI;rw[List.length_map,List.take_of_length_le (Nat.le_refl _)];have fin:∀(F:List (List (List Int))) (k5 k6 k7:Option (PV×Bool)),rws3 sh (numS total) cells total=F->zfB
         (zbX 4 (pRet (zcB 1 [] (iLst (pVar 4)) (zaY 0) zdv (PL.tB zhO (zbm (pVar 0) pNil)))))
         {nx:=λx x_1=>False,rt:=Q,bk:=λx x_1=>False,ct:=λx x_1=>False }
      [some (shpV sh,false),some (PV.lst (List.map PV.int cells),false),some (PV.int total,false),
       some (PV.lst (List.map PV.int (numS total)),false),none,k5,k6,k7]
      (BX.L (List.map tblP F)):=by
   intro F k5 k6 k7 hF;have hR:=rw3 hpos (show 0<(numS total).length by lia) cells total;have hq:rwsS sh cells total=F.map sortI:=by unfold rwsS;rw[hF]
   rw[hF]at hR;rw[hq]at q;walk_at "go";walk_at "go";refine⟨by rw[List.length_map,hR.len];lia,λi out=>out=((F.take i).map sortI).map tblP,rfl,?_,?_⟩
   ·rintro i d out hd-rfl;rw[List.getElem?_map]at hd;cases hl:F[i]? with
    | none=>rw[hl]at hd;cases hd
    | some l=>
     rw[hl]at hd;cases hd;obtain⟨r1,r2⟩:=hR.row i l hl;refine⟨l,rfl,λr hr z=>?_,?_⟩
     ·have hw:=(r2 r hr).1;rw[z]at hw;have hi:i<sh.length:=by rw[<- hR.len];exact(List.getElem?_eq_some_iff.mp hl).1
      have hg:sh.getD i []=sh[i]:=by rw[List.getD_eq_getElem?_getD,List.getElem?_eq_getElem hi];rfl
      rw[hg]at hw;have:=(ok.pat _ (List.getElem_mem hi)).1;simp at hw;lia
     ·show _=_;rw[List.take_add_one,hl,List.map_append,List.map_append];rfl
   ·rintro out-rfl;rw[List.length_map,List.take_of_length_le (Nat.le_refl _)];exact q
  walk_at "go";refine⟨by decide,by decide,by decide,ite2 (λe=>?_) (λe=>?_)⟩
  ·walk_at "go";have hlen:(rngP 0 ((sh.map λls=>PV.tup (ls.map PV.str)).length:Int).toNat).length=sh.length:=by rw[zbT,List.length_map];simp
   obtain⟨Jv,hJv⟩:∃Jv:Nat->PEnv->BX->Prop,∀i ρ β,Jv i ρ β↔∃(k5 k6 k7:Option (PV×Bool)),ρ=[some (shpV sh,false),some (PV.lst (List.map PV.int cells),false),some (PV.int total,false),
      some (PV.lst (List.map PV.int (numS total)),false),none,k5,k6,k7]/\β=.L ((rws2 sh (numS total) (rws1 sh (numS total) cells) i).map tblP):=⟨_,λ_ _ _=>Iff.rfl⟩
   refine⟨_,rfl,by lia,by rw[List.length_map];lia,Jv,(hJv _ _ _).mpr ⟨_,_,_,rfl,rfl⟩,?_,?_⟩
   ·intro i d ρ β hd hJ;obtain⟨k5,k6,k7,rfl,rfl⟩:=(hJv _ _ _).mp hJ;obtain⟨hi,rfl⟩:=zct hd;rw[Int.zero_add];have hi:i<sh.length:=by rw[List.length_map]at hi;lia
    obtain⟨ls,hls⟩:∃ls,sh[i]? = some ls:=⟨_,List.getElem?_eq_getElem hi⟩;have hlg:sh.getD i []=ls:=by rw[List.getD_eq_getElem?_getD,hls];rfl
    have hp:=ok.pat ls (List.mem_of_getElem? hls);have hp4:=hp.2.1;have hR:=rw2 (show 0<(numS total).length by lia) (rw1 hpos (show 0<(numS total).length by lia) cells) i (by lia);have hst:rws2 sh (numS total) (rws1 sh (numS total) cells) (i+1)=put1 (rws2 sh (numS total) (rws1 sh (numS total) cells) i) i (zeD (numS total) ls):=by rw[zih,hlg]
    generalize rws2 sh (numS total) (rws1 sh (numS total) cells) i=F0 at hR hst;walk_at "go";refine⟨_,.inl rfl,PV.tup (ls.map PV.str),zbl (by rw[List.getElem?_map,hls];rfl),_,rfl,by rw[List.length_map];lia,λk out=>out=(zeD (numS total) (ls.take k)).map PV.int,rfl,?_,?_⟩
    ·rintro k d out hd-rfl;rw[List.getElem?_map]at hd;cases hx:ls[k]? with
     | none=>rw[hx]at hd;cases hd
     | some x=>
      rw[hx]at hd;cases hd;have hnl:(0:Int)<((numS total).map PV.int).length:=by rw[List.length_map];lia
      refine⟨x,rfl,hp.2.2.2 x (List.mem_of_getElem? hx),hnl,PV.int (numAt (numS total) (ordS x)),?_,?_⟩
      ·rw[List.length_map];show atI _ (ordS x % _)=_;have e0:=Int.emod_nonneg (ordS x) (show((numS total).length:Int)≠0 by lia);have hlt:=zgI (nums:=numS total) (i:=ordS x) (by lia);have e1:ordS x % ((numS total).length:Int)=(((ordS x % ((numS total).length:Int)).toNat:Nat):Int):=by lia
       rw[e1];refine zbl ?_;rw[List.getElem?_map,List.getElem?_eq_getElem hlt];unfold numAt;rw[List.getD_eq_getElem?_getD,List.getElem?_eq_getElem hlt];rfl
      ·show _=_;unfold zeD;rw[List.take_add_one,hx,List.map_append,List.map_append];rfl
    ·rintro out-rfl;rw[List.length_map,List.take_of_length_le (Nat.le_refl _)];have hix2:i<F0.length:=by rw[hR.len];exact hi
     have hF:=List.getElem?_eq_getElem hix2;have hz:=(hR.row _ _ hF).1;refine⟨zcq _,zkk hF (by lia) ((hJv _ _ _).mpr ⟨_,_,_,rfl,by rw[hst]⟩)⟩
   ·intro ρ β hJ;obtain⟨k5,k6,k7,rfl,rfl⟩:=(hJv _ _ _).mp hJ;rw[hlen];exact fin _ _ _ _ (by unfold rws3;rw[if_pos e])
  ·walk_at "go";exact fin _ _ _ _ (by unfold rws3;rw[if_neg e])
end
noncomputable def zbM:PF:=λds Q=>∃sh:List (List Str),ds=[shpV sh]/\sh.length<=6/\(∀p∈sh,p.length<=4)/\∀zs:List Str,Names sh zs->Q (.lst (zs.map PV.str)) .new
theorem zcW:zbR zbM:=λds Q Q' m ⟨sh,e,h1,h2,q⟩=>⟨sh,e,h1,h2,λzs g=>m _ _ (q zs g)⟩
noncomputable def zqb (sh:List (List Str))(x:Str)(i:Nat):Bool:=decide (x∈sh.getD i [])
noncomputable def zmR (sh:List (List Str))(x:Str)(n:Nat):List PV:=((List.range n).filter (zqb sh x)).map λ(i:Nat)=>PV.int (i:Int)
noncomputable def zbJ:PF:=λds Q=>∃(sh:List (List Str))(x:Str),ds=[shpV sh,.str x]/\sh.length<=6/\Q (.lst (zmR sh x sh.length)) .new
theorem zer:zbR zbJ:=λds Q Q' m ⟨sh,x,e,h,q⟩=>⟨sh,x,e,h,m _ _ q⟩
noncomputable def zbz:PF:=λds Q=>∃sh:List (List Str),ds=[shpV sh]/\sh.length<=6/\(∀p∈sh,p.length<=4)/\∀zs:List Str,zs.Nodup->(∀x,x∈zs↔∃p∈sh,x∈p)->Q (.lst (zs.map PV.str)) .new
theorem zeJ:zbR zbz:=λds Q Q' m ⟨sh,e,h1,h2,q⟩=>⟨sh,e,h1,h2,λzs g1 g2=>m _ _ (q zs g1 g2)⟩
theorem zsm {α:Type}{p:α->Bool}{x:α}(h:p x=true):[x].filter p=[x]:=by simp[h]
theorem zsn {α:Type}{p:α->Bool}{x:α}(h:p x=false):[x].filter p=[]:=by simp[h]
theorem zmS {sh:List (List Str)}{ns:List Str}(nd:ns.Nodup)(h:∀x,x∈ns↔∃p∈sh,x∈p)(h4:∀p∈sh,p.length<=4):ns.length<=4*sh.length:=by
 have h1:∀x∈ns,x∈sh.flatten:=λx hx=>by
  obtain⟨p,hp,hxp⟩:=(h x).mp hx;exact List.mem_flatten.mpr ⟨p,hp,hxp⟩
 have h2:ns.length<=sh.flatten.length:=List.Nodup.length_le_of_subset nd h1;refine Nat.le_trans h2 ?_;clear h h1 h2 nd;induction sh with
 | nil=>simp
 | cons p sh ih=>
  rw[List.flatten_cons,List.length_append,List.length_cons];have:=h4 p List.mem_cons_self;have:=ih λq hq=>h4 q (List.mem_cons_of_mem _ hq);lia
local macro_rules | `(tactic| walk_at "pu")=>puM "zbM zbJ zbz pFrz zdu"
section
variable {P:Program}{w:World}{K:PySem.W.Frag}{mg:Str->Option Value}{base:Heap}
theorem zfw:zaC ["shape","found","letters"] ["shape"] (zac zaH):=⟨rfl,rfl,rfl,by decide +kernel,rfl,by decide +kernel,by decide +kernel⟩
theorem zeE {f:Addr}{fd:FuncData}(F:Fun K "letters_of" "letters_of" zaH f fd) (B:Bl mg):FnOk P w K mg base CX0 1 f fd ["shape"] (spP K zbM):=by
 refine zaL F zfw (λds Q ⟨c,e,_⟩=>by rw[e];rfl) (λcdv A outer s H E hr=>?_);have hu:(A.deeper (envOfC "letters_of" (zac zaH) s.heap.objs.size f cdv)).units+16<cLine:=by have q:=hr.units;lia
 have nd:=zfw.nd;refine⟨_,(zae (zam (i:=1) nd rfl (Or.inl rfl) (zbE zad))
   (zae (zbQ rfl PassesOwn.never (zaw (zab 0)) (zai (i:=2) nd rfl (Or.inl rfl)) (zah (zbw (znE 1 (zab 2)))))
   (zah (zaD (zkD rfl rfl B.sorted rfl B.set (zab 1)))))),λds Q h=>?_⟩
 obtain⟨sh,rfl,h6,h4,q⟩:=h;walk_at "pu";walk_at "auto";obtain⟨Iv,hIv⟩:∃Iv:Nat->PEnv->Prop,∀i ρ,Iv i ρ↔∃(fs:List Str) (kv:Option (PV×Bool)),ρ=[some (shpV sh,false),some (PV.lst (fs.map PV.str),true),kv]/\fs.length<=4*i/\∀x,x∈fs↔∃p∈sh.take i,x∈p:=⟨_,λ_ _=>Iff.rfl⟩;refine⟨_,rfl,Iv,(hIv _ _).mpr ⟨[],none,rfl,Nat.zero_le _,λx=>by simp⟩,?_,?_⟩
 ·intro i d ρ hd hI;obtain⟨fs,kv,rfl,l1,hm⟩:=(hIv _ _).mp hI;rw[List.getElem?_map]at hd;cases hp:sh[i]? with
  | none=>rw[hp]at hd;cases hd
  | some p=>
   rw[hp]at hd;cases hd;have hil:i<sh.length:=(List.getElem?_eq_some_iff.mp hp).1;have hle:=h4 p (List.mem_of_getElem? hp);walk_at "go";refine⟨by rw[List.length_map,List.length_map,sizeLine_eq];lia,(hIv _ _).mpr ⟨fs++p,_,by rw[List.map_append],by rw[List.length_append];lia,λy=>?_⟩⟩;rw[List.mem_append,hm,List.take_add_one,hp];simp only[Option.toList_some,List.mem_append,List.mem_singleton];constructor
   ·rintro(⟨p,h1,h2⟩ | h)
    ·exact⟨p,.inl h1,h2⟩
    ·exact⟨_,.inr rfl,h⟩
   ·rintro⟨p,h1 | rfl,h2⟩
    ·exact .inl ⟨p,h1,h2⟩
    ·exact .inr h2
 ·intro ρ hI;obtain⟨fs,kv,rfl,l1,hm⟩:=(hIv _ _).mp hI;rw[List.length_map]at l1 hm;walk_at "go";refine⟨fs,rfl,by lia,λzs n1 n2 n3=>q zs ⟨n1,λx=>?_,n3⟩⟩;rw[n2,hm,List.take_of_length_le (Nat.le_refl _)]
theorem zcX:zaC ["shape","letter"] ["shape","letter"] (zac zao):=⟨rfl,rfl,rfl,by decide +kernel,rfl,by decide +kernel,by decide +kernel⟩
theorem zfx {f:Addr}{fd:FuncData}(F:Fun K "patterns_with" "patterns_with" zao f fd) (B:Bl mg):FnOk P w K mg base CX0 1 f fd ["shape","letter"] (spP K zbJ):=by
 refine zaL F zcX (λds Q ⟨c,x,e,_⟩=>by rw[e];rfl) (λcdv A outer s H E hr=>?_);have hu:(A.deeper (envOfC "patterns_with" (zac zao) s.heap.objs.size f cdv)).units+16<cLine:=by have q:=hr.units;lia
 have nd:=zcX.nd;refine⟨_,(zah (zaD (zaR (N:=["i","letters","letter"]) (k:=2) (js:=[1]) rfl (zcD (sup:=zac zao) (XN:=["shape","letter"]) rfl rfl (by decide +kernel)) (by decide) (ziD (loc2 (by decide) (by decide))) (zjF rfl B.enumerate (zab 0)) ⟨λ_ _ _ _ _=>(zgj (n:=2) rfl (zbv (zai (i:=0) (by show(["i","letters","letter"]:List Str).Nodup;decide +kernel) rfl (Or.inl rfl)) (zbv (zai (i:=1) (by show(["i","letters","letter"]:List Str).Nodup;decide +kernel) rfl (Or.inl rfl)) zeM))),λ_ _ _ _ _=>(zcN (zlN hu (zab 2) (zab 1))),λ_ _ _ _ _=>(zab 0)⟩))),λds Q h=>?_⟩;obtain⟨sh,x,rfl,h6,q⟩:=h;have hsz:=sizeLine_eq;walk_at "pu";refine⟨_,rfl,?_⟩;refine⟨by rw[zdF,List.length_map];lia,λi out=>out=zmR sh x i,rfl,?_,?_⟩
 ·rintro i d out hd-rfl;obtain⟨y,hy,rfl⟩:=zfk hd;rw[List.getElem?_map]at hy;cases hp:sh[i]? with
  | none=>rw[hp]at hy;cases hy
  | some p=>
   rw[hp]at hy;cases hy;refine⟨_,rfl,?_⟩;walk_at "pu";have hw:zqb sh x i=decide (x∈p):=by unfold zqb;rw[List.getD_eq_getElem?_getD,hp];rfl
   refine⟨zcv p,ite2 (λe=>?_) (λe=>?_)⟩
   ·have hm:x∈p:=zbh.mp e;show _=_;unfold zmR;rw[List.range_succ,List.filter_append,List.map_append];simp[hw,hm]
   ·have hm:¬ x∈p:=λz=>e (zbh.mpr z);show _=_;unfold zmR;rw[List.range_succ,List.filter_append,List.map_append];simp[hw,hm]
 ·rintro out-rfl;rw[zdF,List.length_map];exact q
theorem zdQ:zaC ["shape","letters","shared"] ["shape"] (zac zaq):=⟨rfl,rfl,rfl,by decide +kernel,rfl,by decide +kernel,by decide +kernel⟩
theorem zfE {f f1 f2:Addr}{fd fd1 fd2:FuncData}(F:Fun K "shared_first" "shared_first" zaq f fd) (LettersOf:Fx K mg "letters_of" zaH ["shape"] f1 fd1) (PatternsWith:Fx K mg "patterns_with" zao ["shape","letter"] f2 fd2) (B:Bl mg):FnOk P w K mg base CX0 2 f fd ["shape"] (spP K zbz):=by
 have GLettersOf:FnOk P w K mg base CX0 1 f1 fd1 ["shape"] (spP K zbM):=zeE LettersOf.fn B;have GPatternsWith:FnOk P w K mg base CX0 1 f2 fd2 ["shape","letter"] (spP K zbJ):=zfx PatternsWith.fn B;refine zaL F zdQ (λds Q ⟨c,e,_⟩=>by rw[e];rfl) (λcdv A outer s H E hr=>?_);have hu:(A.deeper (envOfC "shared_first" (zac zaq) s.heap.objs.size f cdv)).units+16<cLine:=by have q:=hr.units;lia
 have nd:=zdQ.nd;refine⟨_,(zae (zam (i:=1) nd rfl (Or.inl rfl) (zan GLettersOf zcW hr rfl LettersOf.mg LettersOf.fn.kp LettersOf.bd (zaa (zab 0) zad)))
   (zae (zbd 1 (zam (i:=2) nd rfl (Or.inr rfl) (zaR (N:=["letter","shape"]) (k:=1) (js:=[0]) rfl (zcD (sup:=zac zaq) (XN:=["shape","letters","shared"]) rfl rfl (by decide +kernel)) (by decide) (zaP (by decide)) (zaw (zab 1)) ⟨λ_ _ _ _ _=>(zai (i:=0) (by show(["letter","shape"]:List Str).Nodup;decide +kernel) rfl (Or.inl rfl)),λ_ _ _ _ _=>(zcN (zrv (zdy rfl B.len (zaa (zan GPatternsWith zer hr rfl PatternsWith.mg PatternsWith.fn.kp PatternsWith.bd (zaa (zab 1) (zaa (zab 0) zad))) zad)) zaj)),λ_ _ _ _ _=>(zab 0)⟩)))
   (zah (zbd 2 (zaD (zrF (zab 2) (zaR (N:=["letter","shared"]) (k:=1) (js:=[2]) rfl (zcD (sup:=zac zaq) (XN:=["shape","letters","shared"]) rfl rfl (by decide +kernel)) (by decide) (zaP (by decide)) (zaw (zab 1)) ⟨λ_ _ _ _ _=>(zai (i:=0) (by show(["letter","shared"]:List Str).Nodup;decide +kernel) rfl (Or.inl rfl)),λ_ _ _ _ _=>(zcN (zdw hu (zab 0) (zab 1))),λ_ _ _ _ _=>(zab 0)⟩))))))),λds Q h=>?_⟩
 obtain⟨sh,rfl,h6,h4,q⟩:=h;have hsz:=sizeLine_eq;walk_at "pu";refine⟨sh,rfl,h6,h4,λns hn=>?_⟩;have hl:=zmS hn.nd hn.mem h4;obtain⟨g,hg⟩:∃g:Str->Bool,∀x,g x=decide (1<(zmR sh x sh.length).length):=⟨_,λ_=>rfl⟩;walk_at "go";refine⟨by rw[List.length_map];lia,λi out=>out=((ns.take i).filter g).map PV.str,rfl,?_,?_⟩
 ·rintro i d out hd-rfl;rw[List.getElem?_map]at hd;cases hx:ns[i]? with
  | none=>rw[hx]at hd;cases hd
  | some x=>
   rw[hx]at hd;cases hd;have htk:ns.take (i+1)=ns.take i++[x]:=by rw[List.take_add_one,hx];rfl
   refine⟨sh,rfl,x,rfl,h6,ite2 (λe=>?_) (λe=>?_)⟩
   ·have hgx:g x=true:=by rw[hg];exact decide_eq_true (by lia)
    show _=_;rw[htk,List.filter_append,List.map_append];simp[hgx]
   ·have hgx:g x=false:=by rw[hg];exact decide_eq_false (by lia)
    show _=_;rw[htk,List.filter_append,List.map_append];simp[hgx]
 ·rintro out-rfl;rw[List.length_map,List.take_of_length_le (Nat.le_refl _)];walk_at "go";refine⟨by rw[List.length_map];lia,λi out=>out=((ns.take i).filter λx=>decide (x∉ns.filter g)).map PV.str,rfl,?_,?_⟩
  ·rintro i d out hd-rfl;rw[List.getElem?_map]at hd;cases hx:ns[i]? with
   | none=>rw[hx]at hd;cases hd
   | some x=>
    rw[hx]at hd;cases hd;have htk:ns.take (i+1)=ns.take i++[x]:=by rw[List.take_add_one,hx];rfl
    refine⟨rfl,zcv _,ite2 (λe=>?_) (λe=>?_)⟩
    ·have hm:x∉ns.filter g:=λz=>e (zbh.mpr z);show _=_;rw[htk,List.filter_append,List.map_append,zsm (p:=λx=>decide (x∉ns.filter g)) (decide_eq_true hm)];rfl
    ·have hm:x∈ns.filter g:=Classical.byContradiction λz=>e λy=>z (zbh.mp y);show _=_;rw[htk,List.filter_append,List.map_append,zsn (p:=λx=>decide (x∉ns.filter g)) (decide_eq_false λz=>z hm)];simp
  ·rintro out-rfl;rw[show ns.take (List.map PV.str ns).length=ns from List.take_of_length_le (by rw[List.length_map];exact Nat.le_refl _)];have l1:=List.length_filter_le g ns;have l2:=List.length_filter_le (λx=>decide (x∉ns.filter g)) ns;refine⟨by rw[List.length_map,List.length_map];lia,?_⟩;rw[<- List.map_append];refine q _ ?_ λx=>?_
   ·rw[List.nodup_append];refine⟨hn.nd.filter _,hn.nd.filter _,λa ha b hb e=>?_⟩;have h2:=(List.mem_filter.mp hb).2;rw[<- e]at h2;exact(of_decide_eq_true h2) ha
   ·rw[List.mem_append,<- hn.mem];constructor
    ·rintro(h | h)
     ·exact(List.mem_filter.mp h).1
     ·exact(List.mem_filter.mp h).1
    ·intro h;by_cases hm:x∈ns.filter g
     ·exact .inl hm
     ·exact .inr (List.mem_filter.mpr ⟨h,decide_eq_true hm⟩)
end
structure zso (tabs:List Tab)(names:List Str)(cells:List Int):Prop where
 pos:0<tabs.length
 few:tabs.length<=6
 pat:∀b∈tabs,1<=b.1.length/\b.1.length<=4/\b.1.Nodup
 rows:∀b∈tabs,b.2.length<=100/\∀r∈b.2,r.length=b.1.length/\∀c∈r,c∈cells
 nms:Names (tabs.map (·.1)) names
 six:names.length<=6
 srt:cells.Pairwise (· < ·)
 three:1<=cells.length/\cells.length<=3
noncomputable def zdR:PF:=λds Q=>∃(tabs:List Tab)(names:List Str)(cells:List Int),ds=[shpP tabs,rwsP tabs]/\zso tabs names cells/\Q (.lst ((dueI tabs names cells).map rowI)) .new
theorem zeF:zbR zdR:=λds Q Q' m ⟨a,b,c,e,h,q⟩=>⟨a,b,c,e,h,m _ _ q⟩
theorem zmT (tabs:List Tab):shpP tabs=shpV (tabs.map (·.1)):=by unfold shpP shpV;rw[List.map_map];rfl
local macro_rules | `(tactic| walk_at "pu")=>puM "zbZ zcw zbM zbz zhO pFrz zdu pNeg"
section
variable {P:Program}{w:World}{K:PySem.W.Frag}{mg:Str->Option Value}{base:Heap}
theorem zij:zaC ["shape","rows","order","letters"] ["shape","rows"] (zac zbp):=⟨rfl,rfl,rfl,by decide +kernel,rfl,by decide +kernel,by decide +kernel⟩
theorem zkK {f f1 f2 f3 f4 f5 f6 f7 f8:Addr}{fd fd1 fd2 fd3 fd4 fd5 fd6 fd7 fd8:FuncData}(F:Fun K "answers" "answers" zbp f fd) (CellsOf:Fx K mg "cells_of" zaK ["row","letters","wanted"] f1 fd1) (GuideOf:Fx K mg "guide_of" zaU ["letters","rows","earlier","letter"] f2 fd2) (Longer:Fx K mg "longer" zbB ["parts","earlier","guides"] f3 fd3) (GuidesTo:Fx K mg "guides_to" zaM ["shape","rows","earlier","letter"] f4 fd4)
  (PartsAlong:Fx K mg "parts_along" zaG ["shape","rows","order"] f5 fd5) (LettersOf:Fx K mg "letters_of" zaH ["shape"] f6 fd6) (PatternsWith:Fx K mg "patterns_with" zao ["shape","letter"] f7 fd7) (SharedFirst:Fx K mg "shared_first" zaq ["shape"] f8 fd8) (B:Bl mg):FnOk P w K mg base CX0 5 f fd ["shape","rows"] (spP K zdR):=by
 have GCellsOf:FnOk P w K mg base CX0 4 f1 fd1 ["row","letters","wanted"] (spP K zbZ):=(zep CellsOf.fn B).mono (by decide);have GPartsAlong:FnOk P w K mg base CX0 4 f5 fd5 ["shape","rows","order"] (spP K zcw):=zgH PartsAlong.fn CellsOf GuideOf Longer GuidesTo B;have GLettersOf:FnOk P w K mg base CX0 4 f6 fd6 ["shape"] (spP K zbM):=(zeE LettersOf.fn B).mono (by decide);have GSharedFirst:FnOk P w K mg base CX0 4 f8 fd8 ["shape"] (spP K zbz):=(zfE SharedFirst.fn LettersOf PatternsWith B).mono (by decide);refine zaL F zij (λds Q ⟨a,b,c,e,_⟩=>by rw[e];rfl) (λcdv A outer s H E hr=>?_);have hu:(A.deeper (envOfC "answers" (zac zbp) s.heap.objs.size f cdv)).units+16<cLine:=by have q:=hr.units;lia
 have nd:=zij.nd;refine⟨_,(zae (zam (i:=2) nd rfl (Or.inr rfl) (zan GSharedFirst zeJ hr rfl SharedFirst.mg SharedFirst.fn.kp SharedFirst.bd (zaa (zab 0) zad)))
   (zae (zam (i:=3) nd rfl (Or.inr rfl) (zan GLettersOf zcW hr rfl LettersOf.mg LettersOf.fn.kp LettersOf.bd (zaa (zab 0) zad)))
   (zah (zbd 3 (zbd 2 (zaD (zjT rfl B.sorted (zaa (zaR (N:=["part","order","letters"]) (k:=1) (js:=[2,3]) rfl (zcD (sup:=zac zbp) (XN:=["shape","rows","order","letters"]) rfl rfl (by decide +kernel)) (by decide) (zaP (by decide)) (zaw (zaS (zan GPartsAlong zfr hr rfl PartsAlong.mg PartsAlong.fn.kp PartsAlong.bd (zaa (zab 0) (zaa (zab 1) (zaa (zab 2) zad)))) (zjJ zaj))) ⟨λ_ _ _ _ _=>(zai (i:=0) (by show(["part","order","letters"]:List Str).Nodup;decide +kernel) rfl (Or.inl rfl)),λ_ _ _ _ _=>zbo,λ_ _ _ _ _=>(zan GCellsOf zcI hr rfl CellsOf.mg CellsOf.fn.kp CellsOf.bd (zaa (zab 0) (zaa (zab 1) (zaa (zab 2) zad))))⟩) zad)))))))),λds Q h=>?_⟩
 obtain⟨tabs,names,cells,rfl,ok,q⟩:=h;have hsz:=sizeLine_eq;have h4:∀p∈tabs.map (·.1),p.length<=4:=λp hp=>by obtain⟨b,hb,rfl⟩:=List.mem_map.mp hp;exact(ok.pat b hb).2.1
 have h6:(tabs.map (·.1)).length<=6:=by rw[List.length_map];exact ok.few
 walk_at "pu";refine⟨tabs.map (·.1),zmT tabs,h6,h4,λorder no om=>?_⟩;walk_at "go";refine⟨tabs.map (·.1),zmT tabs,h6,h4,λns hn=>?_⟩;have en:=hn.uniq ok.nms;subst en;have hmem:∀w,w∈order↔w∈ns:=λw=>(om w).trans (hn.mem w).symm;have hlen:order.length=ns.length:=((List.perm_ext_iff_of_nodup no hn.nd).mpr hmem).length_eq;have hsix:=ok.six;have hthree:=ok.three;walk_at "go";have hTO:TabsOk tabs order cells:=by
  have hf:=ok.few;refine⟨by lia,λb hb=>by have:=(ok.pat b hb).2.1;lia,λb hb=>⟨by have:=(ok.rows b hb).1;lia,λr hr=>((ok.rows b hb).2 r hr).1⟩,λb hb r hr=>((ok.rows b hb).2 r hr).2,no,by lia,λx hx=>?_,hthree.1,?_⟩
  ·obtain⟨p,hp,hxp⟩:=(om x).mp hx;obtain⟨b,hb,rfl⟩:=List.mem_map.mp hp;exact⟨b,hb,hxp⟩
  ·refine Nat.le_trans (Nat.pow_le_pow_left hthree.2 _) (Nat.le_trans (Nat.pow_le_pow_right (by lia) (show order.length<=6 by lia)) (by decide))
 have hne:ns≠[]:=λz=>by
  have h0:=ok.pos;obtain⟨b,hb⟩:∃b,b∈tabs:=⟨tabs[0],List.getElem_mem _⟩;have h1:=(ok.pat b hb).1;have:b.1[0]∈ns:=(hn.mem _).mpr ⟨b.1,List.mem_map.mpr ⟨b,hb,rfl⟩,List.getElem_mem _⟩;rw[z]at this;cases this
 refine⟨tabs,rfl,rfl,order,rfl,cells,hTO,λLs hLs=>?_⟩;have hll:=hLs.len;have hlast:Ls[order.length]? = some (Ls[order.length]'(by lia)):=List.getElem?_eq_getElem (by lia);obtain⟨hP,hL⟩:=hLs.at_ _ _ hlast;generalize Ls[order.length]'(by lia)=L at hlast hP hL;rw[List.take_of_length_le (Nat.le_refl _)]at hP;have hLL:L.length<=100000:=Nat.le_trans hL hTO.size;refine⟨_,.inl rfl,PV.lst (L.map rowI),zjZ (by rw[List.length_map,hll,Nat.add_sub_cancel,List.getElem?_map,hlast];rfl),_,rfl,by rw[List.length_map];lia,λi out=>out=((L.take i).map λp=>zal p order ns).map rowI,rfl,?_,?_⟩
 ·rintro i d out hd-rfl;rw[List.getElem?_map]at hd;cases hp:L[i]? with
  | none=>rw[hp]at hd;cases hd
  | some p=>
   rw[hp]at hd;cases hd;have hpl:=((hP.mem p).mp (List.mem_of_getElem? hp)).1;have hsub:∀w∈ns,w∈order:=λw hw=>(hmem w).mpr hw;refine⟨_,rfl,order,ns,rfl,rfl,hsub,by rw[List.length_map];lia,by lia,?_⟩;show _=_;rw[ziT hpl.symm hsub,List.take_add_one,hp,List.map_append,List.map_append];rfl
 ·rintro out-rfl;rw[List.length_map,List.take_of_length_le (Nat.le_refl _)];refine⟨L.map λp=>zal p order ns,rfl,λr hr z=>?_,?_⟩
  ·obtain⟨p,_,rfl⟩:=List.mem_map.mp hr;have:=zeq p order ns;rw[z]at this;exact hne (List.length_eq_zero_iff.mp this.symm)
  ·rw[zog hP no hn.nd hmem (λb hb=>(ok.pat b hb).2.2) (λb hb r hr=>((ok.rows b hb).2 r hr).1) (λb hb w hw=>(hn.mem w).mpr ⟨b.1,List.mem_map.mpr ⟨b,hb,rfl⟩,hw⟩) (λw hw=>?_) (λb hb r hr=>((ok.rows b hb).2 r hr).2) ok.srt]
   ·exact q
   ·obtain⟨p,hp,hxp⟩:=(hn.mem w).mp hw;obtain⟨b,hb,rfl⟩:=List.mem_map.mp hp;exact⟨b,hb,hxp⟩
end
structure zsp (tabs:List Tab):Prop where
 few:tabs.length<=6
 pat:∀b∈tabs,b.1.length<=4
 rows:∀b∈tabs,b.2.length<=1000
 nms:∀names,Names (tabs.map (·.1)) names->names.length<=6
noncomputable def fDue:PF:=λds Q=>∃(tabs:List Tab)(total:Int),ds=[shpP tabs,rwsP tabs,.int total]/\zsp tabs/\∀names cells,Names (tabs.map (·.1)) names->cells.Pairwise (· < ·)->(∀c,c∈cells↔c∈numS total)->Q (.lst ((dueI tabs names cells).map rowI)) .new
theorem zoi:zbR fDue:=λds Q Q' m ⟨a,b,e,h,q⟩=>⟨a,b,e,h,λn c h1 h2 h3=>m _ _ (q n c h1 h2 h3)⟩
noncomputable def incS (ns:List Int):List Int:=(ns.foldl JS.addS []).mergeSort λa b=>decide (a<=b)
theorem zoj (ns:List Int)(x:Int):x∈incS ns↔x∈ns:=by
 unfold incS;rw[(List.mergeSort_perm _ _).mem_iff,JS.zdo];simp
theorem zqc (ns:List Int):(incS ns).Pairwise (· < ·):=by
 have h1:(incS ns).Pairwise (λa b=>a<=b):=(List.pairwise_mergeSort (le:=λa b:Int=>decide (a<=b)) (λa b c h1 h2=>decide_eq_true (by have:=of_decide_eq_true h1;have:=of_decide_eq_true h2;lia)) (λa b=>by
  rw[Bool.or_eq_true];rcases Int.le_total a b with h | h
  ·exact .inl (decide_eq_true h)
  ·exact .inr (decide_eq_true h)) _).imp λ{a b} h=>of_decide_eq_true h
 have h2:(incS ns).Nodup:=(List.mergeSort_perm _ _).nodup_iff.mpr (zen ns [] List.nodup_nil);exact List.Pairwise.imp₂ (λa b (h1:a<=b) (h2:a≠b)=>by lia) h1 h2
theorem zmU:∀ {xs ys:List Int},xs.Pairwise (· < ·)->ys.Pairwise (· < ·)->(∀x,x∈xs↔x∈ys)->xs=ys
 | [],[],_,_,_=>rfl
 | [],y::ys,_,_,h=>absurd ((h y).mpr List.mem_cons_self) (by simp)
 | x::xs,[],_,_,h=>absurd ((h x).mp List.mem_cons_self) (by simp)
 | x::xs,y::ys,p,q,h=>by
  obtain⟨p1,p2⟩:=List.pairwise_cons.mp p;obtain⟨q1,q2⟩:=List.pairwise_cons.mp q;have e:x=y:=by
   rcases List.mem_cons.mp ((h x).mp List.mem_cons_self)with e | hx
   ·exact e
   ·rcases List.mem_cons.mp ((h y).mpr List.mem_cons_self)with e | hy
    ·exact e.symm
    ·have:=p1 y hy;have:=q1 x hx;lia
  subst e;rw[zmU p2 q2 λz=>?_];constructor
  ·intro hz;rcases List.mem_cons.mp ((h z).mp (List.mem_cons_of_mem _ hz))with e | hz'
   ·have:=p1 z hz;lia
   ·exact hz'
  ·intro hz;rcases List.mem_cons.mp ((h z).mpr (List.mem_cons_of_mem _ hz))with e | hz'
   ·have:=q1 z hz;lia
   ·exact hz'
noncomputable def keyS (fs:List Str):List Key:=fs.map Sum.inr
noncomputable def addL (fs:List Str)(x:Str):List Str:=if x∈fs then fs else fs++[x]
theorem zsq (fs:List Str)(x:Str):hasK (keyS fs) (.inr x)=decide (x∈fs):=by
 unfold hasK keyS;rw[List.any_map,Bool.eq_iff_iff,List.any_eq_true,decide_eq_true_iff];constructor
 ·rintro⟨y,hy,e⟩;have:y=x:=by simpa using e
  rw[<- this];exact hy
 ·exact λh=>⟨x,h,by simp⟩
theorem zqd {fs:List Str}{x:Str}(h:fs.Nodup):(addL fs x).Nodup:=by
 unfold addL;split
 ·exact h
 ·rename_i hn
  rw[List.nodup_append];exact⟨h,by simp,λa ha b hb e=>hn (by rw[<- List.mem_singleton.mp hb,<- e];exact ha)⟩
theorem zok {fs:List Str}{x y:Str}:y∈addL fs x↔y∈fs\/y=x:=by
 unfold addL;split
 ·constructor
  ·exact .inl
  ·rintro(h | rfl)
   ·exact h
   ·assumption
 ·rw[List.mem_append,List.mem_singleton]
theorem zol (fs:List Str)(x:Str):(addL fs x).length<=fs.length+1:=by
 unfold addL;split
 ·lia
 ·simp
theorem putS (gs:List Str)(x:Str):(if hasK (keyS gs) (.inr x)=true then PV.dK (keyS gs) (putD (keyS gs) (gs.map λ_=>PV.bl true) (.inr x) (PV.bl true)) else PV.dK (keyS gs++[.inr x]) ((gs.map λ_=>PV.bl true)++[PV.bl true]))=PV.dK (keyS (addL gs x)) ((addL gs x).map λ_=>PV.bl true):=by
 rw[zsq];unfold addL;by_cases h:x∈gs
 ·rw[if_pos (decide_eq_true h),if_pos h]
  congr 1
  unfold putD keyS;rw[List.zip_map',List.map_map];refine List.map_congr_left λy _=>?_;show(if (Sum.inr y:Key)=Sum.inr x then PV.bl true else PV.bl true)=_
  split<;>rfl
 ·rw[if_neg (by simpa using h),if_neg h];unfold keyS;rw[List.map_append,List.map_append];rfl
theorem zfy (cells:List Int):∀n:Nat,(zaW cells n).length=cells.length ^ n
 | 0=>rfl
 | n+1=>by
  show((zaW cells n).flatMap _).length=_;rw[List.length_flatMap];have:(zaW cells n).map (λp=>(cells.map λc=>p++[c]).length)=(zaW cells n).map λ_=>cells.length:=List.map_congr_left λp _=>by rw[List.length_map]
  rw[this];have h2:∀(l:List (List Int)) (k:Nat),(l.map λ_=>k).sum=l.length*k:=λl k=>by
   induction l with
   | nil=>simp
   | cons a l ih=>rw[List.map_cons,List.sum_cons,ih,List.length_cons,Nat.add_mul];lia
  rw[h2,zfy cells n,Nat.pow_succ]
theorem zom (ns:List Int):(incS ns).length<=ns.length:=by
 unfold incS;rw[(List.mergeSort_perm _ _).length_eq];have:=JS.zcE ns [];simpa using this
theorem zqe (l:List (List Int))(f:List Int->List (List Int))(j:Nat):((l.take j).flatMap f).length<=(l.flatMap f).length:=by
 have e:(l.take j).flatMap f++(l.drop j).flatMap f=l.flatMap f:=by rw[<- List.flatMap_append,List.take_append_drop]
 rw[<- e,List.length_append];lia
local macro_rules | `(tactic| walk_at "pu")=>puM "zcT zhP zhQ zse zmw pFrz zdu"
section
variable {P:Program}{w:World}{K:PySem.W.Frag}{mg:Str->Option Value}{base:Heap}
theorem zsr:zaC ["_law_shape_here","_law_rows_here","_law_total","_law_known","_law_pattern","_law_letter","_law_names","_law_some","_law_more","_law_part","_law_due_here","_law_lacking","_law_i"] ["_law_shape_here","_law_rows_here","_law_total"] (zac sDue):=⟨rfl,rfl,rfl,by decide +kernel,rfl,by decide +kernel,by decide +kernel⟩
theorem zss {f fM fN:Addr}{fd fdM fdN:FuncData}(F:Fun K "_law_due" "_law_due" sDue f fd) (Mix:Fx K mg "_law_mix" sMix ["_law_cell","_law_j"] fM fdM) (Numbers:Fx K mg "_law_numbers" zbr ["_law_cell"] fN fdN) (B:Bl mg):FnOk P w K mg base CX0 3 f fd ["_law_shape_here","_law_rows_here","_law_total"] (spP K fDue):=by
 have GNumbers:FnOk P w K mg base CX0 2 fN fdN ["_law_cell"] (spP K zcT):=zfV Numbers.fn Mix B;refine zaL F zsr (λds Q ⟨a,b,e,_⟩=>by rw[e];rfl) (λcdv A outer s H E hr=>?_);have hu:(A.deeper (envOfC "_law_due" (zac sDue) s.heap.objs.size f cdv)).units+16<cLine:=by have q:=hr.units;lia
 have nd:=zsr.nd;refine⟨_,(zae (zam (i:=3) nd rfl (Or.inl rfl) zmp)
   (zae (zbQ rfl PassesOwn.never (zaw (zab 0)) (zai (i:=4) nd rfl (Or.inl rfl)) (zah (zbQ rfl PassesOwn.never (zff (zab 4)) (zai (i:=5) nd rfl (Or.inl rfl)) (zah (zmb 3 (hu1 hu) (zab 5) ziA)))))
   (zae (zam (i:=6) nd rfl (Or.inr rfl) (ziS 3 rfl rfl B.sorted))
   (zae (zam (i:=7) nd rfl (Or.inl rfl) (zbE (zaa (zhj zad) zad)))
   (zae (zbd 7 (zbd 6 (zbQ rfl PassesOwn.never (zaw (zab 6)) (zai (i:=5) nd rfl (Or.inl rfl)) (zae (zam (i:=8) nd rfl (Or.inl rfl) (zbE zad))
   (zae (zbQ rfl PassesOwn.never (zaw (zab 7)) (zai (i:=9) nd rfl (Or.inr rfl)) (zah (zbw (znT 8 (zaR (N:=["_law_cell","_law_part"]) (k:=1) (js:=[9]) rfl (zcD (sup:=zac sDue) (XN:=["_law_shape_here","_law_rows_here","_law_total","_law_known","_law_pattern","_law_letter","_law_names","_law_some","_law_more","_law_part","_law_due_here","_law_lacking","_law_i"]) rfl rfl (by decide +kernel)) (by decide) (zaP (by decide)) (zaw (ziR rfl rfl B.sorted rfl B.set (zan GNumbers zeC hr rfl Numbers.mg Numbers.fn.kp Numbers.bd (zaa (zab 2) zad)))) ⟨λ_ _ _ _ _=>(zai (i:=0) (by show(["_law_cell","_law_part"]:List Str).Nodup;decide +kernel) rfl (Or.inl rfl)),λ_ _ _ _ _=>zbo,λ_ _ _ _ _=>(zmx (zab 1) (zhj (zaa (zab 0) zad)))⟩)))))
   (zah (zbd 8 (zam (i:=7) nd rfl (Or.inl rfl) (zab 8)))))))))
   (zae (zam (i:=10) nd rfl (Or.inl rfl) (zbE zad))
   (zae (zbd 7 (zbQ rfl PassesOwn.never (zaw (zab 7)) (zai (i:=9) nd rfl (Or.inr rfl)) (zae (zam (i:=11) nd rfl (Or.inl rfl) ziA)
   (zae (zbQ rfl PassesOwn.never (zbK rfl B.range (zaa (zdy rfl B.len (zaa (zab 0) zad)) zad)) (zai (i:=12) nd rfl (Or.inl rfl)) (zah (zfI (zdw hu (zdz rfl B.tuple (zaa (zaR (N:=["_law_letter","_law_names","_law_part"]) (k:=1) (js:=[6,9]) rfl (zcD (sup:=zac sDue) (XN:=["_law_shape_here","_law_rows_here","_law_total","_law_known","_law_pattern","_law_letter","_law_names","_law_some","_law_more","_law_part","_law_due_here","_law_lacking","_law_i"]) rfl rfl (by decide +kernel)) (by decide) (zaP (by decide)) (zff (zaS (zab 0) (zab 12))) ⟨λ_ _ _ _ _=>(zai (i:=0) (by show(["_law_letter","_law_names","_law_part"]:List Str).Nodup;decide +kernel) rfl (Or.inl rfl)),λ_ _ _ _ _=>zbo,λ_ _ _ _ _=>(zaS (zab 2) (zgt (zab 1) (zab 0)))⟩) zad)) (zaS (zab 1) (zab 12))) (zae (zam (i:=11) nd rfl (Or.inl rfl) ziA)
   (zah zlD)) zcM)))
   (zah (zfI (zgi (zdW (zab 11))) (zah (zbw (zcl 10 (zab 9)))) zcM))))))
   (zah (zaD (zab 10)))))))))),λds Q h=>?_⟩
 obtain⟨tabs,total,rfl,ok,q⟩:=h;have hsz:=sizeLine_eq;walk_at "pu";walk_at "auto";have hf:=ok.few;obtain⟨Iv,hIv⟩:∃Iv:Nat->PEnv->Prop,∀i ρ,Iv i ρ↔∃(fs:List Str) (k4 k5:Option (PV×Bool)),fs.Nodup/\fs.length<=4*i/\(∀x,x∈fs↔∃p∈(tabs.map (·.1)).take i,x∈p)/\ρ=[some (shpP tabs,false),some (rwsP tabs,false),some (PV.int total,false),some (PV.dK (keyS fs) (fs.map λ_=>PV.bl true),true),
       k4,k5,none,none,none,none,none,none,none]:=⟨_,λ_ _=>Iff.rfl⟩
 refine⟨_,rfl,Iv,(hIv _ _).mpr ⟨[],none,none,List.nodup_nil,by simp,λx=>by simp,rfl⟩,?_,?_⟩
 ·intro i d ρ hd hI;obtain⟨fs,k4,k5,n1,n2,n3,rfl⟩:=(hIv _ _).mp hI;rw[List.getElem?_map]at hd;cases hb:tabs[i]? with
  | none=>rw[hb]at hd;cases hd
  | some b=>
   rw[hb]at hd;cases hd;have hbm:=List.mem_of_getElem? hb;have hil:i<tabs.length:=(List.getElem?_eq_some_iff.mp hb).1;have hb4:=ok.pat b hbm;have htk:(tabs.map (·.1)).take (i+1)=(tabs.map (·.1)).take i++[b.1]:=by rw[List.take_add_one,List.getElem?_map,hb];rfl
   walk_at "go";obtain⟨Jv,hJv⟩:∃Jv:Nat->PEnv->Prop,∀j ρ,Jv j ρ↔∃(gs:List Str) (k5:Option (PV×Bool)),gs.Nodup/\gs.length<=4*i+j/\(∀x,x∈gs↔x∈fs\/x∈b.1.take j)/\ρ=[some (shpP tabs,false),some (rwsP tabs,false),some (PV.int total,false),some (PV.dK (keyS gs) (gs.map λ_=>PV.bl true),true),
       some (PV.tup (b.1.map PV.str),false),k5,none,none,none,none,none,none,none]:=⟨_,λ_ _=>Iff.rfl⟩
   refine⟨Jv,(hJv _ _).mpr ⟨fs,k5,n1,by lia,λx=>by simp,rfl⟩,?_,?_⟩
   ·intro j d ρ hd hJ;obtain⟨gs,k5,g1,g2,g3,rfl⟩:=(hJv _ _).mp hJ;rw[List.getElem?_map]at hd;cases hx:b.1[j]? with
    | none=>rw[hx]at hd;cases hd
    | some x=>
     rw[hx]at hd;cases hd;have hjl:j<b.1.length:=(List.getElem?_eq_some_iff.mp hx).1;walk_at "go";have hg:gs.length<sizeLine:=by lia
     refine⟨by unfold keyS;rw[List.length_map];exact hg,.inr x,rfl,(hJv _ _).mpr ⟨addL gs x,_,zqd g1,by have:=zol gs x;lia,λy=>?_,by rw[putS]⟩⟩;rw[zok,g3,List.take_add_one,hx];simp only[Option.toList_some,List.mem_append,List.mem_singleton];constructor
     ·rintro((h | h) | h)
      ·exact .inl h
      ·exact .inr (.inl h)
      ·exact .inr (.inr h)
     ·rintro(h | h | h)
      ·exact .inl (.inl h)
      ·exact .inl (.inr h)
      ·exact .inr h
   ·intro ρ hJ;obtain⟨gs,k5,g1,g2,g3,rfl⟩:=(hJv _ _).mp hJ;rw[List.length_map]at g2 g3;rw[List.take_of_length_le (Nat.le_refl _)]at g3;refine(hIv _ _).mpr ⟨gs,_,k5,g1,by lia,λx=>?_,rfl⟩;rw[g3,n3,htk];simp only[List.mem_append,List.mem_singleton];constructor
    ·rintro(⟨p,h1,h2⟩ | h)
     ·exact⟨p,.inl h1,h2⟩
     ·exact⟨_,.inr rfl,h⟩
    ·rintro⟨p,h1 | rfl,h2⟩
     ·exact .inl ⟨p,h1,h2⟩
     ·exact .inr h2
 ·intro ρ hI;obtain⟨fs,k4,k5,n1,n2,n3,rfl⟩:=(hIv _ _).mp hI;rw[List.length_map]at n2 n3;rw[List.take_of_length_le (by rw[List.length_map];exact Nat.le_refl _)]at n3;walk_at "go";refine⟨fs,rfl,by lia,λzs z1 z2=>?_⟩;have hn:Names (tabs.map (·.1)) zs:=⟨z1.nodup_iff.mpr n1,λx=>z1.mem_iff.trans (n3 x),z2⟩;have hsix:=ok.nms zs hn;obtain⟨cells,hcl⟩:∃cells,cells=incS (numS total):=⟨_,rfl⟩;have hc1:cells.Pairwise (· < ·):=by rw[hcl];exact zqc _
  have hc2:∀c,c∈cells↔c∈numS total:=λc=>by rw[hcl];exact zoj _ c
  have hc3:cells.length<=3:=by have h1:=zom (numS total);have h2:=zcS total;rw[hcl];lia
  have hpl:∀n,n<=6->(zaW cells n).length<=729:=λn h=>by
   rw[zfy];exact Nat.le_trans (Nat.pow_le_pow_left hc3 _) (Nat.le_trans (Nat.pow_le_pow_right (by lia) h) (by decide))
  have q:=q zs cells hn hc1 hc2;walk_at "go";refine⟨by lia,by lia,?_⟩;walk_at "go";obtain⟨kn,hkn⟩:∃kn,kn=some (PV.dK (keyS fs) (List.map (λx=>PV.bl true) fs),true):=⟨_,rfl⟩;rw[<- hkn];obtain⟨Lv,hLv⟩:∃Lv:Nat->PEnv->Prop,∀i ρ,Lv i ρ↔∃(k5 k8 k9:Option (PV×Bool)),ρ=[some (shpP tabs,false),some (rwsP tabs,false),some (PV.int total,false),kn,k4,k5,some (PV.lst (List.map PV.str zs),false),some (PV.lst ((zaW cells i).map rowI),false),k8,k9,none,none,none]:=⟨_,λ_ _=>Iff.rfl⟩;refine⟨Lv,(hLv _ _).mpr ⟨k5,none,none,rfl⟩,?_,?_⟩
  ·intro i d ρ hd hL;obtain⟨k5,k8,k9,rfl⟩:=(hLv _ _).mp hL;have hil:i<zs.length:=by have:=(List.getElem?_eq_some_iff.mp hd).1;rw[List.length_map]at this;exact this
   have hpi:=hpl i (by lia);have hpi1:=hpl (i+1) (by lia);walk_at "go";refine⟨by lia,?_⟩;walk_at "go";obtain⟨Mv,hMv⟩:∃Mv:Nat->PEnv->Prop,∀j ρ,Mv j ρ↔∃(k9:Option (PV×Bool)),ρ=[some (shpP tabs,false),some (rwsP tabs,false),some (PV.int total,false),kn,k4,some (d,false),some (PV.lst (List.map PV.str zs),false),some (PV.lst ((zaW cells i).map rowI),false),
    some (PV.lst ((((zaW cells i).take j).flatMap λp=>cells.map λc=>p++[c]).map rowI),true),k9,none,none,none]:=⟨_,λ_ _=>Iff.rfl⟩
   refine⟨Mv,(hMv _ _).mpr ⟨k9,rfl⟩,?_,?_⟩
   ·intro j d ρ hd hM;obtain⟨k9,rfl⟩:=(hMv _ _).mp hM;rw[List.getElem?_map]at hd;cases hp:(zaW cells i)[j]? with
    | none=>rw[hp]at hd;cases hd
    | some p=>
     rw[hp]at hd;cases hd;walk_at "go";have hpm:=(zby.mp (List.mem_of_getElem? hp)).1;have hns:=zcS total;refine⟨numS total,rfl,by lia,λcs c1 c2=>?_⟩;have ec:cs=cells:=zmU c1 hc1 λx=>(c2 x).trans (hc2 x).symm;subst ec;have htk:(zaW cs i).take (j+1)=(zaW cs i).take j++[p]:=by rw[List.take_add_one,hp];rfl
     have hfl:=zqe (zaW cs i) (λp=>cs.map λc=>p++[c]) (j+1);have hfl:(((zaW cs i).take (j+1)).flatMap λp=>cs.map λc=>p++[c]).length<=(zaW cs (i+1)).length:=hfl;rw[htk,List.flatMap_append,List.length_append]at hfl;refine⟨by rw[List.length_map];lia,λk out=>out=((cs.take k).map λc=>p++[c]).map rowI,rfl,?_,?_⟩
     ·rintro k d out hd-rfl;rw[List.getElem?_map]at hd;cases hc:cs[k]? with
      | none=>rw[hc]at hd;cases hd
      | some c=>
       rw[hc]at hd;cases hd;refine⟨by lia,_,rfl,by rw[List.length_map];lia,?_⟩;show _=_;rw[List.take_add_one,hc,List.map_append,List.map_append]
       congr 1
       show[PV.tup _]=[rowI (p++[c])];unfold rowI;rw[List.map_append];rfl
     ·rintro out-rfl;rw[show cs.take (List.map PV.int cs).length=cs from List.take_of_length_le (by rw[List.length_map];exact Nat.le_refl _)];refine⟨by rw[List.length_map,List.length_map,List.length_map];lia,(hMv _ _).mpr ⟨some (rowI p,false),?_⟩⟩;rw[htk,List.flatMap_append,List.map_append];simp
   ·intro ρ hM;obtain⟨k9,rfl⟩:=(hMv _ _).mp hM;rw[List.length_map,List.take_of_length_le (Nat.le_refl _)];walk_at "go";exact(hLv _ _).mpr ⟨_,_,_,rfl⟩
  ·intro ρ hL;obtain⟨k5,k8,k9,rfl⟩:=(hLv _ _).mp hL;rw[List.length_map];walk_at "go";have hpz:=hpl zs.length hsix;refine⟨by lia,?_⟩;walk_at "go";obtain⟨Nv,hNv⟩:∃Nv:Nat->PEnv->Prop,∀j ρ,Nv j ρ↔∃(k9 k11 k12:Option (PV×Bool)),ρ=[some (shpP tabs,false),some (rwsP tabs,false),some (PV.int total,false),kn,k4,k5,
    some (PV.lst (List.map PV.str zs),false),some (PV.lst (List.map rowI (zaW cells zs.length)),false),k8,k9,
    some (PV.lst ((((zaW cells zs.length).take j).filter (zdf tabs zs)).map rowI),true),k11,k12]:=⟨_,λ_ _=>Iff.rfl⟩
   refine⟨Nv,(hNv _ _).mpr ⟨k9,none,none,rfl⟩,?_,?_⟩
   ·intro j d ρ hd hN;obtain⟨k9,k11,k12,rfl⟩:=(hNv _ _).mp hN;rw[List.getElem?_map]at hd;cases hp:(zaW cells zs.length)[j]? with
    | none=>rw[hp]at hd;cases hd
    | some p=>
     rw[hp]at hd;cases hd;have hpm:=(zby.mp (List.mem_of_getElem? hp)).1;have htk:(zaW cells zs.length).take (j+1)=(zaW cells zs.length).take j++[p]:=by rw[List.take_add_one,hp];rfl
     have hjl:j<(zaW cells zs.length).length:=(List.getElem?_eq_some_iff.mp hp).1;walk_at "go";have tail:∀(b:Bool) (k12:Option (PV×Bool)),b = !zdf tabs zs p->Hold (pIf (zds (tTru (pVar 11))) (zbF (mApp 10 (pVar 9))) zda)
         {nx:=Nv (j+1),rt:=Q,
          bk:=
           Hold (pRet (pVar 10)) { nx:=λx=>Q PV.non Kd.frz,rt:=Q,bk:=λx=>False,ct:=λx=>False },
          ct:=Nv (j+1) }
         [some (shpP tabs,false),some (rwsP tabs,false),some (PV.int total,false),kn,k4,k5,
          some (PV.lst (List.map PV.str zs),false),some (PV.lst (List.map rowI (zaW cells zs.length)),false),k8,
          some (rowI p,false),
          some (PV.lst (List.map rowI (List.filter (zdf tabs zs) (List.take j (zaW cells zs.length)))),true),
          some (PV.bl b,false),k12]:=by
      intro b k12 hb;have hfl:=List.length_filter_le (zdf tabs zs) ((zaW cells zs.length).take j);rw[List.length_take]at hfl;walk_at "go";refine ite2 (λe=>?_) (λe=>?_)
      ·have hft:zdf tabs zs p=true:=by rw[e]at hb;cases h:zdf tabs zs p with
        | true=>rfl
        | false=>rw[h]at hb;cases hb
       walk_at "go";refine⟨by rw[List.length_map];lia,(hNv _ _).mpr ⟨some (rowI p,false),some (PV.bl b,false),k12,?_⟩⟩;rw[htk,List.filter_append,zsm hft,List.map_append];rfl
      ·have hft:zdf tabs zs p=false:=by cases h:zdf tabs zs p with
        | false=>rfl
        | true=>rw[h]at hb;exact absurd hb e
       walk_at "go";refine(hNv _ _).mpr ⟨some (rowI p,false),some (PV.bl b,false),k12,?_⟩;rw[htk,List.filter_append,zsn hft,List.append_nil]
     walk_at "go";have hlenR:(rngP 0 ((tabs.map λb=>PV.tup (b.1.map PV.str)).length:Int).toNat).length=tabs.length:=by rw[zbT,List.length_map];simp
     obtain⟨Ov,hOv⟩:∃Ov:Nat->PEnv->Prop,∀i ρ,Ov i ρ↔∃(k12:Option (PV×Bool)),(∀b∈tabs.take i,zal p zs b.1∈b.2)/\ρ=[some (shpP tabs,false),some (rwsP tabs,false),some (PV.int total,false),kn,k4,k5,
         some (PV.lst (List.map PV.str zs),false),
         some (PV.lst (List.map rowI (zaW cells zs.length)),false),k8,some (rowI p,false),
         some
          (PV.lst (List.map rowI (List.filter (zdf tabs zs) (List.take j (zaW cells zs.length)))),true),
         some (PV.bl false,false),k12]:=⟨_,λ_ _=>Iff.rfl⟩
     refine⟨_,rfl,by lia,by rw[List.length_map];lia,Ov,(hOv _ _).mpr ⟨k12,λb hb=>by simp at hb,rfl⟩,?_,?_⟩
     ·intro i d ρ hd hO;obtain⟨k12,o1,rfl⟩:=(hOv _ _).mp hO;obtain⟨hi,rfl⟩:=zct hd;rw[Int.zero_add];have hi:i<tabs.length:=by rw[List.length_map]at hi;lia
      obtain⟨b,hb⟩:∃b,tabs[i]? = some b:=⟨_,List.getElem?_eq_getElem hi⟩;have hbm:=List.mem_of_getElem? hb;have hb4:=ok.pat b hbm;have hsub:∀w∈b.1,w∈zs:=λw hw=>(hn.mem w).mpr ⟨b.1,List.mem_map.mpr ⟨b,hbm,rfl⟩,hw⟩;have htb:tabs.take (i+1)=tabs.take i++[b]:=by rw[List.take_add_one,hb];rfl
      walk_at "go";refine⟨_,.inl rfl,PV.tup (b.1.map PV.str),zbl (by rw[List.getElem?_map,hb];rfl),_,rfl,by rw[List.length_map];lia,λk out=>out=(zal p zs (b.1.take k)).map PV.int,rfl,?_,?_⟩
      ·rintro k d out hd-rfl;rw[List.getElem?_map]at hd;cases hx:b.1[k]? with
       | none=>rw[hx]at hd;cases hd
       | some x=>
        rw[hx]at hd;cases hd;have hxz:=hsub x (List.mem_of_getElem? hx);have hlt:=zcH hxz;have hlp:ixS zs x<p.length:=by lia
        refine⟨zfp zs,rfl,List.mem_map.mpr ⟨x,hxz,rfl⟩,.inl ⟨_,.inr rfl,PV.int (p.getD (ixS zs x) 0),zbl ?_,?_⟩⟩
        ·show(p.map PV.int)[ixS zs x]? = _;rw[List.getElem?_map,List.getElem?_eq_getElem hlp,List.getD_eq_getElem?_getD,List.getElem?_eq_getElem hlp];rfl
        ·show _=_;unfold zal;rw[List.take_add_one,hx,List.map_append,List.map_append];rfl
      ·rintro out-rfl;rw[List.length_map,List.take_of_length_le (Nat.le_refl _)];refine⟨_,.inl rfl,tblP b.2,zbl (by rw[List.getElem?_map,hb];rfl),b.2.map rowI,.inl rfl,by simp[PL.plain],zfW b.2,ite2 (λe=>?_) (λe=>?_)⟩
       ·have hm:¬ zal p zs b.1∈b.2:=λz=>e (zeU.mpr z);walk_at "go";walk_at "go";refine tail true _ ?_;have:zdf tabs zs p=false:=by
         unfold zdf;rw[List.all_eq_false];exact⟨b,hbm,by simpa using hm⟩
        rw[this];rfl
       ·have hm:zal p zs b.1∈b.2:=Classical.byContradiction λz=>e λy=>z (zeU.mp y);walk_at "go";refine(hOv _ _).mpr ⟨_,λc hc=>?_,rfl⟩;rw[htb]at hc;rcases List.mem_append.mp hc with hc | hc
        ·exact o1 c hc
        ·rw[List.mem_singleton.mp hc];exact hm
     ·intro ρ hO;obtain⟨k12,o1,rfl⟩:=(hOv _ _).mp hO;rw[hlenR,List.take_of_length_le (Nat.le_refl _)]at o1;refine tail false k12 ?_;have:zdf tabs zs p=true:=by unfold zdf;rw[List.all_eq_true];exact λb hb=>decide_eq_true (o1 b hb)
      rw[this];rfl
   ·intro ρ hN;obtain⟨k9,k11,k12,rfl⟩:=(hNv _ _).mp hN;rw[List.length_map,List.take_of_length_le (Nat.le_refl _)];walk_at "go";exact q
end
noncomputable def zkl:PF:=λds Q=>∃c:Int,ds=[.int c]/\Q (.bl true) .frz
theorem zkL:zbR zkl:=λds Q Q' m ⟨c,e,q⟩=>⟨c,e,m _ _ q⟩
noncomputable def fLaw:PF:=λds Q=>∃ns:List Int,ds=[.lst (ns.map PV.int)]/\ns.length<=63/\Q (.bl true) .frz
theorem zon:zbR fLaw:=λds Q Q' m ⟨l,e,h,q⟩=>⟨l,e,h,m _ _ q⟩
noncomputable def zbi (total:Int)(cells:List Int):List Tab:=(shpS total).zip (rwsS (shpS total) cells total)
theorem zoo (c:Int):∀x∈letS c,x.length=1:=λx hx=>by
 have hx:=(List.take_sublist _ _).mem hx;unfold zcR zbg at hx;obtain⟨k,_,rfl⟩:=List.mem_map.mp hx;rfl
theorem zes (c:Int):ShOk (shpS c):=by
 have h:=zmM c;have hl:(shpS c).length=nShp c:=by simp[shpS]
 refine⟨by lia,by lia,λls hm=>?_⟩;obtain⟨i,_,rfl⟩:=List.mem_map.mp hm;have hp:=zfv c i;exact⟨by rw[zkd];exact hp.1,by rw[zkd];exact hp.2.1,zpZ c i,λx hx=>zoo c x (zke c i x hx)⟩
theorem zkm (sh:List (List Str))(hs:0<sh.length)(cells:List Int)(total:Int):(rwsS sh cells total).length=sh.length:=by
 unfold rwsS;rw[List.length_map];exact(rw3 hs (by have:=zcS total;lia) cells total).len
theorem zmV {sh:List (List Str)}(hs:0<sh.length)(cells:List Int)(total:Int){i:Nat}{l:List (List Int)}(h:(rwsS sh cells total)[i]? = some l):l.length<=cells.length+sh.length/\∀r∈l,r.length=(sh.getD i []).length/\∀c∈r,c∈numS total:=by
 unfold rwsS at h;rw[List.getElem?_map]at h;cases e:(rws3 sh (numS total) cells total)[i]? with
 | none=>rw[e]at h;cases h
 | some l0=>
  rw[e]at h;have h:=Option.some.inj h;obtain⟨h1,h2⟩:=(rw3 hs (by have:=zcS total;lia) cells total).row i l0 e;have hp:=sortI_perm l0;rw[<- h];exact⟨by rw[hp.length_eq];exact h1,λr hr=>h2 r (hp.mem_iff.mp hr)⟩
theorem zqf {α β:Type}{a:List α}{b:List β}(h:a.length=b.length):(a.zip b).map (·.1)=a:=List.map_fst_zip (by lia)
theorem zqg {α β:Type}{a:List α}{b:List β}(h:a.length=b.length):(a.zip b).map (·.2)=b:=List.map_snd_zip (by lia)
theorem zca {total:Int}{cells:List Int}{b:Tab}(h:b∈zbi total cells):b.1∈shpS total/\b.2.length<=cells.length+6/\∀r∈b.2,r.length=b.1.length/\∀c∈r,c∈numS total:=by
 have ok:=zes total;obtain⟨i,hi,e⟩:=List.mem_iff_getElem.mp h;have hz:=List.getElem?_eq_getElem hi;rw[e]at hz;unfold zbi at hz;rw[List.getElem?_zip_eq_some]at hz;obtain⟨z1,z2⟩:=hz;obtain⟨h1,h2⟩:=zmV ok.pos cells total z2;have hg:(shpS total).getD i []=b.1:=by rw[List.getD_eq_getElem?_getD,z1];rfl
 rw[hg]at h2;have:=ok.few;exact⟨List.mem_of_getElem? z1,by lia,h2⟩
theorem zeV (total:Int)(cells:List Int):(zbi total cells).map (·.1)=shpS total:=zqf (zkm _ (zes total).pos cells total).symm
theorem zop (total:Int)(cells:List Int):(zbi total cells).map (·.2)=rwsS (shpS total) cells total:=zqg (zkm _ (zes total).pos cells total).symm
theorem zgJ (total:Int)(cells:List Int):shpP (zbi total cells)=shpV (shpS total):=by rw[zmT,zeV]
theorem zgK (total:Int)(cells:List Int):rwsP (zbi total cells)=.lst ((rwsS (shpS total) cells total).map tblP):=by
 unfold rwsP;rw[<- zop,List.map_map];rfl
theorem zik {total:Int}{cells:List Int}{names:List Str}(h:Names ((zbi total cells).map (·.1)) names):names.length<=6:=by
 rw[zeV]at h;have h1:∀x∈names,x∈letS total:=λx hx=>by
  obtain⟨p,hp,hxp⟩:=(h.mem x).mp hx;obtain⟨i,_,rfl⟩:=List.mem_map.mp hp;exact zke total i x hxp
 have h2:=List.Nodup.length_le_of_subset h.nd h1;rw[zeT]at h2;have:=zfs total;lia
theorem zst {total:Int}{cells:List Int}(h:cells.length<=63):zsp (zbi total cells):=by
 have ok:=zes total;refine⟨?_,λb hb=>(ok.pat _ (zca hb).1).2.1,λb hb=>by have:=(zca hb).2.1;lia,λnames hn=>zik hn⟩;have:(zbi total cells).length=(shpS total).length:=by rw[<- zeV total cells,List.length_map]
 rw[this];exact ok.few
theorem zsu {total:Int}{cells nums:List Int}{names:List Str}(h:cells.length<=63)(hn:Names ((zbi total cells).map (·.1)) names)(hp:nums.Pairwise (· < ·))(hm:∀c,c∈nums↔c∈numS total):zso (zbi total cells) names nums:=by
 have ok:=zes total;have hl:(zbi total cells).length=(shpS total).length:=by rw[<- zeV total cells,List.length_map]
 have nl:=zcS total;refine⟨by rw[hl];exact ok.pos,by rw[hl];exact ok.few,λb hb=>⟨(ok.pat _ (zca hb).1).1,(ok.pat _ (zca hb).1).2.1,(ok.pat _ (zca hb).1).2.2.1⟩,
  λb hb=>⟨by have:=(zca hb).2.1;lia,λr hr=>⟨((zca hb).2.2 r hr).1,λc hc=>(hm c).mpr (((zca hb).2.2 r hr).2 c hc)⟩⟩,hn,zik hn,hp,?_,?_⟩
 ·have h0:(numS total)[0]'(by lia)∈nums:=(hm _).mpr (List.getElem_mem _);exact List.length_pos_of_mem h0
 ·have nd:nums.Nodup:=hp.imp λ{a b} z=>by lia
  have:=List.Nodup.length_le_of_subset nd (λc hc=>(hm c).mp hc);lia
theorem zil (n:Nat)(sh:List (List Str)):PL.plain (n+3) (shpV sh)=true:=by
 unfold shpV;show(sh.map _).all (PL.plain (n+2))=true;rw[List.all_map,List.all_eq_true];intro r _;show PL.plain (n+2) (PV.tup (r.map PV.str))=true;simp[PL.plain]
theorem zfX (n:Nat)(l:List (List (List Int))):(l.map tblP).all (PL.plain (n+3))=true:=by
 rw[List.all_map,List.all_eq_true];intro r _;show PL.plain (n+3) (PV.lst (r.map rowI))=true;show(r.map rowI).all (PL.plain (n+2))=true;rw[List.all_map,List.all_eq_true];intro x _;show PL.plain (n+2) (PV.tup (x.map PV.int))=true;simp[PL.plain]
theorem zcy (n:Nat)(l:List (List Int)):(l.map rowI).all (PL.plain (n+2))=true:=by
 rw[List.all_map,List.all_eq_true];intro r _;show PL.plain (n+2) (PV.tup (r.map PV.int))=true;simp[PL.plain]
theorem zqh {tabs:List Tab}{names:List Str}{cells:List Int}(h1:names.length<=6)(h2:cells.length<=3):(dueI tabs names cells).length<=729:=by
 unfold dueI;refine Nat.le_trans (List.length_filter_le _ _) ?_;rw[zfy];exact Nat.le_trans (Nat.pow_le_pow_left h2 _) (Nat.le_trans (Nat.pow_le_pow_right (by lia) h1) (by decide))
local macro_rules | `(tactic| walk_at "pu")=>puM "zkl zib zmQ fDue zdR pFrz zdu zsf"
section
variable {P:Program}{w:World}{K:PySem.W.Frag}{mg:Str->Option Value}{base:Heap}
theorem zmW:zaC ["_law_found"] ["_law_found"] (zac zdM):=⟨rfl,rfl,rfl,by decide +kernel,rfl,by decide +kernel,by decide +kernel⟩
theorem zoq {f:Addr}{fd:FuncData}(F:Fun K "_law_whole" "_law_whole" zdM f fd) (B:Bl mg):FnOk P w K mg base CX0 1 f fd ["_law_found"] (spP K zkl):=by
 refine zaL F zmW (λds Q ⟨a,e,_⟩=>by rw[e];rfl) (λcdv A outer s H E hr=>?_);have hu:(A.deeper (envOfC "_law_whole" (zac zdM) s.heap.objs.size f cdv)).units+16<cLine:=by have q:=hr.units;lia
 have nd:=zmW.nd;refine⟨_,(zah (zaD (zro (zjx (K:=K) rfl rfl B.isi (zaa (zab 0) (zaa (znt rfl B.int bInt) zad))) (zrn (zrm (zjx (K:=K) rfl rfl B.isi (zaa (zab 0) (zaa (znt rfl B.bool zsW) zad)))))))),λds Q h=>?_⟩;obtain⟨c,rfl,q⟩:=h;walk_at "pu";refine⟨true,zgm,?_⟩;rw[if_pos rfl];exact⟨false,zhq,q⟩
theorem zsv:zaC ["_law_script","_law_cells","_law_total","_law_shape_here","_law_rows_here","_law_due_here","_law_found","_law_answer"] ["_law_script"] (zac sLaw):=⟨rfl,rfl,rfl,by decide +kernel,rfl,by decide +kernel,by decide +kernel⟩
theorem zsw {f f1 f2 f3 f4 f5:Addr}{fd fd1 fd2 fd3 fd4 fd5:FuncData}(F:Fun K "law" "law" sLaw f fd) (Whole:Fx K mg "_law_whole" zdM ["_law_found"] f1 fd1) (Shape:Fx K mg "_law_shape" zdN ["_law_cell"] f2 fd2) (GShape:FnOk P w K mg base CX0 5 f2 fd2 ["_law_cell"] (spP K zib)) (Rows:Fx K mg "_law_rows" zeo ["_law_shape_here","_law_cells","_law_total"] f3 fd3) (GRows:FnOk P w K mg base CX0 5 f3 fd3 ["_law_shape_here","_law_cells","_law_total"] (spP K zmQ))
  (Due:Fx K mg "_law_due" sDue ["_law_shape_here","_law_rows_here","_law_total"] f4 fd4) (GDue:FnOk P w K mg base CX0 5 f4 fd4 ["_law_shape_here","_law_rows_here","_law_total"] (spP K fDue)) (Answers:Fx K mg "answers" zbp ["shape","rows"] f5 fd5) (GAnswers:FnOk P w K mg base CX0 5 f5 fd5 ["shape","rows"] (spP K zdR)) (B:Bl mg):FnOk P w K mg base CX0 6 f fd ["_law_script"] (spP K fLaw):=by
 have GWhole:FnOk P w K mg base CX0 5 f1 fd1 ["_law_found"] (spP K zkl):=(zoq Whole.fn B).mono (by decide);refine zaL F zsv (λds Q ⟨c,e,_⟩=>by rw[e];rfl) (λcdv A outer s H E hr=>?_);have hu:(A.deeper (envOfC "law" (zac sLaw) s.heap.objs.size f cdv)).units+16<cLine:=by have q:=hr.units;lia
 have nd:=zsv.nd;refine⟨_,(zae (zam (i:=1) nd rfl (Or.inl rfl) (zjA (zab 0) zjy (zjz zaj)))
   (zae (zam (i:=2) nd rfl (Or.inl rfl) (zrQ rfl rfl B.sum (zaa (zab 1) zad)))
   (zae (zam (i:=3) nd rfl (Or.inl rfl) (zan GShape zfU hr rfl Shape.mg Shape.fn.kp Shape.bd (zaa (zab 2) zad)))
   (zae (zbd 3 (zbd 1 (zam (i:=4) nd rfl (Or.inl rfl) (zan GRows zii hr rfl Rows.mg Rows.fn.kp Rows.bd (zaa (zab 3) (zaa (zab 1) (zaa (zab 2) zad)))))))
   (zae (zbd 4 (zam (i:=5) nd rfl (Or.inl rfl) (zan GDue zoi hr rfl Due.mg Due.fn.kp Due.bd (zaa (zab 3) (zaa (zab 4) (zaa (zab 2) zad))))))
   (zae (zam (i:=6) nd rfl (Or.inl rfl) (zan GAnswers zeF hr rfl Answers.mg Answers.fn.kp Answers.bd (zaa (zab 3) (zaa (zab 4) zad))))
   (zae (zfI (PuW.t (zlC (zgi (zdW (zjx (K:=K) rfl rfl B.isi (zaa (zab 6) (zaa (znt rfl B.list zry) zad))))) (ziC (zho hu (zab 6) (zab 5))))) (zah (zaD ziA)) zcM)
   (zae (znU rfl PassesOwn.never (zaw (zab 6)) (zai (i:=7) nd rfl (Or.inl rfl)) (PuW.t (zlC (zgi (zdW (zjx (K:=K) rfl rfl B.isi (zaa (zab 7) (zaa (znt rfl B.tuple zoz) zad))))) (ziC (zho hu (zaR (N:=["_law_cell"]) (k:=1) (js:=[]) rfl (zcD (sup:=zac sLaw) (XN:=["_law_script","_law_cells","_law_total","_law_shape_here","_law_rows_here","_law_due_here","_law_found","_law_answer"]) rfl rfl (by decide +kernel)) (by decide) (zaP (by decide)) (zff (zab 7)) ⟨λ_ _ _ _ _=>(zai (i:=0) (by show(["_law_cell"]:List Str).Nodup;decide +kernel) rfl (Or.inl rfl)),λ_ _ _ _ _=>(zcN (zgi (zdW (zan GWhole zkL hr rfl Whole.mg Whole.fn.kp Whole.bd (zaa (zab 0) zad))))),λ_ _ _ _ _=>(zab 0)⟩) (zbE zad))))) (zah (zaD ziA)))
   (zae (zbw (zcl 6 zrg))
   (zae (zfI (PuW.t (zlC (zho hu (zab 3) (zan GShape zfU hr rfl Shape.mg Shape.fn.kp Shape.bd (zaa (zab 2) zad))) (ziC (zho hu (zab 4) (zan GRows zii hr rfl Rows.mg Rows.fn.kp Rows.bd (zaa (zab 3) (zaa (zab 1) (zaa (zab 2) zad)))))))) (zah (zaD ziA)) zcM)
   (zah (zaD (zsV hu (zan GAnswers zeF hr rfl Answers.mg Answers.fn.kp Answers.bd (zaa (zab 3) (zaa (zab 4) zad))) (zab 5)))))))))))))),λds Q h=>?_⟩
 obtain⟨ns,rfl,h63,q⟩:=h;walk_at "pu";have hcut:∃ms:List Int,cutP (ns.map PV.int) none (some 59)=ms.map PV.int/\ms.length<=63:=by
  refine⟨ns.take 59,by rw[show(59:Int)=((59:Nat):Int) from rfl,zhX,List.map_take],by rw[List.length_take];lia⟩
 obtain⟨ms,hcut,hms⟩:=hcut;rw[hcut];walk_at "go";refine⟨ms,rfl,?_⟩;generalize hT:ms.sum=total;walk_at "go";have sok:=zes total;walk_at "go";refine⟨shpS total,rfl,ms,rfl,sok,hms,?_⟩;walk_at "go";refine⟨zbi total ms,(zgJ total ms).symm,(zgK total ms).symm,zst hms,λnames nums hn hp hm=>?_⟩;have aok:=zsu hms hn hp hm;walk_at "go";refine⟨zbi total ms,(zgJ total ms).symm,(zgK total ms).symm,names,nums,aok,?_⟩;walk_at "go";refine⟨true,zgm,?_⟩;rw[if_neg (by decide)];refine⟨zcy 3 _,zcy 3 _,?_⟩;have hdl:(dueI (zbi total ms) names nums).length<=729:=zqh aok.six aok.three.2;walk_at "go";walk_at "go";have fin:∀k7:Option (PV×Bool),Hold
    (pSeq (zbF (mApp 6 (pC PV.non)))
     (pSeq
      (pIf
       (tOrP (tBl (t2 (pEq true) (pVar 3) (zbc zib (zbm (pVar 2) pNil))))
        (tBl (t2 (pEq true) (pVar 4) (zbc zmQ (zbm (pVar 3) (zbm (pVar 1) (zbm (pVar 2) pNil)))))))
       (pRet (pC (PV.bl false))) zda)
      (pRet (t2 (pEq false) (zbc zdR (zbm (pVar 3) (zbm (pVar 4) pNil))) (pVar 5)))))
    {nx:=λx=>Q PV.non Kd.frz,rt:=Q,bk:=λx=>False,ct:=λx=>False }
    [some (PV.lst (List.map PV.int ns),false),some (PV.lst (List.map PV.int ms),false),
     some (PV.int total,false),some (shpV (shpS total),false),
     some (PV.lst (List.map tblP (rwsS (shpS total) ms total)),false),
     some (PV.lst (List.map rowI (dueI (zbi total ms) names nums)),true),
     some (PV.lst (List.map rowI (dueI (zbi total ms) names nums)),true),k7]:=by
  intro k7;walk_at "go";refine⟨by rw[List.length_map,sizeLine_eq];lia,?_⟩;walk_at "go";refine⟨zil 3 _,zil 3 _,shpS total,rfl,ms,rfl,sok,hms,zfX 2 _,zfX 2 _,?_⟩;rw[if_neg (λz=>z rfl)];walk_at "go";walk_at "go";refine⟨zbi total ms,(zgJ total ms).symm,(zgK total ms).symm,names,nums,aok,zcy 3 _,zcy 3 _,?_⟩;rw[decide_eq_true rfl];exact q
 refine⟨λi d hd=>?_,fin _,λd hd=>fin _⟩;rw[List.getElem?_map]at hd;cases hr2:(dueI (zbi total ms) names nums)[i]? with
 | none=>rw[hr2]at hd;cases hd
 | some r=>
  rw[hr2]at hd;cases hd;walk_at "go";refine⟨λn z=>(by unfold rowI at z;exact PV.noConfusion z),true,zgm,?_⟩;rw[if_neg (by decide)];have hrm:=List.mem_of_getElem? hr2;have hrl:r.length=names.length:=by
   unfold dueI at hrm;exact(zby.mp (List.mem_filter.mp hrm).1).1
  have hsix:=aok.six;refine⟨r.map PV.int,rfl,by rw[List.length_map,sizeLine_eq];lia,λ_ out=>out=[],rfl,λk d out hk _ ho=>?_,λout _ ho=>?_⟩
  ·rw[List.getElem?_map]at hk;cases hx:r[k]? with
   | none=>rw[hx]at hk;cases hk
   | some x=>rw[hx]at hk;cases hk;exact⟨⟨x,rfl⟩,ho⟩
  ·have ho:out=[]:=ho;subst ho;exact⟨Nat.zero_le _,rfl,rfl⟩
end
theorem zor:∀ns:List Int,ns.length<=63->fLaw [.lst (ns.map PV.int)] λd k=>d=.bl true:=λns h=>⟨ns,rfl,h,rfl⟩
theorem len1 {us:List Value}{s0:Str}(h:us.length=[s0].length):∃a0,us=[a0]:=by match us,h with | [a0],_=>exact⟨a0,rfl⟩
theorem len2 {us:List Value}{s0 s1:Str}(h:us.length=[s0,s1].length):∃a0 a1,us=[a0,a1]:=by match us,h with | [a0,a1],_=>exact⟨a0,a1,rfl⟩
theorem len3 {us:List Value}{s0 s1 s2:Str}(h:us.length=[s0,s1,s2].length):∃a0 a1 a2,us=[a0,a1,a2]:=by match us,h with | [a0,a1,a2],_=>exact⟨a0,a1,a2,rfl⟩
theorem len4 {us:List Value}{s0 s1 s2 s3:Str}(h:us.length=[s0,s1,s2,s3].length):∃a0 a1 a2 a3,us=[a0,a1,a2,a3]:=by match us,h with | [a0,a1,a2,a3],_=>exact⟨a0,a1,a2,a3,rfl⟩
theorem all_mk {l:PySem.W.OpenLaw}{w:World}{K:PySem.W.Frag}{h:Heap}{mg:Str->Option Value}{fa f0 f1 f2 f3 f4 f5 f6 f7 f8 f9 f10 f11 f12 f13 f14 f15 f16:Addr}(X:K.In h)(G:h.Ns mainGlobals mg)(hfa:mg "law" = some (.ref fa))
  {od0 an0 od1 an1 od2 an2 od3 an3 od4 an4 od5 an5 od6 an6 od7 an7 od8 an8 od9 an9 od10 an10 od11 an11 od12 an12 od13 an13 od14 an14 od15 an15 od16 an16:Option Addr} {sl0 sl1 sl2 sl3 sl4 sl5 sl6 sl7 sl8 sl9 sl10 sl11 sl12 sl13 sl14 sl15 sl16:Array (Option Value)} {oc0 kV0 dc0 pm0 cd0 ct0 oc1 kV1 dc1 pm1 cd1 ct1 oc2 kV2 dc2 pm2 cd2 ct2 oc3 kV3 dc3 pm3 cd3 ct3 oc4 kV4 dc4 pm4 cd4 ct4 oc5 kV5 dc5 pm5 cd5 ct5 oc6 kV6 dc6 pm6 cd6 ct6 oc7 kV7 dc7 pm7 cd7 ct7 oc8 kV8 dc8 pm8 cd8 ct8 oc9 kV9 dc9 pm9 cd9 ct9 oc10 kV10 dc10 pm10 cd10 ct10 oc11 kV11 dc11 pm11 cd11 ct11 oc12 kV12 dc12 pm12 cd12 ct12 oc13 kV13 dc13 pm13 cd13 ct13 oc14 kV14 dc14 pm14 cd14 ct14 oc15 kV15 dc15 pm15 cd15 ct15 oc16 kV16 dc16 pm16 cd16 ct16:Value}
  (a0:PySem.W.nsIn K mainGlobals "cells_of" = some (some (.ref f0))) (l0:K.lookup f0=some ⟨oc0,od0,.func (PySem.W.fnOf "cells_of" "cells_of" (zaz zaK) (zas zaK) (zac zaK) .none kV0 dc0 pm0 an0 cd0 ct0),sl0⟩) (c0:PySem.W.codeIn K cd0 "cells_of" = true) (k0:PySem.W.keepIn K (.ref f0)=true)
  (a1:PySem.W.nsIn K mainGlobals "guide_of" = some (some (.ref f1))) (l1:K.lookup f1=some ⟨oc1,od1,.func (PySem.W.fnOf "guide_of" "guide_of" (zaz zaU) (zas zaU) (zac zaU) .none kV1 dc1 pm1 an1 cd1 ct1),sl1⟩) (c1:PySem.W.codeIn K cd1 "guide_of" = true) (k1:PySem.W.keepIn K (.ref f1)=true)
  (a2:PySem.W.nsIn K mainGlobals "longer" = some (some (.ref f2))) (l2:K.lookup f2=some ⟨oc2,od2,.func (PySem.W.fnOf "longer" "longer" (zaz zbB) (zas zbB) (zac zbB) .none kV2 dc2 pm2 an2 cd2 ct2),sl2⟩) (c2:PySem.W.codeIn K cd2 "longer" = true) (k2:PySem.W.keepIn K (.ref f2)=true)
  (a3:PySem.W.nsIn K mainGlobals "guides_to" = some (some (.ref f3))) (l3:K.lookup f3=some ⟨oc3,od3,.func (PySem.W.fnOf "guides_to" "guides_to" (zaz zaM) (zas zaM) (zac zaM) .none kV3 dc3 pm3 an3 cd3 ct3),sl3⟩) (c3:PySem.W.codeIn K cd3 "guides_to" = true) (k3:PySem.W.keepIn K (.ref f3)=true)
  (a4:PySem.W.nsIn K mainGlobals "parts_along" = some (some (.ref f4))) (l4:K.lookup f4=some ⟨oc4,od4,.func (PySem.W.fnOf "parts_along" "parts_along" (zaz zaG) (zas zaG) (zac zaG) .none kV4 dc4 pm4 an4 cd4 ct4),sl4⟩) (c4:PySem.W.codeIn K cd4 "parts_along" = true) (k4:PySem.W.keepIn K (.ref f4)=true)
  (a5:PySem.W.nsIn K mainGlobals "letters_of" = some (some (.ref f5))) (l5:K.lookup f5=some ⟨oc5,od5,.func (PySem.W.fnOf "letters_of" "letters_of" (zaz zaH) (zas zaH) (zac zaH) .none kV5 dc5 pm5 an5 cd5 ct5),sl5⟩) (c5:PySem.W.codeIn K cd5 "letters_of" = true) (k5:PySem.W.keepIn K (.ref f5)=true)
  (a6:PySem.W.nsIn K mainGlobals "patterns_with" = some (some (.ref f6))) (l6:K.lookup f6=some ⟨oc6,od6,.func (PySem.W.fnOf "patterns_with" "patterns_with" (zaz zao) (zas zao) (zac zao) .none kV6 dc6 pm6 an6 cd6 ct6),sl6⟩) (c6:PySem.W.codeIn K cd6 "patterns_with" = true) (k6:PySem.W.keepIn K (.ref f6)=true)
  (a7:PySem.W.nsIn K mainGlobals "shared_first" = some (some (.ref f7))) (l7:K.lookup f7=some ⟨oc7,od7,.func (PySem.W.fnOf "shared_first" "shared_first" (zaz zaq) (zas zaq) (zac zaq) .none kV7 dc7 pm7 an7 cd7 ct7),sl7⟩) (c7:PySem.W.codeIn K cd7 "shared_first" = true) (k7:PySem.W.keepIn K (.ref f7)=true)
  (a8:PySem.W.nsIn K mainGlobals "answers" = some (some (.ref f8))) (l8:K.lookup f8=some ⟨oc8,od8,.func (PySem.W.fnOf "answers" "answers" (zaz zbp) (zas zbp) (zac zbp) .none kV8 dc8 pm8 an8 cd8 ct8),sl8⟩) (c8:PySem.W.codeIn K cd8 "answers" = true) (k8:PySem.W.keepIn K (.ref f8)=true)
  (a9:PySem.W.nsIn K mainGlobals "_law_whole" = some (some (.ref f9))) (l9:K.lookup f9=some ⟨oc9,od9,.func (PySem.W.fnOf "_law_whole" "_law_whole" (zaz zdM) (zas zdM) (zac zdM) .none kV9 dc9 pm9 an9 cd9 ct9),sl9⟩) (c9:PySem.W.codeIn K cd9 "_law_whole" = true) (k9:PySem.W.keepIn K (.ref f9)=true)
  (a10:PySem.W.nsIn K mainGlobals "_law_mix" = some (some (.ref f10))) (l10:K.lookup f10=some ⟨oc10,od10,.func (PySem.W.fnOf "_law_mix" "_law_mix" (zaz sMix) (zas sMix) (zac sMix) .none kV10 dc10 pm10 an10 cd10 ct10),sl10⟩) (c10:PySem.W.codeIn K cd10 "_law_mix" = true) (k10:PySem.W.keepIn K (.ref f10)=true)
  (a11:PySem.W.nsIn K mainGlobals "_law_letters" = some (some (.ref f11))) (l11:K.lookup f11=some ⟨oc11,od11,.func (PySem.W.fnOf "_law_letters" "_law_letters" (zaz zbq) (zas zbq) (zac zbq) .none kV11 dc11 pm11 an11 cd11 ct11),sl11⟩) (c11:PySem.W.codeIn K cd11 "_law_letters" = true) (k11:PySem.W.keepIn K (.ref f11)=true)
  (a12:PySem.W.nsIn K mainGlobals "_law_shape" = some (some (.ref f12))) (l12:K.lookup f12=some ⟨oc12,od12,.func (PySem.W.fnOf "_law_shape" "_law_shape" (zaz zdN) (zas zdN) (zac zdN) .none kV12 dc12 pm12 an12 cd12 ct12),sl12⟩) (c12:PySem.W.codeIn K cd12 "_law_shape" = true) (k12:PySem.W.keepIn K (.ref f12)=true)
  (a13:PySem.W.nsIn K mainGlobals "_law_numbers" = some (some (.ref f13))) (l13:K.lookup f13=some ⟨oc13,od13,.func (PySem.W.fnOf "_law_numbers" "_law_numbers" (zaz zbr) (zas zbr) (zac zbr) .none kV13 dc13 pm13 an13 cd13 ct13),sl13⟩) (c13:PySem.W.codeIn K cd13 "_law_numbers" = true) (k13:PySem.W.keepIn K (.ref f13)=true)
  (a14:PySem.W.nsIn K mainGlobals "_law_rows" = some (some (.ref f14))) (l14:K.lookup f14=some ⟨oc14,od14,.func (PySem.W.fnOf "_law_rows" "_law_rows" (zaz zeo) (zas zeo) (zac zeo) .none kV14 dc14 pm14 an14 cd14 ct14),sl14⟩) (c14:PySem.W.codeIn K cd14 "_law_rows" = true) (k14:PySem.W.keepIn K (.ref f14)=true)
  (a15:PySem.W.nsIn K mainGlobals "_law_due" = some (some (.ref f15))) (l15:K.lookup f15=some ⟨oc15,od15,.func (PySem.W.fnOf "_law_due" "_law_due" (zaz sDue) (zas sDue) (zac sDue) .none kV15 dc15 pm15 an15 cd15 ct15),sl15⟩) (c15:PySem.W.codeIn K cd15 "_law_due" = true) (k15:PySem.W.keepIn K (.ref f15)=true)
  (a16:PySem.W.nsIn K mainGlobals "law" = some (some (.ref f16))) (l16:K.lookup f16=some ⟨oc16,od16,.func (PySem.W.fnOf "law" "law" (zaz sLaw) (zas sLaw) (zac sLaw) .none kV16 dc16 pm16 an16 cd16 ct16),sl16⟩) (c16:PySem.W.codeIn K cd16 "law" = true) (k16:PySem.W.keepIn K (.ref f16)=true)
  (z0:PySem.W.nsIn K mainGlobals "range" = some none)
  (z1:PySem.W.nsIn K mainGlobals "len" = some none)
  (z2:PySem.W.nsIn K mainGlobals "list" = some none)
  (z3:PySem.W.nsIn K mainGlobals "tuple" = some none)
  (z4:PySem.W.nsIn K mainGlobals "sorted" = some none)
  (z5:PySem.W.nsIn K mainGlobals "set" = some none)
  (z6:PySem.W.nsIn K mainGlobals "isinstance" = some none)
  (z7:PySem.W.nsIn K mainGlobals "str" = some none)
  (z8:PySem.W.nsIn K mainGlobals "int" = some none)
  (z9:PySem.W.nsIn K mainGlobals "bool" = some none)
  (z10:PySem.W.nsIn K mainGlobals "dict" = some none)
  (z11:PySem.W.nsIn K mainGlobals "enumerate" = some none)
  (z12:PySem.W.nsIn K mainGlobals "zip" = some none)
  (z13:PySem.W.nsIn K mainGlobals "min" = some none)
  (z14:PySem.W.nsIn K mainGlobals "max" = some none)
  (z15:PySem.W.nsIn K mainGlobals "sum" = some none)
  (z16:PySem.W.nsIn K mainGlobals "all" = some none)
  (z17:PySem.W.nsIn K mainGlobals "any" = some none)
  (z18:PySem.W.nsIn K mainGlobals "reversed" = some none)
  (z19:PySem.W.nsIn K mainGlobals "abs" = some none)
  (z20:PySem.W.nsIn K mainGlobals "ord" = some none) :
  ∃fd:FuncData,(∀(s:Shared) (v:Value),BindsTo s fd ⟨[v],[]⟩ [("_law_script",v)])/\∀base:Heap,K.In base->base.Ns mainGlobals mg->FnOk l.prog w K mg base CX0 6 fa fd ["_law_script"] (spP K fLaw):=by
 have e:=hfa.symm.trans (PySem.W.mg_of X G a16);cases e;have F0:=zbt (st:=zaK) l0 c0 k0;have X0:Fx K mg "cells_of" zaK ["row","letters","wanted"] f0 _:=⟨F0,F0.binds (ps:=["row","letters","wanted"]) λ_ _ _ _ _ _ us hl=>by obtain⟨_,_,_,rfl⟩:=len3 hl;rfl,PySem.W.mg_of X G a0⟩;have F1:=zbt (st:=zaU) l1 c1 k1;have X1:Fx K mg "guide_of" zaU ["letters","rows","earlier","letter"] f1 _:=⟨F1,F1.binds (ps:=["letters","rows","earlier","letter"]) λ_ _ _ _ _ _ us hl=>by obtain⟨_,_,_,_,rfl⟩:=len4 hl;rfl,PySem.W.mg_of X G a1⟩;have F2:=zbt (st:=zbB) l2 c2 k2;have X2:Fx K mg "longer" zbB ["parts","earlier","guides"] f2 _:=⟨F2,F2.binds (ps:=["parts","earlier","guides"]) λ_ _ _ _ _ _ us hl=>by obtain⟨_,_,_,rfl⟩:=len3 hl;rfl,PySem.W.mg_of X G a2⟩;have F3:=zbt (st:=zaM) l3 c3 k3;have X3:Fx K mg "guides_to" zaM ["shape","rows","earlier","letter"] f3 _:=⟨F3,F3.binds (ps:=["shape","rows","earlier","letter"]) λ_ _ _ _ _ _ us hl=>by obtain⟨_,_,_,_,rfl⟩:=len4 hl;rfl,PySem.W.mg_of X G a3⟩;have F4:=zbt (st:=zaG) l4 c4 k4;have X4:Fx K mg "parts_along" zaG ["shape","rows","order"] f4 _:=⟨F4,F4.binds (ps:=["shape","rows","order"]) λ_ _ _ _ _ _ us hl=>by obtain⟨_,_,_,rfl⟩:=len3 hl;rfl,PySem.W.mg_of X G a4⟩;have F5:=zbt (st:=zaH) l5 c5 k5;have X5:Fx K mg "letters_of" zaH ["shape"] f5 _:=⟨F5,F5.binds (ps:=["shape"]) λ_ _ _ _ _ _ us hl=>by obtain⟨_,rfl⟩:=len1 hl;rfl,PySem.W.mg_of X G a5⟩;have F6:=zbt (st:=zao) l6 c6 k6;have X6:Fx K mg "patterns_with" zao ["shape","letter"] f6 _:=⟨F6,F6.binds (ps:=["shape","letter"]) λ_ _ _ _ _ _ us hl=>by obtain⟨_,_,rfl⟩:=len2 hl;rfl,PySem.W.mg_of X G a6⟩;have F7:=zbt (st:=zaq) l7 c7 k7;have X7:Fx K mg "shared_first" zaq ["shape"] f7 _:=⟨F7,F7.binds (ps:=["shape"]) λ_ _ _ _ _ _ us hl=>by obtain⟨_,rfl⟩:=len1 hl;rfl,PySem.W.mg_of X G a7⟩;have F8:=zbt (st:=zbp) l8 c8 k8;have X8:Fx K mg "answers" zbp ["shape","rows"] f8 _:=⟨F8,F8.binds (ps:=["shape","rows"]) λ_ _ _ _ _ _ us hl=>by obtain⟨_,_,rfl⟩:=len2 hl;rfl,PySem.W.mg_of X G a8⟩;have F9:=zbt (st:=zdM) l9 c9 k9;have X9:Fx K mg "_law_whole" zdM ["_law_found"] f9 _:=⟨F9,F9.binds (ps:=["_law_found"]) λ_ _ _ _ _ _ us hl=>by obtain⟨_,rfl⟩:=len1 hl;rfl,PySem.W.mg_of X G a9⟩;have F10:=zbt (st:=sMix) l10 c10 k10;have X10:Fx K mg "_law_mix" sMix ["_law_cell","_law_j"] f10 _:=⟨F10,F10.binds (ps:=["_law_cell","_law_j"]) λ_ _ _ _ _ _ us hl=>by obtain⟨_,_,rfl⟩:=len2 hl;rfl,PySem.W.mg_of X G a10⟩;have F11:=zbt (st:=zbq) l11 c11 k11;have X11:Fx K mg "_law_letters" zbq ["_law_cell"] f11 _:=⟨F11,F11.binds (ps:=["_law_cell"]) λ_ _ _ _ _ _ us hl=>by obtain⟨_,rfl⟩:=len1 hl;rfl,PySem.W.mg_of X G a11⟩;have F12:=zbt (st:=zdN) l12 c12 k12;have X12:Fx K mg "_law_shape" zdN ["_law_cell"] f12 _:=⟨F12,F12.binds (ps:=["_law_cell"]) λ_ _ _ _ _ _ us hl=>by obtain⟨_,rfl⟩:=len1 hl;rfl,PySem.W.mg_of X G a12⟩;have F13:=zbt (st:=zbr) l13 c13 k13;have X13:Fx K mg "_law_numbers" zbr ["_law_cell"] f13 _:=⟨F13,F13.binds (ps:=["_law_cell"]) λ_ _ _ _ _ _ us hl=>by obtain⟨_,rfl⟩:=len1 hl;rfl,PySem.W.mg_of X G a13⟩;have F14:=zbt (st:=zeo) l14 c14 k14;have X14:Fx K mg "_law_rows" zeo ["_law_shape_here","_law_cells","_law_total"] f14 _:=⟨F14,F14.binds (ps:=["_law_shape_here","_law_cells","_law_total"]) λ_ _ _ _ _ _ us hl=>by obtain⟨_,_,_,rfl⟩:=len3 hl;rfl,PySem.W.mg_of X G a14⟩;have F15:=zbt (st:=sDue) l15 c15 k15;have X15:Fx K mg "_law_due" sDue ["_law_shape_here","_law_rows_here","_law_total"] f15 _:=⟨F15,F15.binds (ps:=["_law_shape_here","_law_rows_here","_law_total"]) λ_ _ _ _ _ _ us hl=>by obtain⟨_,_,_,rfl⟩:=len3 hl;rfl,PySem.W.mg_of X G a15⟩;have F16:=zbt (st:=sLaw) l16 c16 k16;have B:Bl mg:=⟨PySem.W.mg_none_of X G z0,PySem.W.mg_none_of X G z1,PySem.W.mg_none_of X G z2,PySem.W.mg_none_of X G z3,PySem.W.mg_none_of X G z4,PySem.W.mg_none_of X G z5,PySem.W.mg_none_of X G z6,PySem.W.mg_none_of X G z7,PySem.W.mg_none_of X G z8,PySem.W.mg_none_of X G z9,PySem.W.mg_none_of X G z10,PySem.W.mg_none_of X G z11,PySem.W.mg_none_of X G z12,PySem.W.mg_none_of X G z13,PySem.W.mg_none_of X G z14,PySem.W.mg_none_of X G z15,PySem.W.mg_none_of X G z16,PySem.W.mg_none_of X G z17,PySem.W.mg_none_of X G z18,PySem.W.mg_none_of X G z19,PySem.W.mg_none_of X G z20⟩;exact⟨PySem.W.fnOf "law" "law" (zaz sLaw) (zas sLaw) (zac sLaw) .none kV16 dc16 pm16 an16 cd16 ct16,λs v=>.of_eq rfl,λbase _ _=>zsw F16 X9 X12 ((zoe X12.fn X10 X11 B).mono (by decide)) X14 ((zqa X14.fn X10 X13 B).mono (by decide)) X15 ((zss X15.fn X10 X13 B).mono (by decide)) X8 (zkK X8.fn X0 X1 X2 X3 X4 X5 X6 X7 B) B⟩
end Q03
open PySem PySem.W
set_option maxRecDepth 100000 in
set_option maxHeartbeats 0 in
theorem PySem.Challenge.cw_joinwood_k03_answers_holds : PySem.Challenge.rw_joinwood_k03_answers.Holds := by
 w_on;o_law;k_head;(case hw=>w_witness2)
 k_fill
 refine PL.zsY (l:=PySem.Challenge.rw_joinwood_k03_answers) (k:=6) (FL:=Q03.fLaw) (x:="_law_script") rfl rfl ⟨rfl,by decide,by decide⟩ Q03.zon (fun w h Y=>PySem.W.kIn_of Y) ?F Q03.zor
 case F=>
  intro w mg fa h KX G hmg
  refine' Q03.all_mk KX G hmg ?a0 ?l0 ?c0 ?k0 ?a1 ?l1 ?c1 ?k1 ?a2 ?l2 ?c2 ?k2 ?a3 ?l3 ?c3 ?k3 ?a4 ?l4 ?c4 ?k4 ?a5 ?l5 ?c5 ?k5 ?a6 ?l6 ?c6 ?k6 ?a7 ?l7 ?c7 ?k7 ?a8 ?l8 ?c8 ?k8 ?a9 ?l9 ?c9 ?k9 ?a10 ?l10 ?c10 ?k10 ?a11 ?l11 ?c11 ?k11 ?a12 ?l12 ?c12 ?k12 ?a13 ?l13 ?c13 ?k13 ?a14 ?l14 ?c14 ?k14 ?a15 ?l15 ?c15 ?k15 ?a16 ?l16 ?c16 ?k16 ?z0 ?z1 ?z2 ?z3 ?z4 ?z5 ?z6 ?z7 ?z8 ?z9 ?z10 ?z11 ?z12 ?z13 ?z14 ?z15 ?z16 ?z17 ?z18 ?z19 ?z20
  (case a0=>k_is)
  (case l0=>k_is)
  (case c0=>k_is)
  (case k0=>k_is)
  (case a1=>k_is)
  (case l1=>k_is)
  (case c1=>k_is)
  (case k1=>k_is)
  (case a2=>k_is)
  (case l2=>k_is)
  (case c2=>k_is)
  (case k2=>k_is)
  (case a3=>k_is)
  (case l3=>k_is)
  (case c3=>k_is)
  (case k3=>k_is)
  (case a4=>k_is)
  (case l4=>k_is)
  (case c4=>k_is)
  (case k4=>k_is)
  (case a5=>k_is)
  (case l5=>k_is)
  (case c5=>k_is)
  (case k5=>k_is)
  (case a6=>k_is)
  (case l6=>k_is)
  (case c6=>k_is)
  (case k6=>k_is)
  (case a7=>k_is)
  (case l7=>k_is)
  (case c7=>k_is)
  (case k7=>k_is)
  (case a8=>k_is)
  (case l8=>k_is)
  (case c8=>k_is)
  (case k8=>k_is)
  (case a9=>k_is)
  (case l9=>k_is)
  (case c9=>k_is)
  (case k9=>k_is)
  (case a10=>k_is)
  (case l10=>k_is)
  (case c10=>k_is)
  (case k10=>k_is)
  (case a11=>k_is)
  (case l11=>k_is)
  (case c11=>k_is)
  (case k11=>k_is)
  (case a12=>k_is)
  (case l12=>k_is)
  (case c12=>k_is)
  (case k12=>k_is)
  (case a13=>k_is)
  (case l13=>k_is)
  (case c13=>k_is)
  (case k13=>k_is)
  (case a14=>k_is)
  (case l14=>k_is)
  (case c14=>k_is)
  (case k14=>k_is)
  (case a15=>k_is)
  (case l15=>k_is)
  (case c15=>k_is)
  (case k15=>k_is)
  (case a16=>k_is)
  (case l16=>k_is)
  (case c16=>k_is)
  (case k16=>k_is)
  (case z0=>k_is)
  (case z1=>k_is)
  (case z2=>k_is)
  (case z3=>k_is)
  (case z4=>k_is)
  (case z5=>k_is)
  (case z6=>k_is)
  (case z7=>k_is)
  (case z8=>k_is)
  (case z9=>k_is)
  (case z10=>k_is)
  (case z11=>k_is)
  (case z12=>k_is)
  (case z13=>k_is)
  (case z14=>k_is)
  (case z15=>k_is)
  (case z16=>k_is)
  (case z17=>k_is)
  (case z18=>k_is)
  (case z19=>k_is)
  (case z20=>k_is)
#print axioms PySem.Challenge.cw_joinwood_k03_answers_holds
