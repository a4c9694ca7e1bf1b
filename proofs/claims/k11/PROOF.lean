import PyProof.Rows.All
import Wide.All
import OpenK.AllK
import Wide.FinOn
import Lean
import PyProof.EqAt
import PyProof.EqKinds
import PyProof.TupleCall
import PyProof.NeKinds
import PyProof.AttrMissHeap
import PyProof.EnumMake
import PyProof.DictUpdate
import KE.KDictOf
import KE.KDictList
import PyProof.MaxThree
import PyProof.ListStr
import PyProof.ConsumeWalk
import PyProof.SliceStr2
import PyProof.StrBlockI
import PySem.Challenge.RW_joinwood_k11_tree_or_core
set_option Elab.async false
set_option linter.all false
set_option maxRecDepth 100000
namespace L2
open PySem PySem.Spec PyProof.Rows
abbrev Key := Sum Int Str
def keyIs : Key → Value → Bool
  | .inl k, v => Value.isInt k v
  | .inr x, v => Value.isStrOf x v
def keyH (w : World) : Key → Int
  | .inl k => hashInt k
  | .inr x => hashStr w x
theorem keyIs_shape : ∀ {k : Key} {v : Value}, keyIs k v = true → (∃ i t, k = Sum.inl i ∧ v = Value.int i t) ∨ (∃ x t, k = Sum.inr x ∧ v = Value.str x t)
  | .inl i, v, h => by
    obtain ⟨t, e⟩ := Value.isInt_shape (k := i) (v := v) h
    exact .inl ⟨i, t, rfl, e⟩
  | .inr x, v, h => by
    obtain ⟨t, e⟩ := Value.isStrOf_shape (x := x) (v := v) h
    exact .inr ⟨x, t, rfl, e⟩
theorem keyIs_int (i : Int) (t : Tok) : keyIs (.inl i) (.int i t) = true := by simp [keyIs, Value.isInt]
theorem keyIs_str (x : Str) (t : Tok) : keyIs (.inr x) (.str x t) = true := by simp [keyIs, Value.isStrOf]
theorem key_ll (a b : Int) : decide ((Sum.inl a : Key) = Sum.inl b) = (a == b) := by
  by_cases e : a = b
  · subst e; simp
  · have h : ¬ (Sum.inl a : Key) = Sum.inl b := fun q => e (Sum.inl.inj q)
    rw [decide_eq_false h]
    exact (beq_eq_false_iff_ne.mpr e).symm
theorem key_rr (a b : Str) : decide ((Sum.inr a : Key) = Sum.inr b) = decide (a = b) := by
  by_cases e : a = b
  · subst e; simp
  · have h : ¬ (Sum.inr a : Key) = Sum.inr b := fun q => e (Sum.inr.inj q)
    rw [decide_eq_false h, decide_eq_false e]
theorem key_lr (a : Int) (b : Str) : decide ((Sum.inl a : Key) = Sum.inr b) = false := decide_eq_false (fun q => nomatch q)
theorem key_rl (a : Str) (b : Int) : decide ((Sum.inr a : Key) = Sum.inl b) = false := decide_eq_false (fun q => nomatch q)
def mixKind (prog : Program) (w : World) : PySem.KeyKind prog w Key where
  is := keyIs
  hash := keyH w
  inj := fun v a b ha hb => by
    rcases keyIs_shape ha with ⟨i, t, rfl, rfl⟩ | ⟨x, t, rfl, rfl⟩
    · rcases keyIs_shape hb with ⟨j, u, rfl, e⟩ | ⟨y, u, rfl, e⟩
      · injection e with e1 _; rw [e1]
      · exact nomatch e
    · rcases keyIs_shape hb with ⟨j, u, rfl, e⟩ | ⟨y, u, rfl, e⟩
      · exact nomatch e
      · injection e with e1 _; rw [e1]
  byValue := fun k v h => by
    rcases keyIs_shape h with ⟨i, t, rfl, rfl⟩ | ⟨x, t, rfl, rfl⟩ <;> rfl
  pyHash := fun hv h => by
    rcases keyIs_shape hv with ⟨i, t, rfl, rfl⟩ | ⟨x, t, rfl, rfl⟩
    · exact wpAny_pyHash_int h
    · exact wpAny_pyHash_str h
  eqBool := fun hu hv h => by
    rcases keyIs_shape hu with ⟨i, t, rfl, rfl⟩ | ⟨x, t, rfl, rfl⟩
    · rcases keyIs_shape hv with ⟨j, u, rfl, rfl⟩ | ⟨y, u, rfl, rfl⟩
      · rw [key_ll] at h; exact wpAny_eqBool_int h
      · rw [key_lr] at h; exact SeqAt.EqAt.int_str i t y u _ _ _ _ h
    · rcases keyIs_shape hv with ⟨j, u, rfl, rfl⟩ | ⟨y, u, rfl, rfl⟩
      · rw [key_rl] at h; exact SeqAt.EqAt.str_int x t j u _ _ _ _ h
      · rw [key_rr] at h; exact wpAny_eqBool_str h
  «strs» := fun k x t v h => by
    rcases keyIs_shape h with ⟨i, u, rfl, e⟩ | ⟨y, u, rfl, e⟩
    · exact nomatch e
    · injection e with e1 _
      subst e1
      cases v <;> rfl
theorem mixKind_int (prog : Program) (w : World) (i : Int) (t : Tok) : (mixKind prog w).is (.inl i) (.int i t) = true := keyIs_int i t
theorem mixKind_str (prog : Program) (w : World) (x : Str) (t : Tok) : (mixKind prog w).is (.inr x) (.str x t) = true := keyIs_str x t
end L2
namespace L2
open PySem PySem.Spec PyProof.Rows
inductive V where
  | non | bl (b : Bool) | int (i : Int) | str (x : Str) | byt (b : Array UInt8) | flt (b : UInt64) | ref (a : Addr) | ty (n : String)
  deriving DecidableEq
def RelV : V → Value → Prop
  | .non, u => u = Value.none
  | .bl b, u => u = Value.bool b
  | .int i, u => ∃ t, u = Value.int i t
  | .str x, u => ∃ t, u = Value.str x t
  | .byt b, u => ∃ t, u = Value.bytes b t
  | .flt b, u => ∃ t, u = Value.float b t
  | .ref a, u => u = Value.ref a
  | .ty n, u => u = Value.type n
abbrev Vals : List V → List Value → Prop := Paired RelV
theorem Vals.length {xs : List V} {us : List Value} (r : Vals xs us) : xs.length = us.length := Paired.length r
theorem Vals.get : ∀ {xs : List V} {us : List Value} {i : Nat} {x : V}, Vals xs us → xs[i]? = some x → ∃ u, us[i]? = some u ∧ RelV x u
  | _, _, _, _, .nil, e => by simp at e
  | _, _, 0, _, .cons r _, e => by simp at e; subst e; exact ⟨_, rfl, r⟩
  | _, _, i + 1, x, .cons _ t, e => by
    obtain ⟨u, h1, h2⟩ := Vals.get (i := i) (x := x) t (by simpa using e)
    exact ⟨u, by simpa using h1, h2⟩
theorem Vals.set {x : V} {u : Value} (r : RelV x u) : ∀ {xs : List V} {us : List Value} (i : Nat), Vals xs us → Vals (xs.set i x) (us.set i u)
  | _, _, _, .nil => .nil
  | _, _, 0, .cons _ t => .cons r t
  | _, _, i + 1, .cons q t => .cons q (Vals.set r i t)
theorem Vals.append : ∀ {xs ys : List V} {us ws : List Value}, Vals xs us → Vals ys ws → Vals (xs ++ ys) (us ++ ws)
  | _, _, _, _, .nil, s => s
  | _, _, _, _, .cons r t, s => .cons r (Vals.append t s)
theorem Vals.take : ∀ {xs : List V} {us : List Value} (n : Nat), Vals xs us → Vals (xs.take n) (us.take n)
  | _, _, 0, _ => .nil
  | _, _, _ + 1, .nil => .nil
  | _, _, n + 1, .cons r t => .cons r (Vals.take n t)
theorem Vals.drop : ∀ {xs : List V} {us : List Value} (n : Nat), Vals xs us → Vals (xs.drop n) (us.drop n)
  | _, _, 0, r => r
  | _, _, _ + 1, .nil => .nil
  | _, _, n + 1, .cons _ t => Vals.drop n t
def RelO : Option V → Option Value → Prop
  | some v, some u => RelV v u
  | none, none => True
  | _, _ => False
def KV {κ : Type} : List (κ × V) → List (κ × Value) → Prop := Paired fun (p : κ × V) (q : κ × Value) => p.1 = q.1 ∧ RelV p.2 q.2
def kV : Key → V
  | .inl i => .int i
  | .inr x => .str x
inductive HO where
    | lst (xs : List V)
    | tup (xs : List V)
    | dK (kvs : List (Key × V)) | dT (kvs : List (List Key × V))
    | set (S : Int → Bool) (n : Nat)
    | ins (C dx : Addr) (fs : List (Str × V))
    | own (x : Addr)
    | xd (fs : List (Str × V))
    | met (f x : Addr)
    | rng (lo hi : Int)
    | frz (o : Obj) (u : HO)
    | tbl (ps : Array Value)
    | ext (φ : Heap → Prop)
abbrev Hp := Addr → Option HO
def upd (H : Hp) (a : Addr) (o : HO) : Hp := fun b => if b = a then some o else H b
theorem upd_same {H : Hp} {a : Addr} {o : HO} : upd H a o a = some o := by unfold upd; rw [if_pos rfl]
theorem upd_ne {H : Hp} {a b : Addr} {o : HO} (h : b ≠ a) : upd H a o b = H b := by unfold upd; rw [if_neg h]
theorem ne_of {H : Hp} {a b : Addr} {o u : HO} (h : H a = some o) (h' : H b = some u) (d : o ≠ u) : a ≠ b := by
  intro e; subst e; rw [h] at h'; exact d (Option.some.inj h')
theorem ne_of_none {H : Hp} {a b : Addr} {o : HO} (h : H a = some o) (h' : H b = none) : a ≠ b := by
  intro e; subst e; rw [h] at h'; cases h'
section
variable (P : Program) (w : World)
def ObjOk (H : Hp) (h : Heap) (a : Addr) : HO → Prop
  | .lst xs => xs.length ≤ sizeLine ∧ ∃ (its : List Value) (n : Nat), Vals xs its ∧ h.get? a = some { cls := .type "list", data := .seq its.toArray n }
  | .tup xs => xs.length ≤ sizeLine ∧ ∃ its : List Value, Vals xs its ∧ IsTup h a its.toArray
  | .dK kvs => kvs.length ≤ sizeLine ∧ (a == sysModules) = false ∧ ∃ vs, KV kvs vs ∧ h.DictOf (mixKind P w) a vs
  | .dT kvs => kvs.length ≤ sizeLine ∧ (a == sysModules) = false ∧ ∃ xs : List (List Key × Addr × Value),
      Paired (fun (p : List Key × V) (q : List Key × Addr × Value) => p.1 = q.1 ∧ H q.2.1 = some (.tup (p.1.map kV)) ∧ RelV p.2 q.2.2) kvs xs ∧
      ∃ o es ep, h.get? a = some o ∧ o.ExactDict ∧ o.data = .dict es ep ∧ es.toList = xs.map (entryOfKey (tupleKind (mixKind P w))) ∧ (xs.map (·.1)).Nodup
  | .set S n => h.SetOf (intKind P w) a S n
  | .ins C dx fs => H dx = some (.own a) ∧ fs.length ≤ 1000 ∧ dx ≠ a ∧ h.get? a = some (PySem.W.instObj C dx) ∧
      ∃ mA, h.Ns1 dx mA ∧ (∀ f, RelO (fs.lookup f) (mA f)) ∧ PySem.Within mA (fs.map (·.1))
  | .own _ => ∃ o, h.get? a = some o
  | .xd fs => ∃ mA, h.Ns1 a mA ∧ ∀ f, RelO (fs.lookup f) (mA f)
  | .rng lo hi => ∃ t u v, h.get? a = some { cls := .type "range", data := .fields #[.int lo t, .int hi u, .int 1 v] }
  | .frz o u => h.get? a = some o ∧ ObjOk H h a u
  | .tbl ps => h.get? a = some { cls := .none, data := .fields ps }
  | .met f x => h.get? a = some (PySem.W.methodObj (.ref f) (.ref x))
  | .ext φ => φ h ∧ (∃ o, h.get? a = some o) ∧ ∀ h1 h2 : Heap, φ h1 → (∀ o, h1.get? a = some o → h2.get? a = some o) → φ h2
def HOk (H : Hp) (h : Heap) : Prop := ∀ a o, H a = some o → ObjOk P w H h a o
end
section
variable {P : Program} {w : World} {H H' : Hp} {h h' : Heap} {a : Addr} {o : HO}
theorem ObjOk.lt (x : ObjOk P w H h a o) : a < h.objs.size := by
  cases o with
  | lst xs => obtain ⟨_, _, _, _, e⟩ := x; exact Heap.lt_size e
  | tup xs => obtain ⟨_, _, _, p⟩ := x; exact p.lt
  | dK kvs => obtain ⟨_, _, _, _, o, _, _, e, _⟩ := x; exact Heap.lt_size e
  | dT kvs => obtain ⟨_, _, _, _, o, _, _, e, _⟩ := x; exact Heap.lt_size e
  | set S n => obtain ⟨o, _, _, _, e, _⟩ := x; exact Heap.lt_size e
  | ins C dx fs => obtain ⟨_, _, _, e, _⟩ := x; exact Heap.lt_size e
  | own y => obtain ⟨_, e⟩ := x; exact Heap.lt_size e
  | xd fs => obtain ⟨_, ⟨_, _, _, e, _⟩, _⟩ := x; exact Heap.lt_size e
  | rng lo hi => obtain ⟨_, _, _, e⟩ := x; exact Heap.lt_size e
  | frz ob u => obtain ⟨e, _⟩ := x; exact Heap.lt_size e
  | tbl ps => exact Heap.lt_size (show h.get? a = some _ from x)
  | met f y => exact Heap.lt_size (show h.get? a = some _ from x)
  | ext φ => obtain ⟨_, ⟨_, e⟩, _⟩ := x; exact Heap.lt_size e
theorem Paired.mapP {α β : Type} {F G : α → β → Prop} : ∀ {l₁ : List α} {l₂ : List β}, Paired F l₁ l₂ → (∀ a b, F a b → G a b) → Paired G l₁ l₂
  | _, _, .nil, _ => .nil
  | _, _, .cons r t, f => .cons (f _ _ r) (Paired.mapP t f)
theorem ObjOk.stay (x : ObjOk P w H h a o) (k : ∀ b u, (b = a ∨ H b = some (.own a)) → h.get? b = some u → h'.get? b = some u)
    (ho : ∀ b, H b = some (.own a) → H' b = some (.own a)) (ht : ∀ b xs, H b = some (.tup xs) → H' b = some (.tup xs)) : ObjOk P w H' h' a o := by
  induction o with
  | lst xs => obtain ⟨z, its, n, r, e⟩ := x; exact ⟨z, its, n, r, k _ _ (.inl rfl) e⟩
  | tup xs => obtain ⟨z, its, r, ob, e, c⟩ := x; exact ⟨z, its, r, ob, k _ _ (.inl rfl) e, c⟩
  | dK kvs => obtain ⟨z, y, vs, r, ob, es, ep, e, c⟩ := x; exact ⟨z, y, vs, r, ob, es, ep, k _ _ (.inl rfl) e, c⟩
  | dT kvs =>
    obtain ⟨z, y, xs, r, ob, es, ep, e, c⟩ := x
    exact ⟨z, y, xs, Paired.mapP r fun p q z => ⟨z.1, ht _ _ z.2.1, z.2.2⟩, ob, es, ep, k _ _ (.inl rfl) e, c⟩
  | set S n => obtain ⟨ob, es, ep, t, e, c⟩ := x; exact ⟨ob, es, ep, t, k _ _ (.inl rfl) e, c⟩
  | ins C dx fs =>
    obtain ⟨d, z, ne, e, mA, ⟨od, es, ep, e2, c⟩, r⟩ := x
    exact ⟨ho _ d, z, ne, k _ _ (.inl rfl) e, mA, ⟨od, es, ep, k _ _ (.inr d) e2, c⟩, r⟩
  | own y => obtain ⟨ob, e⟩ := x; exact ⟨ob, k _ _ (.inl rfl) e⟩
  | xd fs => obtain ⟨mA, ⟨od, es, ep, e, c⟩, r⟩ := x; exact ⟨mA, ⟨od, es, ep, k _ _ (.inl rfl) e, c⟩, r⟩
  | rng lo hi => obtain ⟨t, u, v, e⟩ := x; exact ⟨t, u, v, k _ _ (.inl rfl) e⟩
  | frz ob u ih => obtain ⟨e, q⟩ := x; exact ⟨k _ _ (.inl rfl) e, ih q⟩
  | tbl ps =>
    have e : h.get? a = some { cls := .none, data := .fields ps } := x
    show h'.get? a = some { cls := .none, data := .fields ps }
    exact k a _ (.inl rfl) e
  | met f y =>
    have e : h.get? a = some (PySem.W.methodObj (.ref f) (.ref y)) := x
    show h'.get? a = some (PySem.W.methodObj (.ref f) (.ref y))
    exact k a _ (.inl rfl) e
  | ext φ => obtain ⟨p, ⟨o, e⟩, st⟩ := x; exact ⟨st _ _ p fun o q => k _ _ (.inl rfl) q, ⟨o, k _ _ (.inl rfl) e⟩, st⟩
theorem HOk.lt (x : HOk P w H h) (e : H a = some o) : a < h.objs.size := (x a o e).lt
theorem HOk.fresh (x : HOk P w H h) (e : h.objs.size ≤ a) : H a = none := by
  cases q : H a with
  | none => rfl
  | some u => exact absurd (Nat.lt_of_lt_of_le (x.lt q) e) (Nat.lt_irrefl _)
theorem HOk.kept (x : HOk P w H h) (k : ∀ b u, h.get? b = some u → h'.get? b = some u) : HOk P w H h' := fun a o e =>
  (x a o e).stay (fun b u _ q => k b u q) (fun _ q => q) fun _ _ q => q
theorem HOk.laid (x : HOk P w H h) (k : ∀ b u, h.get? b = some u → h'.get? b = some u) (hp : h.objs.size ≤ a) (new : ObjOk P w (upd H a o) h' a o) : HOk P w (upd H a o) h' := fun b u e => by
  have hn := x.fresh hp
  by_cases hb : b = a
  · subst hb; rw [upd_same] at e; cases e; exact new
  · rw [upd_ne hb] at e
    exact (x b u e).stay (fun c v _ q => k c v q) (fun c q => by rw [upd_ne (ne_of_none q hn)]; exact q) fun c xs q => by rw [upd_ne (ne_of_none q hn)]; exact q
end
def Rd (H : Hp) (a : Addr) (u : HO) : Prop := H a = some u ∨ ∃ o, H a = some (.frz o u)
theorem Rd.of {H : Hp} {a : Addr} {u : HO} (h : H a = some u) : Rd H a u := .inl h
theorem Rd.ok {P : Program} {w : World} {H : Hp} {h : Heap} {a : Addr} {u : HO} (r : Rd H a u) (x : HOk P w H h) : ObjOk P w H h a u := by
  rcases r with r | ⟨o, r⟩
  · exact x a u r
  · obtain ⟨_, q⟩ := x a _ r
    exact q
def Mut : Option HO → Prop
  | some (.lst _) => True
  | some (.dK _) => True
  | some (.dT _) => True
  | some (.set _ _) => True
  | some (.ins _ _ _) => True
  | some (.ext _) => True
  | _ => False
section
variable {P : Program} {w : World} {H : Hp} {h h' : Heap} {x e : Addr} {o' : HO}
theorem HOk.write (ok : HOk P w H h) (mu : Mut (H x)) (he : e = x ∨ H e = some (.own x)) (k : ∀ b u, b ≠ e → h.get? b = some u → h'.get? b = some u) (heo : ∃ u, h'.get? e = some u)
    (new : ObjOk P w (upd H x o') h' x o') : HOk P w (upd H x o') h' := fun b u q => by
  have nown : ∀ c y, H c = some (.own y) → c ≠ x := fun c y r z => by subst z; rw [r] at mu; exact mu
  have ntup : ∀ c xs, H c = some (.tup xs) → c ≠ x := fun c xs r z => by subst z; rw [r] at mu; exact mu
  by_cases hb : b = x
  · subst hb; rw [upd_same] at q; cases q; exact new
  · rw [upd_ne hb] at q
    by_cases hbe : b = e
    · have q' : H b = some (.own x) := by
        rcases he with z | z
        · exact absurd (hbe.trans z) hb
        · rw [hbe]; exact z
      rw [q] at q'; cases q'
      obtain ⟨v, hv⟩ := heo
      exact ⟨v, by rw [hbe]; exact hv⟩
    · refine (ok b u q).stay (fun c v hc r => k c v ?_ r) (fun c r => by rw [upd_ne (nown c b r)]; exact r) fun c xs r => by rw [upd_ne (ntup c xs r)]; exact r
      rcases hc with rfl | hc
      · exact hbe
      · rintro rfl
        rcases he with z | z
        · exact nown c b hc z
        · rw [hc] at z; cases z; exact hb rfl
end
structure Un (fs ex : List Addr) (H H' : Hp) (h h' : Heap) : Prop where
  keep : ∀ b o, h.get? b = some o → H b = none → b ∉ fs → b ∉ ex → h'.get? b = some o
  slot : ∀ b o, h.get? b = some o → H b = none → b ∈ fs → b ∉ ex → ∃ sl, h'.get? b = some { o with slots := sl }
  free : ∀ b o, h.get? b = some o → H b = none → b ∉ ex → H' b = none
  there : ∀ b o, h.get? b = some o → b ∉ ex → ∃ o', h'.get? b = some o'
  tups : ∀ b xs, H b = some (.tup xs) → H' b = some (.tup xs)
  frzs : ∀ b o u, H b = some (.frz o u) → H' b = some (.frz o u)
  tbls : ∀ b ps, H b = some (.tbl ps) → ∃ more, H' b = some (.tbl (ps ++ more))
section
variable {fs fs' ex ex' : List Addr} {H H1 H2 : Hp} {h h1 h2 h' : Heap} {a x e : Addr} {o : HO}
theorem Un.any (u : Un fs ex H H1 h h1) {b : Addr} {ob : Obj} (q : h.get? b = some ob) (n : H b = none) (hx : b ∉ ex) : ∃ sl, h1.get? b = some { ob with slots := sl } := by
  by_cases hb : b ∈ fs
  · exact u.slot b ob q n hb hx
  · exact ⟨ob.slots, u.keep b ob q n hb hx⟩
theorem Un.trans (a : Un fs ex H H1 h h1) (b : Un fs ex H1 H2 h1 h2) : Un fs ex H H2 h h2 where
  keep := fun c ob q n hc hx => b.keep c ob (a.keep c ob q n hc hx) (a.free c ob q n hx) hc hx
  slot := fun c ob q n hc hx => by
    obtain ⟨sl, e1⟩ := a.slot c ob q n hc hx
    obtain ⟨sl', e2⟩ := b.slot c _ e1 (a.free c ob q n hx) hc hx
    exact ⟨sl', e2⟩
  free := fun c ob q n hx => by
    obtain ⟨o', e1⟩ := a.there c ob q hx
    exact b.free c o' e1 (a.free c ob q n hx) hx
  there := fun c ob q hx => by
    obtain ⟨o', e1⟩ := a.there c ob q hx
    exact b.there c o' e1 hx
  tups := fun c xs q => b.tups c xs (a.tups c xs q)
  frzs := fun c ob xs q => b.frzs c ob xs (a.frzs c ob xs q)
  tbls := fun c ps q => by
    obtain ⟨m1, e1⟩ := a.tbls c ps q
    obtain ⟨m2, e2⟩ := b.tbls c _ e1
    exact ⟨m1 ++ m2, by rw [e2, Array.append_assoc]⟩
theorem Un.kept (k : ∀ b u, h.get? b = some u → h'.get? b = some u) : Un fs ex H H h h' :=
  ⟨fun b ob q _ _ _ => k b ob q, fun b ob q _ _ _ => ⟨ob.slots, k b ob q⟩, fun _ _ _ n _ => n, fun b ob q _ => ⟨ob, k b ob q⟩, fun _ _ q => q, fun _ _ _ q => q, fun _ ps q => ⟨#[], by rw [q]; simp⟩⟩
theorem Un.refl : Un fs ex H H h h := Un.kept fun _ _ q => q
theorem Un.laid (k : ∀ b u, h.get? b = some u → h'.get? b = some u) (hp : h.objs.size ≤ a) (hn : H a = none) : Un fs ex H (upd H a o) h h' where
  keep := fun b u q _ _ _ => k b u q
  slot := fun b u q _ _ _ => ⟨u.slots, k b u q⟩
  free := fun b u q n _ => by rw [upd_ne (Nat.ne_of_lt (Nat.lt_of_lt_of_le (Heap.lt_size q) hp))]; exact n
  there := fun b u q _ => ⟨u, k b u q⟩
  tups := fun b xs q => by rw [upd_ne (ne_of_none q hn)]; exact q
  frzs := fun b u xs q => by rw [upd_ne (ne_of_none q hn)]; exact q
  tbls := fun b ps q => ⟨#[], by rw [upd_ne (ne_of_none q hn), q]; simp⟩
theorem Un.write (mu : Mut (H x)) (he : e = x ∨ H e = some (.own x)) (k : ∀ b u, b ≠ e → h.get? b = some u → h'.get? b = some u) (heo : ∃ u, h'.get? e = some u) : Un fs ex H (upd H x o) h h' := by
  have hx : ∀ b, H b = none → b ≠ x := fun b n z => by subst z; rw [n] at mu; exact mu
  have hb : ∀ b, H b = none → b ≠ e := fun b n z => by
    subst z
    rcases he with r | r
    · exact hx b n r
    · rw [n] at r; cases r
  have hm : ∀ b u, H b = some u → ¬ Mut (some u) → b ≠ x := fun b u q nm z => by subst z; rw [q] at mu; exact nm mu
  refine ⟨fun b u q n _ _ => k b u (hb b n) q, fun b u q n _ _ => ⟨u.slots, k b u (hb b n) q⟩, fun b u q n _ => by rw [upd_ne (hx b n)]; exact n, fun b u q _ => ?_,
    fun b xs q => by rw [upd_ne (hm b _ q fun z => z)]; exact q, fun b u xs q => by rw [upd_ne (hm b _ q fun z => z)]; exact q, fun b ps q => ⟨#[], by rw [upd_ne (hm b _ q fun z => z), q]; simp⟩⟩
  by_cases hbe : b = e
  · subst hbe; exact heo
  · exact ⟨u, k b u hbe q⟩
theorem Un.mono (u : Un fs ex H H1 h h1) (hs : ∀ b ∈ fs, b ∈ fs') (hx : ∀ b ∈ ex, b ∈ ex') : Un fs' ex' H H1 h h1 :=
  ⟨fun b ob q n hb he => u.keep b ob q n (fun z => hb (hs b z)) fun z => he (hx b z), fun _ _ q n _ he => u.any q n fun z => he (hx _ z), fun b ob q n he => u.free b ob q n fun z => he (hx b z), fun b ob q he => u.there b ob q fun z => he (hx b z), u.tups, u.frzs, u.tbls⟩
end
def trk (h : Heap) (H : Hp) : List Addr := (List.range h.objs.size).filter fun a => (H a).isSome
def hidT (h : Heap) (H : Hp) : Heap := PySem.W.hideAll h (trk h H)
theorem hidT_size (h : Heap) (H : Hp) : (hidT h H).objs.size = h.objs.size := PySem.W.hideAll_size _ _
theorem hidT_get {h : Heap} {H : Hp} {b : Addr} {o : Obj} (e : h.get? b = some o) (n : H b = none) : (hidT h H).get? b = some o :=
  PySem.W.hideAll_get _ e fun hm => by
    have q : (H b).isSome = true := (List.mem_filter.mp hm).2
    rw [n] at q; simp at q
theorem of_hidT {h : Heap} {H : Hp} {b : Addr} {o : Obj} (e : (hidT h H).get? b = some o) : h.get? b = some o ∧ H b = none := by
  have e' : h.get? b = some o := PySem.W.of_hideAll (trk h H) e
  refine ⟨e', ?_⟩
  cases q : H b with
  | none => rfl
  | some x =>
    have hm : b ∈ trk h H := List.mem_filter.mpr ⟨List.mem_range.mpr (Heap.lt_size e'), by simp [q]⟩
    have z : (hidT h H).get? b = none := PySem.W.hideAll_none (trk h H) hm
    rw [z] at e; cases e
def allNews (g h : Heap) (L : Addr) : List (Addr × Obj) := (List.range h.objs.size).filterMap fun a => if a = L ∨ (g.get? a).isSome = true then none else (h.get? a).map fun o => (a, o)
def rest (g h : Heap) (L d : Addr) : List (Addr × Obj) := (allNews g h L).filter fun p => decide (p.1 ≠ d)
end L2
namespace L2
open PySem PySem.Spec PyProof.Rows
structure Mod (K : PySem.W.Frag) (mg : Str → Option Value) (base : Heap) : Prop where
  kin : K.In base
  glob : base.Ns mainGlobals mg
  blt : ∃ mb, base.Ns builtinsNs mb ∧ ∀ x : Str, x ≠ "__name__" → mb x = bootBuiltins x
  nolimit : base.NoLimit
structure Cx where
  prog : Program
  w : World
  K : PySem.W.Frag
  mg : Str → Option Value
  base : Heap
  A : Around
  N : List Str
  s₀ : Shared
  H₀ : Hp
  env : Env
  outer : List Env
  stack : List Env
  ex : List Addr
  fn : Str → Bool
  calm : Bool
  pn : List (Addr × Obj)
  xe : Value → Shared → Prop
def frs (l : List Env) : List Addr := l.filterMap (·.frame)
abbrev Cx.fs (X : Cx) : List Addr := frs X.outer
def Vis (sc : Scope) (x : Str) : Prop := sc.names.lookup x = some .local ∨ sc.names.lookup x = some .cell ∨ sc.names.lookup x = some .free
def Loc (sc : Scope) (x : Str) : Prop := sc.names.lookup x = some .local ∨ sc.names.lookup x = some .cell
def Look (env : Env) (h : Heap) (m : Str → Option Value) (x : Str) (u : Value) : Prop :=
  (env.kindOf x = some .local ∧ m x = some u) ∨ ((env.kindOf x = some .cell ∨ env.kindOf x = some .free) ∧ ∃ c, env.cells.lookup x = some c ∧ h.IsCell c (some u))
structure Cx.Ok (X : Cx) : Prop where
  mod : Mod X.K X.mg X.base
  kind : X.env.scope.kind = .function
  glob : X.env.globals = mainGlobals
  blt : X.env.builtins = builtinsNs
  above : X.s₀.heap.objs.size ≤ X.env.locals
  inj : ∀ x y c, X.env.cells.lookup x = some c → X.env.cells.lookup y = some c → x = y
  has : ∀ x, (X.env.kindOf x = some .cell ∨ X.env.kindOf x = some .free) → ∃ c, X.env.cells.lookup x = some c
  cab : ∀ x c, X.fn x = true → X.env.cells.lookup x = some c → X.s₀.heap.objs.size ≤ c
  hd : X.calm = true → X.A.handled = none
  frames : X.A.frames = some X.stack
  stk : X.stack = X.outer ∨ (X.stack = X.env :: X.outer ∧ X.env.frame = some X.env.locals)
  exf : ∀ b ∈ X.ex, b ≠ X.env.locals ∧ ∀ x c, X.env.cells.lookup x = some c → c ≠ b
  bs : ∀ b o, X.base.get? b = some o → X.s₀.heap.get? b = some o ∧ X.H₀ b = none
  bsz : X.base.objs.size ≤ X.s₀.heap.objs.size
  noex : ∀ b o, X.base.get? b = some o → b ∉ X.ex
  exfs : ∀ b ∈ X.ex, b ∉ X.fs
  funs : X.s₀.heap.FunFrames X.base X.outer
  frf : ∀ b ∈ X.fs, X.H₀ b = none
structure Inv (X : Cx) (pins : List (Addr × Obj)) (σ : List (Option V)) (H : Hp) (s : Shared) : Prop where
  ok : X.Ok
  os : s.os = X.s₀.os
  bare : AllBare s.gens
  base : Un X.fs X.ex X.H₀ H X.s₀.heap s.heap
  loc : ∃ m, s.heap.Ns X.env.locals m ∧ ∀ (i : Nat) (x : Str) (v : V), X.N[i]? = some x → σ[i]? = some (some v) → Vis X.env.scope x → ∃ u, RelV v u ∧ Look X.env s.heap m x u
  cell : ∀ x c, X.env.cells.lookup x = some c → ∃ v, s.heap.IsCell c v
  free : H X.env.locals = none
  freeC : ∀ x c, X.env.cells.lookup x = some c → H c = none
  pin : ∀ p ∈ X.pn ++ pins, s.heap.get? p.1 = some p.2 ∧ H p.1 = none ∧ p.1 ≠ X.env.locals ∧ p.1 ∉ X.fs ∧ ∀ v, p.2.data ≠ .cell v
  hok : HOk X.prog X.w H s.heap
  len : σ.length = X.N.length
section
variable {X : Cx} {pins : List (Addr × Obj)} {σ : List (Option V)} {H H' : Hp} {s : Shared} {h' : Heap}
theorem Cx.Ok.nofr (ok : X.Ok) {b : Addr} {o : Obj} (e : X.base.get? b = some o) : b ∉ X.fs := fun hb => by
  have := (ok.funs.mem hb).1
  rw [e] at this; cases this
theorem Inv.bs (I : Inv X pins σ H s) : ∀ b o, X.base.get? b = some o → s.heap.get? b = some o ∧ H b = none := fun b o e =>
  ⟨I.base.keep b o (I.ok.bs b o e).1 (I.ok.bs b o e).2 (I.ok.nofr e) (I.ok.noex b o e), I.base.free b o (I.ok.bs b o e).1 (I.ok.bs b o e).2 (I.ok.noex b o e)⟩
theorem Inv.bk (I : Inv X pins σ H s) : ∀ b o, X.base.get? b = some o → s.heap.get? b = some o := fun b o e => (I.bs b o e).1
theorem Inv.mod (I : Inv X pins σ H s) : Mod X.K X.mg X.base := I.ok.mod
theorem Inv.kIn (I : Inv X pins σ H s) : X.K.In s.heap := I.ok.mod.kin.keeps I.bk
theorem Inv.nolimit (I : Inv X pins σ H s) : s.heap.NoLimit := I.ok.mod.nolimit.keeps I.bk
theorem Inv.fr (I : Inv X pins σ H s) : ∃ m, Fr X.base X.env.locals s.heap m :=
  let ⟨m, hn, _⟩ := I.loc
  ⟨m, hn, I.bk, Nat.le_trans I.ok.bsz I.ok.above⟩
theorem Inv.lt (I : Inv X pins σ H s) : X.env.locals < s.heap.objs.size := let ⟨_, hn, _⟩ := I.loc; hn.lt
theorem Inv.sz (I : Inv X pins σ H s) : X.s₀.heap.objs.size ≤ s.heap.objs.size := Nat.le_trans I.ok.above (Nat.le_of_lt I.lt)
theorem Inv.nofs (I : Inv X pins σ H s) {a : Addr} (h : s.heap.objs.size ≤ a) : a ∉ X.fs := fun hb => by
  obtain ⟨_, o, ho, _⟩ := I.ok.funs.mem hb
  exact absurd (Nat.lt_of_lt_of_le (Heap.lt_size ho) (Nat.le_trans I.sz h)) (Nat.lt_irrefl _)
theorem Inv.cne (I : Inv X pins σ H s) : ∀ x c, X.env.cells.lookup x = some c → c ≠ X.env.locals := fun x c e z => by
  obtain ⟨v, o, ho, hd⟩ := I.cell x c e
  obtain ⟨m, ⟨o', es, ep, ho', hd', _⟩, _⟩ := I.loc
  rw [z, ho'] at ho; cases ho; rw [hd'] at hd; cases hd
theorem Inv.funs (I : Inv X pins σ H s) : s.heap.FunFrames X.base X.outer := by
  have all : ∀ (l : List Env), (∀ b ∈ frs l, b ∈ X.fs) → X.s₀.heap.FunFrames X.base l → s.heap.FunFrames X.base l := by
    intro l
    induction l with
    | nil => intro _ _; trivial
    | cons env r ih =>
      intro hs hl
      obtain ⟨hk, ⟨L, o, hf, hn, ho, hd⟩, hr⟩ := hl
      have hL : L ∈ X.fs := hs L (by unfold frs; rw [List.filterMap_cons, hf]; exact List.mem_cons_self)
      obtain ⟨sl, e⟩ := I.base.slot L o ho (I.ok.frf L hL) hL fun z => I.ok.exfs L z hL
      exact ⟨hk, ⟨L, _, hf, hn, e, hd⟩, ih (fun b hb => hs b (by unfold frs; rw [List.filterMap_cons, hf]; exact List.mem_cons_of_mem _ hb)) hr⟩
  exact all X.outer (fun _ hb => hb) I.ok.funs
theorem Inv.stack (I : Inv X pins σ H s) : s.heap.FunFrames X.base X.stack := by
  rcases I.ok.stk with e | ⟨e, hf⟩
  · rw [e]; exact I.funs
  · rw [e]
    obtain ⟨m, hn, _⟩ := I.loc
    refine .cons (by rw [I.ok.kind]; decide) hf hn ?_ I.funs
    exact Heap.get?_none_of_le (Nat.le_trans I.ok.bsz I.ok.above)
theorem Inv.stkSub (I : Inv X pins σ H s) : ∀ b ∈ frs X.stack, b ∈ X.env.locals :: X.fs := fun b hb => by
  rcases I.ok.stk with e | ⟨e, hf⟩
  · rw [e] at hb; exact List.mem_cons_of_mem _ hb
  · rw [e] at hb
    unfold frs at hb
    rw [List.filterMap_cons, hf] at hb
    exact hb
theorem Inv.stkFree (I : Inv X pins σ H s) : ∀ b ∈ frs X.stack, H b = none := fun b hb => by
  rcases List.mem_cons.mp (I.stkSub b hb) with e | hb
  · rw [e]; exact I.free
  · obtain ⟨_, o, ho, _⟩ := I.ok.funs.mem hb
    exact I.base.free b o ho (I.ok.frf b hb) fun z => I.ok.exfs b z hb
theorem Inv.step {g' : Array GenState} {t' : Nat} {d' : Drawn} {ch : List Addr} (I : Inv X pins σ H s)
    (hch : ∀ b ∈ ch, (b ∈ X.ex ∨ X.s₀.heap.objs.size ≤ b) ∧ b ≠ X.env.locals ∧ (∀ x c, X.env.cells.lookup x = some c → c ≠ b) ∧ ∀ p ∈ X.pn ++ pins, p.1 ≠ b)
    (keep : ∀ b o, b ≠ X.env.locals → b ∉ X.fs → b ∉ ch → s.heap.get? b = some o → H b = none → h'.get? b = some o)
    (slot : ∀ b o, b ≠ X.env.locals → b ∈ X.fs → b ∉ ch → s.heap.get? b = some o → H b = none → ∃ sl, h'.get? b = some { o with slots := sl }) (free : ∀ b o, b ∉ ch → s.heap.get? b = some o → H b = none → H' b = none)
    (there : ∀ b o, b ∉ ch → s.heap.get? b = some o → ∃ o', h'.get? b = some o')
    (tups : ∀ b xs, H b = some (.tup xs) → H' b = some (.tup xs)) (frzs : ∀ b o u, H b = some (.frz o u) → H' b = some (.frz o u)) (tbls : ∀ b ps, H b = some (.tbl ps) → ∃ more, H' b = some (.tbl (ps ++ more)))
    (ns : ∀ m, s.heap.Ns X.env.locals m → h'.Ns X.env.locals m) (hok : HOk X.prog X.w H' h') (hg : AllBare g') :
    Inv X pins σ H' { s with heap := h', gens := g', drawn := d', toks := t' } := by
  have neL : ∀ b o, X.s₀.heap.get? b = some o → b ≠ X.env.locals := fun b o e => Nat.ne_of_lt (Nat.lt_of_lt_of_le (Heap.lt_size e) I.ok.above)
  have neC : ∀ b o, X.s₀.heap.get? b = some o → b ∉ X.ex → b ∉ ch := fun b o e hx hb => by
    rcases (hch b hb).1 with z | z
    · exact hx z
    · exact absurd (Nat.lt_of_lt_of_le (Heap.lt_size e) z) (Nat.lt_irrefl _)
  have cellK : ∀ x c, X.env.cells.lookup x = some c → ∀ v, s.heap.IsCell c v → h'.IsCell c v := fun x c e v ⟨o, ho, hd⟩ => by
    have nch : c ∉ ch := fun z => (hch c z).2.2.1 x c e rfl
    by_cases hc : c ∈ X.fs
    · obtain ⟨sl, q⟩ := slot c o (I.cne x c e) hc nch ho (I.freeC x c e)
      exact ⟨_, q, hd⟩
    · exact ⟨o, keep c o (I.cne x c e) hc nch ho (I.freeC x c e), hd⟩
  refine ⟨I.ok, I.os, hg, ⟨fun b o e n hb hx => ?_, fun b o e n hb hx => ?_, fun b o e n hx => ?_, fun b o e hx => ?_, fun b xs e => tups b xs (I.base.tups b xs e), fun b o xs e => frzs b o xs (I.base.frzs b o xs e), fun b ps e => ?_⟩, ?_, fun x c e => ?_, ?_, fun x c e => ?_, fun p hp => ?_, hok, I.len⟩
  · exact keep b o (neL b o e) hb (neC b o e hx) (I.base.keep b o e n hb hx) (I.base.free b o e n hx)
  · obtain ⟨sl, e1⟩ := I.base.slot b o e n hb hx
    obtain ⟨sl', e2⟩ := slot b _ (neL b o e) hb (neC b o e hx) e1 (I.base.free b o e n hx)
    exact ⟨sl', e2⟩
  · obtain ⟨o', e1⟩ := I.base.there b o e hx
    exact free b o' (neC b o e hx) e1 (I.base.free b o e n hx)
  · obtain ⟨o', e1⟩ := I.base.there b o e hx
    exact there b o' (neC b o e hx) e1
  · obtain ⟨m1, e1⟩ := I.base.tbls b ps e
    obtain ⟨m2, e2⟩ := tbls b _ e1
    exact ⟨m1 ++ m2, by rw [e2, Array.append_assoc]⟩
  · obtain ⟨m, hn, hl⟩ := I.loc
    refine ⟨m, ns m hn, fun i x v e1 e2 e3 => ?_⟩
    obtain ⟨u, r, l⟩ := hl i x v e1 e2 e3
    refine ⟨u, r, ?_⟩
    rcases l with l | ⟨k, c, e, z⟩
    · exact .inl l
    · exact .inr ⟨k, c, e, cellK x c e _ z⟩
  · obtain ⟨v, z⟩ := I.cell x c e
    exact ⟨v, cellK x c e v z⟩
  · obtain ⟨m, ⟨o, _, _, ho, _⟩, _⟩ := I.loc
    exact free _ o (fun z => (hch _ z).2.1 rfl) ho I.free
  · obtain ⟨v, o, ho, hd⟩ := I.cell x c e
    exact free c o (fun z => (hch c z).2.2.1 x c e rfl) ho (I.freeC x c e)
  · obtain ⟨e, n, ne, nf, d⟩ := I.pin p hp
    have nch : p.1 ∉ ch := fun z => (hch p.1 z).2.2.2 p hp rfl
    exact ⟨keep p.1 p.2 ne nf nch e n, free p.1 p.2 nch e n, ne, nf, d⟩
theorem Inv.un {t' : Nat} (I : Inv X pins σ H s) (u : Un X.fs [] H H' s.heap h') (hok : HOk X.prog X.w H' h') : Inv X pins σ H' { s with heap := h', toks := t' } := by
  obtain ⟨m, ⟨o, es, ep, ho, r⟩, _⟩ := id I.loc
  obtain ⟨sl, hL⟩ := u.any ho I.free (by simp)
  exact I.step (g' := s.gens) (d' := s.drawn) (ch := []) (fun _ z => nomatch z) (fun b o _ hb _ e n => u.keep b o e n hb (by simp)) (fun b o _ hb _ e n => u.slot b o e n hb (by simp)) (fun b o _ e n => u.free b o e n (by simp)) (fun b o _ e => u.there b o e (by simp)) u.tups u.frzs u.tbls (fun m' hm => by
    obtain ⟨o', es', ep', ho', r'⟩ := hm
    rw [ho] at ho'; cases ho'
    exact ⟨_, es', ep', hL, r'⟩) hok I.bare
theorem Inv.call {g' : Array GenState} {t' : Nat} {d' : Drawn} {ch : List Addr} (I : Inv X pins σ H s) (u : Un (frs X.stack) ch H H' s.heap h') (hok : HOk X.prog X.w H' h') (hg : AllBare g')
    (hch : ∀ b ∈ ch, (b ∈ X.ex ∨ X.s₀.heap.objs.size ≤ b) ∧ b ≠ X.env.locals ∧ (∀ x c, X.env.cells.lookup x = some c → c ≠ b) ∧ ∀ p ∈ X.pn ++ pins, p.1 ≠ b) :
    Inv X pins σ H' { s with heap := h', gens := g', drawn := d', toks := t' } := by
  obtain ⟨m, ⟨o, es, ep, ho, r⟩, _⟩ := id I.loc
  obtain ⟨sl, hL⟩ := u.any ho I.free fun z => (hch _ z).2.1 rfl
  exact I.step (ch := ch) hch (fun b o hL hb hc e n => u.keep b o e n (fun z => (List.mem_cons.mp (I.stkSub b z)).elim hL hb) hc) (fun b o _ _ hc e n => u.any e n hc) (fun b o hc e n => u.free b o e n hc) (fun b o hc e => u.there b o e hc) u.tups u.frzs u.tbls (fun m' hm => by
    obtain ⟨o', es', ep', ho', r'⟩ := hm
    rw [ho] at ho'; cases ho'
    exact ⟨_, es', ep', hL, r'⟩) hok hg
theorem Inv.turned {t' : Nat} {it : Addr} (I : Inv X pins σ H s) (k : ∀ b o, b ≠ it → s.heap.get? b = some o → h'.get? b = some o) (hn : H it = none) (hL : it ≠ X.env.locals)
    (h1 : it ∈ X.ex ∨ X.s₀.heap.objs.size ≤ it) (h2 : ∀ x c, X.env.cells.lookup x = some c → c ≠ it) (h3 : ∀ p ∈ X.pn ++ pins, p.1 ≠ it) : Inv X pins σ H { s with heap := h', toks := t' } := by
  have nit : ∀ b u, H b = some u → b ≠ it := fun b u e z => by rw [z, hn] at e; cases e
  refine I.step (g' := s.gens) (d' := s.drawn) (ch := [it]) (fun b hb => ?_) (fun b o _ _ hc e _ => k b o (fun z => hc (by simp [z])) e) (fun b o _ _ hc e _ => ⟨o.slots, k b o (fun z => hc (by simp [z])) e⟩) (fun _ _ _ _ n => n)
    (fun b o hc e => ⟨o, k b o (fun z => hc (by simp [z])) e⟩) (fun _ _ e => e) (fun _ _ _ e => e) (fun b ps e => ⟨#[], by rw [e]; simp⟩) (fun m hm => ?_) (fun b u e => ?_) I.bare
  · have e : b = it := by simpa using hb
    subst e
    exact ⟨h1, hL, h2, h3⟩
  · obtain ⟨o, es, ep, ho, r⟩ := hm
    exact ⟨o, es, ep, k _ o (Ne.symm hL) ho, r⟩
  · refine (I.hok b u e).stay (fun c v hc q => k c v ?_ q) (fun _ q => q) fun _ _ q => q
    rcases hc with z | z
    · rw [z]; exact nit b u e
    · exact nit c _ z
theorem Inv.tok (I : Inv X pins σ H s) (t : Nat) : Inv X pins σ H { s with toks := t } := I.un (h' := s.heap) (t' := t) Un.refl I.hok
theorem Inv.kept {t' : Nat} (I : Inv X pins σ H s) (k : ∀ b u, s.heap.get? b = some u → h'.get? b = some u) : Inv X pins σ H { s with heap := h', toks := t' } := I.un (Un.kept k) (I.hok.kept k)
theorem Inv.laid {a : Addr} {o : HO} {t' : Nat} (I : Inv X pins σ H s) (k : ∀ b u, s.heap.get? b = some u → h'.get? b = some u) (hp : s.heap.objs.size ≤ a) (new : ObjOk X.prog X.w (upd H a o) h' a o) :
    Inv X pins σ (upd H a o) { s with heap := h', toks := t' } := I.un (Un.laid k hp (I.hok.fresh hp)) (I.hok.laid k hp new)
theorem Inv.write {x e : Addr} {o : HO} {t' : Nat} (I : Inv X pins σ H s) (mu : Mut (H x)) (he : e = x ∨ H e = some (.own x)) (k : ∀ b u, b ≠ e → s.heap.get? b = some u → h'.get? b = some u) (heo : ∃ u, h'.get? e = some u)
    (new : ObjOk X.prog X.w (upd H x o) h' x o) : Inv X pins σ (upd H x o) { s with heap := h', toks := t' } := I.un (Un.write mu he k heo) (I.hok.write mu he k heo new)
theorem Inv.weak {σ' : List (Option V)} (I : Inv X pins σ H s) (hl : σ'.length = σ.length) (w : ∀ (i : Nat) v, σ'[i]? = some (some v) → σ[i]? = some (some v)) : Inv X pins σ' H s :=
  ⟨I.ok, I.os, I.bare, I.base, let ⟨m, hn, hl'⟩ := I.loc; ⟨m, hn, fun i x v e1 e2 e3 => hl' i x v e1 (w i v e2) e3⟩, I.cell, I.free, I.freeC, I.pin, I.hok, hl.trans I.len⟩
theorem Inv.pins_of {pins' : List (Addr × Obj)} (I : Inv X pins σ H s) (h : ∀ p ∈ pins', s.heap.get? p.1 = some p.2 ∧ H p.1 = none ∧ p.1 ≠ X.env.locals ∧ p.1 ∉ X.fs ∧ ∀ v, p.2.data ≠ .cell v) : Inv X pins' σ H s :=
  ⟨I.ok, I.os, I.bare, I.base, I.loc, I.cell, I.free, I.freeC, fun p hp => (List.mem_append.mp hp).elim (fun z => I.pin p (List.mem_append_left _ z)) (h p), I.hok, I.len⟩
theorem nodup_ix {N : List Str} (hN : N.Nodup) {i j : Nat} {x : Str} (a : N[i]? = some x) (b : N[j]? = some x) : i = j := by
  obtain ⟨h1, e1⟩ := List.getElem?_eq_some_iff.mp a
  obtain ⟨h2, e2⟩ := List.getElem?_eq_some_iff.mp b
  exact (List.getElem_inj hN).mp (e1.trans e2.symm)
theorem store_ok2 {M : Model} {A : Around} {E : Value → Shared → Prop} {i : Nat} {x : Str} {v : V} {u : Value} {Q : Unit → Shared → Prop} (I : Inv X pins σ H s) (hN : X.N.Nodup) (hi : X.N[i]? = some x) (hx : Loc X.env.scope x) (r : RelV v u)
    (h : ∀ s', Inv X pins (σ.set i (some v)) H s' → (∃ a, Heap.SameBut a s.heap s'.heap ∧ (a = X.env.locals ∨ X.env.cells.lookup x = some a)) → Q () s') (hf : X.fn x = true ∨ X.env.scope.names.lookup x = some .local := by first | exact .inl rfl | exact .inr rfl | assumption) : wpAny M A (storeName X.env x u) Q E s := by
  obtain ⟨m, hn, hl⟩ := id I.loc
  have hcls : (X.env.scope.kind == .class || (X.env.scope.kind == .module && X.env.locals != X.env.globals)) = false := by rw [I.ok.kind]; rfl
  have hiσ : i < σ.length := by rw [I.len]; exact (List.getElem?_eq_some_iff.mp hi).1
  have cne := I.cne
  have tracked : ∀ {a : Addr} {h' : Heap}, (∃ o, s.heap.get? a = some o ∧ H a = none) → Heap.SameBut a s.heap h' → HOk X.prog X.w H h' := fun {a h'} ha hs b ob e => by
    obtain ⟨_, _, hfree⟩ := ha
    refine (I.hok b ob e).stay (fun c w' hc q => (hs.2 c ?_).trans q) (fun _ q => q) fun _ _ q => q
    rintro rfl
    rcases hc with rfl | hc
    · rw [hfree] at e; cases e
    · rw [hfree] at hc; cases hc
  rcases hx with hk | hk
  · refine wpAny_storeName_local hk hn (fun h' hn' hs => ?_) hcls
    obtain ⟨oL, _, _, hoL, _⟩ := id hn
    refine h _ ⟨I.ok, I.os, I.bare, ⟨fun b o e n hb hx => ?_, fun b o e n hb hx => ?_, I.base.free, fun b o e hx => ?_, I.base.tups, I.base.frzs, I.base.tbls⟩, ⟨_, hn', fun j y v' e1 e2 e3 => ?_⟩, fun y c e => ?_, I.free, I.freeC, fun p hp => ?_, tracked ⟨oL, hoL, I.free⟩ hs, by simpa using I.len⟩ ⟨_, hs, .inl rfl⟩
    · exact (hs.2 b (Nat.ne_of_lt (Nat.lt_of_lt_of_le (Heap.lt_size e) I.ok.above))).trans (I.base.keep b o e n hb hx)
    · obtain ⟨sl, e1⟩ := I.base.slot b o e n hb hx
      exact ⟨sl, (hs.2 b (Nat.ne_of_lt (Nat.lt_of_lt_of_le (Heap.lt_size e) I.ok.above))).trans e1⟩
    · obtain ⟨o', e1⟩ := I.base.there b o e hx
      exact ⟨o', (hs.2 b (Nat.ne_of_lt (Nat.lt_of_lt_of_le (Heap.lt_size e) I.ok.above))).trans e1⟩
    · by_cases hj : j = i
      · subst hj
        rw [hi] at e1; cases e1
        rw [List.getElem?_set_self hiσ] at e2
        cases e2
        exact ⟨u, r, .inl ⟨hk, by simp⟩⟩
      · rw [List.getElem?_set_ne (Ne.symm hj)] at e2
        obtain ⟨u', r', q⟩ := hl j y v' e1 e2 e3
        refine ⟨u', r', ?_⟩
        rcases q with ⟨k, e⟩ | ⟨k, c, e, z⟩
        · refine .inl ⟨k, ?_⟩
          have : y ≠ x := fun e => hj (nodup_ix hN e1 (e ▸ hi))
          simp [this, e]
        · exact .inr ⟨k, c, e, z.sameBut hs (cne y c e)⟩
    · obtain ⟨w', z⟩ := I.cell y c e
      exact ⟨w', z.sameBut hs (cne y c e)⟩
    · obtain ⟨e, n, ne, nf, d⟩ := I.pin p hp
      exact ⟨(hs.2 p.1 ne).trans e, n, ne, nf, d⟩
  · have hfn : X.fn x = true := by
      rcases hf with z | z
      · exact z
      · rw [z] at hk; cases hk
    obtain ⟨c, hc⟩ := I.ok.has x (.inl hk)
    obtain ⟨w', z⟩ := I.cell x c hc
    refine wpAny_storeName_cell I.ok.kind hk hc z (fun h' hc' hs => ?_)
    obtain ⟨oc, hoc, hocd⟩ := id z
    refine h { s with heap := h' } ⟨I.ok, I.os, I.bare, ⟨fun b o e n hb hx => ?_, fun b o e n hb hx => ?_, I.base.free, fun b o e hx => ?_, I.base.tups, I.base.frzs, I.base.tbls⟩, ⟨m, hn.sameBut hs (Ne.symm (cne x c hc)), fun j y v' e1 e2 e3 => ?_⟩, fun y c' e => ?_, I.free, I.freeC, fun p hp => ?_, tracked ⟨oc, hoc, I.freeC x c hc⟩ hs, by simpa using I.len⟩ ⟨c, hs, .inr hc⟩
    · exact (hs.2 b (Nat.ne_of_lt (Nat.lt_of_lt_of_le (Heap.lt_size e) (I.ok.cab x c hfn hc)))).trans (I.base.keep b o e n hb hx)
    · obtain ⟨sl, e1⟩ := I.base.slot b o e n hb hx
      exact ⟨sl, (hs.2 b (Nat.ne_of_lt (Nat.lt_of_lt_of_le (Heap.lt_size e) (I.ok.cab x c hfn hc)))).trans e1⟩
    · obtain ⟨o', e1⟩ := I.base.there b o e hx
      exact ⟨o', (hs.2 b (Nat.ne_of_lt (Nat.lt_of_lt_of_le (Heap.lt_size e) (I.ok.cab x c hfn hc)))).trans e1⟩
    · by_cases hj : j = i
      · subst hj
        rw [hi] at e1; cases e1
        rw [List.getElem?_set_self hiσ] at e2
        cases e2
        exact ⟨u, r, .inr ⟨.inl hk, c, hc, hc'⟩⟩
      · rw [List.getElem?_set_ne (Ne.symm hj)] at e2
        obtain ⟨u', r', q⟩ := hl j y v' e1 e2 e3
        refine ⟨u', r', ?_⟩
        rcases q with q | ⟨k, c', e, z'⟩
        · exact .inl q
        · refine .inr ⟨k, c', e, z'.sameBut hs ?_⟩
          rintro rfl
          exact hj (nodup_ix hN e1 (I.ok.inj _ _ _ e hc ▸ hi))
    · by_cases hcc : c' = c
      · subst hcc; exact ⟨_, hc'⟩
      · obtain ⟨w2, z2⟩ := I.cell y c' e
        exact ⟨w2, z2.sameBut hs hcc⟩
    · obtain ⟨e, n, ne, nf, d⟩ := I.pin p hp
      refine ⟨(hs.2 p.1 ?_).trans e, n, ne, nf, d⟩
      intro q
      rw [q, hoc] at e
      have q' : oc = p.2 := Option.some.inj e
      exact d w' (by rw [← q']; exact hocd)
theorem store_ok {M : Model} {A : Around} {E : Value → Shared → Prop} {i : Nat} {x : Str} {v : V} {u : Value} {Q : Unit → Shared → Prop} (I : Inv X pins σ H s) (hN : X.N.Nodup) (hi : X.N[i]? = some x) (hx : Loc X.env.scope x) (r : RelV v u)
    (h : ∀ s', Inv X pins (σ.set i (some v)) H s' → Q () s') (hf : X.fn x = true ∨ X.env.scope.names.lookup x = some .local := by first | exact .inl rfl | exact .inr rfl | assumption) : wpAny M A (storeName X.env x u) Q E s :=
  store_ok2 I hN hi hx r (fun s' I' _ => h s' I') hf
theorem Inv.call' {s' : Shared} {ch : List Addr} (I : Inv X pins σ H s) (ho : s'.os = s.os) (u : Un (frs X.stack) ch H H' s.heap s'.heap) (hok : HOk X.prog X.w H' s'.heap) (hg : AllBare s'.gens)
    (hch : ∀ b ∈ ch, (b ∈ X.ex ∨ X.s₀.heap.objs.size ≤ b) ∧ b ≠ X.env.locals ∧ (∀ x c, X.env.cells.lookup x = some c → c ≠ b) ∧ ∀ p ∈ X.pn ++ pins, p.1 ≠ b) : Inv X pins σ H' s' := by
  obtain ⟨h', g', d', t', o'⟩ := s'
  have e : o' = s.os := ho
  subst e
  exact I.call (g' := g') (t' := t') (d' := d') u hok hg hch
end
abbrev XK := Value → Option Addr → Hp → Prop
abbrev St := List (Option V)
abbrev VK := V → Hp → Prop
abbrev TE := St → Hp → VK → Prop
abbrev TT := St → Hp → (Bool → Hp → Prop) → Prop
abbrev TA := St → Hp → (List V → Hp → Prop) → Prop
structure Ends where
  nx : St → Hp → Prop
  rt : VK
  bk : St → Hp → Prop := fun _ _ => False
  ct : St → Hp → Prop := fun _ _ => False
abbrev TS := Ends → St → Hp → Prop
def EP (X : Cx) (pins : List (Addr × Obj)) (σ : St) (Q : VK) (u : Value) (s' : Shared) : Prop := ∃ v H', Inv X pins σ H' s' ∧ RelV v u ∧ Q v H'
def TP (X : Cx) (pins : List (Addr × Obj)) (σ : St) (Q : Bool → Hp → Prop) (b : Bool) (s' : Shared) : Prop := ∃ H', Inv X pins σ H' s' ∧ Q b H'
def AP (X : Cx) (pins : List (Addr × Obj)) (σ : St) (Q : List V → Hp → Prop) (us : List Value) (s' : Shared) : Prop := ∃ vs H', Inv X pins σ H' s' ∧ Vals vs us ∧ Q vs H'
def SP (X : Cx) (pins : List (Addr × Obj)) (D : Ends) (f : Flow) (s' : Shared) : Prop :=
  match f with
  | .next => ∃ σ' H', Inv X pins σ' H' s' ∧ D.nx σ' H'
  | .brk => ∃ σ' H', Inv X pins σ' H' s' ∧ D.bk σ' H'
  | .cont => ∃ σ' H', Inv X pins σ' H' s' ∧ D.ct σ' H'
  | .ret u => ∃ v σ' H', Inv X pins σ' H' s' ∧ RelV v u ∧ D.rt v H'
def PE (X : Cx) (e : Expr) (t : TE) : Prop :=
  ∀ (pins : List (Addr × Obj)) (s : Shared) (σ : St) (H : Hp) (Q : VK), Inv X pins σ H s → t σ H Q → wpAny (model X.prog X.w) X.A (eval e X.env) (EP X pins σ Q) X.xe s
def PT (X : Cx) (e : Expr) (t : TT) : Prop :=
  ∀ (pins : List (Addr × Obj)) (s : Shared) (σ : St) (H : Hp) (Q : Bool → Hp → Prop), Inv X pins σ H s → t σ H Q → wpAny (model X.prog X.w) X.A (isTrue e X.env (eval e X.env)) (TP X pins σ Q) X.xe s
def PW (X : Cx) (e : Expr) (t : TT) : Prop :=
  ∀ (whole : Sem Value) (pins : List (Addr × Obj)) (s : Shared) (σ : St) (H : Hp) (Q : Bool → Hp → Prop), Inv X pins σ H s → t σ H Q → wpAny (model X.prog X.w) X.A (isTrue e X.env whole) (TP X pins σ Q) X.xe s
theorem PW.pt {X : Cx} {e : Expr} {t : TT} (h : PW X e t) : PT X e t := h _
def PA (X : Cx) (es : List Expr) (t : TA) : Prop :=
  ∀ (pos : Pos) (pins : List (Addr × Obj)) (s : Shared) (σ : St) (H : Hp) (Q : List V → Hp → Prop), Inv X pins σ H s → t σ H Q → wpAny (model X.prog X.w) X.A (spliced (backTo pos (starEach es X.env))) (AP X pins σ Q) X.xe s
def PS (X : Cx) (st : Stmt) (t : TS) : Prop :=
  ∀ (pins : List (Addr × Obj)) (s : Shared) (σ : St) (H : Hp) (D : Ends), Inv X pins σ H s → t D σ H → wpAny (model X.prog X.w) X.A (exec st X.env) (SP X pins D) X.xe s
def PSs (X : Cx) (st : List Stmt) (t : TS) : Prop :=
  ∀ (pins : List (Addr × Obj)) (s : Shared) (σ : St) (H : Hp) (D : Ends), Inv X pins σ H s → t D σ H → wpAny (model X.prog X.w) X.A (execs st X.env) (SP X pins D) X.xe s
theorem thn {α : Type} {t : Sem α} {Q Q' : α → Shared → Prop} {M : Model} {A : Around} {E : Value → Shared → Prop} {s : Shared} (h : wpAny M A t Q E s) (hQ : ∀ a s, Q a s → Q' a s) : wpAny M A t Q' E s := wpAny_mono h hQ fun _ _ x => x
end L2
namespace L2
open PySem PySem.Spec PyProof.Rows
section
variable {X : Cx}
def tVar (i : Nat) : TE := fun σ H Q => ∃ v, σ[i]? = some (some v) ∧ Q v H
def tC (v : V) : TE := fun _ H Q => Q v H
theorem pe_var {i : Nat} {x : Str} {pos : Pos} (hN : X.N[i]? = some x) (hv : Vis X.env.scope x) (hd : (x == ("__debug__" : Str)) = false := by decide) (hcd : (x == ("__classdict__" : Str)) = false := by decide) : PE X (.Name x pos) (tVar i) := by
  intro pins s σ H Q I h
  obtain ⟨v, e, h⟩ := h
  obtain ⟨m, hn, hl⟩ := I.loc
  obtain ⟨u, r, l⟩ := hl i x v hN e hv
  have fin : EP X pins σ Q u s := ⟨v, H, I, r, h⟩
  rcases l with ⟨hk, hm⟩ | ⟨hk, c, hc, hcell⟩
  · exact wpAny_Name (wpAny_loadName_local I.ok.kind hk hn hm fin) hd
  · rcases hk with hk | hk
    · exact wpAny_Name (wpAny_loadName_cell I.ok.kind hk hc hcell fin) hd
    · exact wpAny_Name (wpAny_loadName_free I.ok.kind hk hc hcell fin hcd) hd
theorem pe_int {i j pos} : PE X (.Constant (.int i) j pos) (tC (.int i)) := fun _ _ _ H _ I h => wpAny_Constant_int ⟨.int i, H, I.tok _, ⟨_, rfl⟩, h⟩
theorem pe_bl {b j pos} : PE X (.Constant (.bool b) j pos) (tC (.bl b)) := fun _ _ _ H _ I h => Constant_bool ⟨.bl b, H, I, rfl, h⟩
theorem pe_non {j pos} : PE X (.Constant .none j pos) (tC .non) := fun _ _ _ H _ I h => Constant_none ⟨.non, H, I, rfl, h⟩
theorem pe_str {x j pos} : PE X (.Constant (.str x) j pos) (tC (.str x)) := fun _ _ _ H _ I h => Calls.Constant_str ⟨.str x, H, I.tok _, ⟨_, rfl⟩, h⟩
def Gl (X : Cx) (x : Str) : Prop := X.env.kindOf x = some .globalImplicit
theorem ld_glob {E : Value → Shared → Prop} {pins : List (Addr × Obj)} {s : Shared} {σ : St} {H : Hp} {x : Str} {u : Value} {pos : Pos} {Q : Value → Shared → Prop} (I : Inv X pins σ H s) (hg : Gl X x) (hm : X.mg x = some u) (h : Q u s)
    (hd : (x == ("__debug__" : Str)) = false := by decide) : wpAny (model X.prog X.w) X.A (eval (.Name x pos) X.env) Q E s :=
  Calls.Name_function_global I.ok.kind hg (Calls.loadGlobal_global (by rw [I.ok.glob]; exact I.mod.glob.keeps I.bk) hm h) hd
theorem ld_blt {E : Value → Shared → Prop} {pins : List (Addr × Obj)} {s : Shared} {σ : St} {H : Hp} {x : Str} {u : Value} {pos : Pos} {Q : Value → Shared → Prop} (I : Inv X pins σ H s) (hg : Gl X x) (hm : X.mg x = none) (hv : bootBuiltins x = some u) (h : Q u s)
    (hn : x ≠ "__name__" := by decide) (hd : (x == ("__debug__" : Str)) = false := by decide) : wpAny (model X.prog X.w) X.A (eval (.Name x pos) X.env) Q E s := by
  obtain ⟨mb, h1, h2⟩ := I.mod.blt
  exact Calls.Name_function_global I.ok.kind hg (Calls.loadGlobal_builtin (by rw [I.ok.glob]; exact I.mod.glob.keeps I.bk) hm (by rw [I.ok.blt]; exact h1.keeps I.bk) ((h2 x hn).trans hv) h) hd
theorem pe_bltn {x : Str} {v : V} {u : Value} {pos : Pos} (hg : Gl X x) (hm : X.mg x = none) (hv : bootBuiltins x = some u) (r : RelV v u) (hn : x ≠ "__name__" := by decide) (hd : (x == ("__debug__" : Str)) = false := by decide) : PE X (.Name x pos) (tC v) :=
  fun _ _ _ H _ I h => ld_blt I hg hm hv ⟨v, H, I, r, h⟩ hn hd
variable {a b : Expr} {ta tb : TE} {pos : Pos}
def tB (t : TE) : TT := fun σ H Q => t σ H fun x H1 => ∃ c, x = .bl c ∧ Q c H1
variable {tA tB' : TT} {rest : List Expr}
def tAnd (t u : TT) : TT := fun σ H Q => t σ H fun c H1 => if c = true then u σ H1 Q else Q false H1
def tOr (t u : TT) : TT := fun σ H Q => t σ H fun c H1 => if c = true then Q true H1 else u σ H1 Q
def tNot (t : TT) : TT := fun σ H Q => t σ H fun c H1 => Q (!c) H1
theorem pw_and1 (ha : PT X a tA) : PW X (.BoolOp .And [a] pos) tA := by
  intro wh pins s σ H Q I h
  refine isTrue_and (thn (ha pins s σ H Q I h) fun c s1 e => ?_)
  cases c with
  | true => exact isTrue_and_nil e
  | false => exact e
theorem pw_or1 (ha : PT X a tA) : PW X (.BoolOp .Or [a] pos) tA := by
  intro wh pins s σ H Q I h
  refine isTrue_or (thn (ha pins s σ H Q I h) fun c s1 e => ?_)
  cases c with
  | false => exact isTrue_or_nil e
  | true => exact e
theorem pw_and (ha : PT X a tA) (hb : PW X (.BoolOp .And (b :: rest) pos) tB') : PW X (.BoolOp .And (a :: b :: rest) pos) (tAnd tA tB') := by
  intro wh pins s σ H Q I h
  refine isTrue_and (thn (ha pins s σ H _ I h) fun c s1 ⟨H1, I1, q1⟩ => ?_)
  cases c with
  | true => exact hb wh pins s1 σ H1 Q I1 q1
  | false => exact ⟨H1, I1, q1⟩
theorem pw_or (ha : PT X a tA) (hb : PW X (.BoolOp .Or (b :: rest) pos) tB') : PW X (.BoolOp .Or (a :: b :: rest) pos) (tOr tA tB') := by
  intro wh pins s σ H Q I h
  refine isTrue_or (thn (ha pins s σ H _ I h) fun c s1 ⟨H1, I1, q1⟩ => ?_)
  cases c with
  | true => exact ⟨H1, I1, q1⟩
  | false => exact hb wh pins s1 σ H1 Q I1 q1
theorem pt_not (ha : PT X a tA) : PT X (.UnaryOp .Not a pos) (tNot tA) := by
  intro pins s σ H Q I h
  exact isTrue_not (ha pins s σ H (fun c H1 => Q (!c) H1) I h)
def tAndV (ta tb : TE) : TE := fun σ H Q => ta σ H fun x H1 => ∃ c, x = .bl c ∧ if c = true then tb σ H1 Q else Q (.bl false) H1
def tNotV (ta : TE) : TE := fun σ H Q => ta σ H fun x H1 => ∃ c, x = .bl c ∧ Q (.bl (!c)) H1
theorem pe_one {op} {t : TE} (h : PE X a t) : PE X (.BoolOp op [a] pos) t := fun pins s σ H Q I hw => BoolOp_one (h pins s σ H Q I hw)
theorem pe_and (ha : PE X a ta) (hb : PE X (.BoolOp .And (b :: rest) pos) tb) : PE X (.BoolOp .And (a :: b :: rest) pos) (tAndV ta tb) := by
  intro pins s σ H Q I h
  refine BoolOp_and (thn (ha pins s σ H _ I h) fun v s1 ⟨x, H1, I1, r1, q1⟩ => ?_)
  obtain ⟨c, rfl, q1⟩ := q1
  cases r1
  refine wpAny_truthy_bool ?_
  cases c with
  | true => exact hb pins s1 σ H1 Q I1 q1
  | false => exact ⟨.bl false, H1, I1, rfl, q1⟩
theorem pe_not (ha : PE X a ta) : PE X (.UnaryOp .Not a pos) (tNotV ta) := by
  intro pins s σ H Q I h
  refine UnaryOp_ (thn (ha pins s σ H _ I h) fun v s1 ⟨x, H1, I1, r1, q1⟩ => ?_)
  obtain ⟨c, rfl, q1⟩ := q1
  cases r1
  exact not_of (wpAny_truthy_bool ⟨.bl (!c), H1, I1, rfl, q1⟩)
end
end L2
namespace L2
open PySem PySem.Spec PyProof.Rows
def SqL (K : PySem.W.Frag) (H : Hp) (a : Addr) (xs : List V) : Prop :=
  Rd H a (.lst xs) ∨
    ∃ (o : Obj) (its : Array Value) (n : Nat), K.lookup a = some o ∧ o.cls = .type "list" ∧ o.dict = none ∧ o.data = .seq its n ∧ its.size ≤ sizeLine ∧ Vals xs its.toList
def SqT (K : PySem.W.Frag) (H : Hp) (a : Addr) (xs : List V) : Prop :=
  Rd H a (.tup xs) ∨
    ∃ (o : Obj) (its : Array Value) (n : Nat), K.lookup a = some o ∧ o.cls = .type "tuple" ∧ o.data = .seq its n ∧ its.size ≤ sizeLine ∧ Vals xs its.toList
def absV : Value → Option V
  | .none => some .non
  | .bool b => some (.bl b)
  | .int i _ => some (.int i)
  | .str x _ => some (.str x)
  | .bytes b _ => some (.byt b)
  | .float b _ => some (.flt b)
  | .ref a => some (.ref a)
  | .type n => some (.ty n)
  | _ => none
theorem RelV.abs {x : V} {u : Value} (r : RelV x u) : absV u = some x := by
  cases x with
  | non => cases r; rfl
  | bl _ => cases r; rfl
  | int _ => obtain ⟨t, rfl⟩ := r; rfl
  | str _ => obtain ⟨t, rfl⟩ := r; rfl
  | byt _ => obtain ⟨t, rfl⟩ := r; rfl
  | flt _ => obtain ⟨t, rfl⟩ := r; rfl
  | ref _ => cases r; rfl
  | ty _ => cases r; rfl
theorem RelV.inj {x y : V} {u : Value} (r : RelV x u) (q : RelV y u) : x = y := Option.some.inj (r.abs.symm.trans q.abs)
theorem Vals.inj : ∀ {xs ys : List V} {us : List Value}, Vals xs us → Vals ys us → xs = ys
  | _, _, _, .nil, .nil => rfl
  | _, _, _, .cons r t, .cons r' t' => by rw [r.inj r', Vals.inj t t']
section
variable {X : Cx} {pins : List (Addr × Obj)} {σ : St} {H : Hp} {s : Shared} {a : Addr} {xs ys : List V}
theorem SqL.of {K : PySem.W.Frag} (h : H a = some (.lst xs)) : SqL K H a xs := .inl (.inl h)
theorem SqT.of {K : PySem.W.Frag} (h : H a = some (.tup xs)) : SqT K H a xs := .inl (.inl h)
theorem Inv.list (I : Inv X pins σ H s) (h : SqL X.K H a xs) : ∃ its : List Value, Vals xs its ∧ PlainL s.heap a its.toArray ∧ xs.length ≤ sizeLine := by
  rcases h with h | ⟨o, its, n, hk, hc, hd, hs, hz, r⟩
  · obtain ⟨z, its, n, r, e⟩ := h.ok I.hok
    exact ⟨its, r, ⟨_, n, e, rfl, rfl, rfl⟩, z⟩
  · refine ⟨its.toList, r, ⟨o, n, I.kIn a o hk, hc, hd, by simpa using hs⟩, ?_⟩
    have e := r.length
    simp only [Array.length_toList] at e
    omega
theorem Inv.tuple (I : Inv X pins σ H s) (h : SqT X.K H a xs) : ∃ its : List Value, Vals xs its ∧ IsTup s.heap a its.toArray ∧ xs.length ≤ sizeLine := by
  rcases h with h | ⟨o, its, n, hk, hc, hs, hz, r⟩
  · obtain ⟨z, its, r, p⟩ := h.ok I.hok
    exact ⟨its, r, p, z⟩
  · refine ⟨its.toList, r, ⟨o, I.kIn a o hk, hc, n, by simpa using hs⟩, ?_⟩
    have e := r.length
    simp only [Array.length_toList] at e
    omega
theorem Inv.list_inj (I : Inv X pins σ H s) (h : SqL X.K H a xs) (h' : SqL X.K H a ys) : xs = ys := by
  obtain ⟨its, r, ⟨o, n, e, _, _, d⟩, _⟩ := I.list h
  obtain ⟨its', r', ⟨o', n', e', _, _, d'⟩, _⟩ := I.list h'
  rw [e] at e'; cases e'
  rw [d] at d'
  injection d' with d1 _
  have : its = its' := by simpa using congrArg Array.toList d1
  subst this
  exact r.inj r'
theorem Inv.tuple_inj (I : Inv X pins σ H s) (h : SqT X.K H a xs) (h' : SqT X.K H a ys) : xs = ys := by
  obtain ⟨its, r, ⟨o, e, _, n, d⟩, _⟩ := I.tuple h
  obtain ⟨its', r', ⟨o', e', _, n', d'⟩, _⟩ := I.tuple h'
  rw [e] at e'; cases e'
  rw [d] at d'
  injection d' with d1 _
  have : its = its' := by simpa using congrArg Array.toList d1
  subst this
  exact r.inj r'
end
abbrev Cx.wish (X : Cx) (E : Value → Shared → Prop) : Cx := { X with xe := E }
abbrev Cx.nox (X : Cx) : Cx := X.wish fun _ _ => False
theorem Cx.Ok.wish {X : Cx} (ok : X.Ok) (E : Value → Shared → Prop) : (X.wish E).Ok :=
  ⟨ok.mod, ok.kind, ok.glob, ok.blt, ok.above, ok.inj, ok.has, ok.cab, ok.hd, ok.frames, ok.stk, ok.exf, ok.bs, ok.bsz, ok.noex, ok.exfs, ok.funs, ok.frf⟩
theorem Cx.Ok.unwish {X : Cx} {E : Value → Shared → Prop} (ok : (X.wish E).Ok) : X.Ok :=
  ⟨ok.mod, ok.kind, ok.glob, ok.blt, ok.above, ok.inj, ok.has, ok.cab, ok.hd, ok.frames, ok.stk, ok.exf, ok.bs, ok.bsz, ok.noex, ok.exfs, ok.funs, ok.frf⟩
section
variable {X : Cx} {pins : List (Addr × Obj)} {σ : St} {H : Hp} {s : Shared} {E : Value → Shared → Prop}
theorem Inv.wish (I : Inv X pins σ H s) (E : Value → Shared → Prop) : Inv (X.wish E) pins σ H s := ⟨I.ok.wish E, I.os, I.bare, I.base, I.loc, I.cell, I.free, I.freeC, I.pin, I.hok, I.len⟩
theorem Inv.unwish (I : Inv (X.wish E) pins σ H s) : Inv X pins σ H s := ⟨I.ok.unwish, I.os, I.bare, I.base, I.loc, I.cell, I.free, I.freeC, I.pin, I.hok, I.len⟩
theorem SP.unwish {D : Ends} {f : Flow} {s' : Shared} (h : SP (X.wish E) pins D f s') : SP X pins D f s' := by
  cases f with
  | next => obtain ⟨σ', H', I, q⟩ := h; exact ⟨σ', H', I.unwish, q⟩
  | brk => obtain ⟨σ', H', I, q⟩ := h; exact ⟨σ', H', I.unwish, q⟩
  | cont => obtain ⟨σ', H', I, q⟩ := h; exact ⟨σ', H', I.unwish, q⟩
  | ret u => obtain ⟨v, σ', H', I, r, q⟩ := h; exact ⟨v, σ', H', I.unwish, r, q⟩
theorem PE.nox {e : Expr} {t : TE} (h : PE X.nox e t) : PE X e t := fun pins s σ H Q I hw =>
  wpAny_mono (h pins s σ H Q (I.wish _) hw) (fun _ _ ⟨v, H', I', r, q⟩ => ⟨v, H', I'.unwish, r, q⟩) fun _ _ z => False.elim z
theorem PT.nox {e : Expr} {t : TT} (h : PT X.nox e t) : PT X e t := fun pins s σ H Q I hw =>
  wpAny_mono (h pins s σ H Q (I.wish _) hw) (fun _ _ ⟨H', I', q⟩ => ⟨H', I'.unwish, q⟩) fun _ _ z => False.elim z
theorem PSs.nox {st : List Stmt} {t : TS} (h : PSs X.nox st t) : PSs X st t := fun pins s σ H D I hw =>
  wpAny_mono (h pins s σ H D (I.wish _) hw) (fun _ _ q => q.unwish) fun _ _ z => False.elim z
end
section
variable {X : Cx} {st : Stmt} {rest : List Stmt} {t u : TS} {e : Expr} {te : TE} {pos : Pos}
def tNext : TS := fun D σ H => D.nx σ H
def tSeq (t u : TS) : TS := fun D σ H => t { D with nx := u D } σ H
theorem pss_nil : PSs X [] tNext := fun _ _ σ H _ I h => wpAny_execs_nil ⟨σ, H, I, h⟩
theorem pss_cons (h1 : PS X st t) (h2 : PSs X rest u) : PSs X (st :: rest) (tSeq t u) := by
  intro pins s σ H D I h
  refine wpAny_execs_cons (thn (h1 pins s σ H { D with nx := u D } I h) fun f s1 q => ?_)
  cases f with
  | next =>
    obtain ⟨σ', H', I', q⟩ := q
    exact h2 pins s1 σ' H' D I' q
  | ret v => exact q
  | brk => exact q
  | cont => exact q
theorem pss_one (h1 : PS X st t) : PSs X [st] t := by
  intro pins s σ H D I h
  refine wpAny_execs_cons (thn (h1 pins s σ H D I h) fun f s1 q => ?_)
  cases f with
  | next => exact wpAny_execs_nil q
  | ret v => exact q
  | brk => exact q
  | cont => exact q
theorem Inv.quiet {pins : List (Addr × Obj)} {σ : St} {H : Hp} {s : Shared} (I : Inv X pins σ H s) : interactive X.env = false := by simp [interactive, I.ok.kind]
def tDrop (te : TE) : TS := fun D σ H => te σ H fun _ H1 => D.nx σ H1
theorem ps_expr (he : PE X e te) (hs : swapsWith e none pos.line X.env = pure false := by rfl) : PS X (.Expr e pos) (tDrop te) := by
  intro pins s σ H D I h
  exact wpAny_Expr_any (thn (he pins s σ H _ I h) fun v s1 ⟨x, H1, I1, r1, q1⟩ => ⟨σ, H1, I1, q1⟩) I.quiet hs
def tRet (te : TE) : TS := fun D σ H => te σ H D.rt
theorem ps_ret (he : PE X e te) : PS X (.Return (some e) pos) (tRet te) := by
  intro pins s σ H D I h
  exact wpAny_Return_some (thn (he pins s σ H _ I h) fun v s1 ⟨x, H1, I1, r1, q1⟩ => ⟨x, σ, H1, I1, r1, q1⟩)
def tRetN : TS := fun D _ H => D.rt .non H
theorem ps_retN : PS X (.Return none pos) tRetN := fun _ _ σ H _ I h => wpAny_Return_none ⟨.non, σ, H, I, rfl, h⟩
def tIfS (c : TT) (t u : TS) : TS := fun D σ H => c σ H fun b H1 => if b = true then t D σ H1 else u D σ H1
theorem ps_if {c : Expr} {a b : List Stmt} {tc : TT} (hc : PT X c tc) (ha : PSs X a t) (hb : PSs X b u) : PS X (.If c a b pos) (tIfS tc t u) := by
  intro pins s σ H D I h
  refine wpAny_If (thn (hc pins s σ H _ I h) fun d s1 ⟨H1, I1, q1⟩ => ?_)
  cases d with
  | true => exact ha pins s1 σ H1 D I1 q1
  | false => exact hb pins s1 σ H1 D I1 q1
end
abbrev TG := V → St → Hp → (St → Hp → Prop) → Prop
abbrev TGs := List V → St → Hp → (St → Hp → Prop) → Prop
def PG (X : Cx) (target : Expr) (t : TG) : Prop :=
  ∀ (pins : List (Addr × Obj)) (s : Shared) (σ : St) (H : Hp) (v : V) (u : Value) (Q : St → Hp → Prop), Inv X pins σ H s → RelV v u → t v σ H Q →
    wpAny (model X.prog X.w) X.A (assign target X.env u) (fun _ s' => ∃ σ' H', Inv X pins σ' H' s' ∧ Q σ' H') X.xe s
def PGs (X : Cx) (ts : List Expr) (t : TGs) : Prop :=
  ∀ (pins : List (Addr × Obj)) (s : Shared) (σ : St) (H : Hp) (vs : List V) (us : List Value) (Q : St → Hp → Prop), Inv X pins σ H s → Vals vs us → t vs σ H Q →
    wpAny (model X.prog X.w) X.A (assignInOrder ((assignEach ts X.env).map (·.2)) us) (fun _ s' => ∃ σ' H', Inv X pins σ' H' s' ∧ Q σ' H') X.xe s
abbrev TSet := V → V → V → Hp → (Hp → Prop) → Prop
def PSet (X : Cx) (t : TSet) : Prop :=
  ∀ (pins : List (Addr × Obj)) (s : Shared) (σ : St) (H : Hp) (o i v : V) (ov iv u : Value) (Q : Hp → Prop), Inv X pins σ H s → RelV o ov → RelV i iv → RelV v u → t o i v H Q →
    wpAny (model X.prog X.w) X.A (setItem ov iv u) (fun _ s' => ∃ H', Inv X pins σ H' s' ∧ Q H') X.xe s
section
variable {X : Cx} {pos : Pos}
def gName (i : Nat) : TG := fun v σ H Q => Q (σ.set i (some v)) H
theorem pg_name {i : Nat} {x : Str} (hN : X.N.Nodup) (hi : X.N[i]? = some x) (hx : Loc X.env.scope x) (hf : X.fn x = true ∨ X.env.scope.names.lookup x = some .local := by first | exact .inl rfl | exact .inr rfl | assumption) : PG X (.Name x pos) (gName i) := by
  intro pins s σ H v u Q I r h
  exact wpAny_assign_Name (store_ok I hN hi hx r (fun s' I' => ⟨_, H, I', h⟩) hf)
def gNil : TGs := fun vs σ H Q => vs = [] ∧ Q σ H
def gCons (t : TG) (u : TGs) : TGs := fun vs σ H Q => ∃ v r, vs = v :: r ∧ t v σ H fun σ' H' => u r σ' H' Q
theorem pgs_nil : PGs X [] gNil := by
  intro pins s σ H vs us Q I r h
  obtain ⟨e, h⟩ := h
  subst e
  cases r
  exact assignInOrder_nil ⟨σ, H, I, h⟩
theorem pgs_cons {e : Expr} {es : List Expr} {t : TG} {u : TGs} (h1 : PG X e t) (h2 : PGs X es u)
    (hs : (assignEach (e :: es) X.env).map (·.2) = assign e X.env :: (assignEach es X.env).map (·.2) := by rfl) : PGs X (e :: es) (gCons t u) := by
  intro pins s σ H vs us Q I r h
  obtain ⟨v, vr, e1, h⟩ := h
  subst e1
  cases r with
  | cons r rr =>
    rw [hs]
    refine assignInOrder_cons (thn (h1 pins s σ H _ _ _ I r h) fun _ s1 ⟨σ1, H1, I1, q1⟩ => ?_)
    exact h2 pins s1 σ1 H1 _ _ Q I1 rr q1
def gTup (K : PySem.W.Frag) (n : Nat) (t : TGs) : TG := fun v σ H Q => ∃ a xs, v = .ref a ∧ SqT K H a xs ∧ xs.length = n ∧ t xs σ H Q
theorem pg_tup {es : List Expr} {k : Nat} {t : TGs} {n : Nat} (hc : X.calm = true) (h : PGs X es t)
    (hn : (assignEach es X.env).length = n := by rfl) (hst : (assignEach es X.env).findIdx? (·.1) = none := by rfl) : PG X (.Tuple es k pos) (gTup X.K n t) := by
  intro pins s σ H v u Q I r hw
  obtain ⟨a, xs, e1, hq, hl, hw⟩ := hw
  subst e1
  cases r
  obtain ⟨its, rv, ht, hz⟩ := I.tuple hq
  refine assign_Tuple_tuple (I.ok.hd hc) ht (by simp [hn, ← hl, rv.length]) hst fun h' hx => ?_
  have I1 : Inv X pins σ H { s with heap := h' } := I.kept (t' := s.toks) fun b o e => hx b o (Nat.ne_of_lt (Heap.lt_size e)) e
  exact h pins _ σ H xs _ Q I1 (by simpa using rv) hw
def gSub (to ti : TE) (t : TSet) : TG := fun v σ H Q => to σ H fun o H1 => ti σ H1 fun i H2 => t o i v H2 fun H3 => Q σ H3
theorem pg_sub {o i : Expr} {to ti : TE} {t : TSet} (ho : PE X o to) (hi : PE X i ti) (hs : PSet X t)
    (ha : ∀ v, assign (.Subscript o i pos) X.env v = (do
      let ov ← holding [v] (eval o X.env)
      let iv ← holding [v, ov] (eval i X.env)
      standAt pos
      holding [v, ov, iv] (setItem ov iv v)
      release [v, ov, iv] []) := by intro _; rfl) : PG X (.Subscript o i pos) (gSub to ti t) := by
  intro pins s σ H v u Q I r h
  rw [ha]
  refine wpAny_bind (wpAny_holding (thn (ho pins s σ H _ I h) fun ov s1 ⟨x, H1, I1, r1, q1⟩ => ?_))
  refine wpAny_bind (wpAny_holding (thn (hi pins s1 σ H1 _ I1 q1) fun iv s2 ⟨y, H2, I2, r2, q2⟩ => ?_))
  refine wpAny_bind (wpAny_standAt (wpAny_bind (wpAny_holding (thn (hs pins s2 σ H2 x y v ov iv u _ I2 r1 r2 r q2) fun _ s3 ⟨H3, I3, q3⟩ => ?_))))
  exact wpAny_release ⟨σ, H3, I3, q3⟩
def tAsg (te : TE) (g : TG) : TS := fun D σ H => te σ H fun x H1 => g x σ H1 D.nx
theorem ps_asg {tg e : Expr} {te : TE} {g : TG} (he : PE X e te) (hg : PG X tg g) (hs : swapsWithSole [tg] e pos.line X.env = pure false := by rfl) (hw : swappedStores [tg] e X.env = pure none := by rfl)
    (h1 : (assignEach [tg] X.env).map (·.2) = [assign tg X.env] := by rfl) : PS X (.Assign [tg] e pos) (tAsg te g) := by
  intro pins s σ H D I h
  refine wpAny_Assign_stores (thn (he pins s σ H _ I h) fun v s1 ⟨x, H1, I1, r1, q1⟩ => ?_) hs hw
  rw [h1]
  exact thn (hg pins s1 σ H1 x v _ I1 r1 q1) fun _ s2 q => q
theorem ps_set {i : Nat} {x : Str} {e : Expr} {te : TE} {pos' : Pos} (hN : X.N.Nodup) (hi : X.N[i]? = some x) (hx : Loc X.env.scope x) (he : PE X e te) (hs : swapsWith e (some (.Name x pos')) pos.line X.env = pure false := by rfl) (hf : X.fn x = true ∨ X.env.scope.names.lookup x = some .local := by first | exact .inl rfl | exact .inr rfl | assumption) :
    PS X (.Assign [.Name x pos'] e pos) (tAsg te (gName i)) := by
  intro pins s σ H D I h
  refine wpAny_Assign_Name (thn (he pins s σ H _ I h) fun v s1 ⟨y, H1, I1, r1, q1⟩ => ?_) hs
  exact store_ok I1 hN hi hx r1 (fun s2 I2 => ⟨_, H1, I2, q1⟩) hf
end
section
variable {X : Cx} {pos : Pos}
def tWhile (c : TT) (tb : TS) : TS := fun D σ H => ∃ W : Nat → St → Hp → Prop, (∃ m, W m σ H) ∧ ∀ m σ H, W m σ H →
  c σ H fun b H1 => if b = true then ∃ N : St → Hp → Prop, (∀ σ' H', N σ' H' → ∃ m', m' < m ∧ W m' σ' H') ∧ tb { D with nx := N, ct := N, bk := D.nx } σ H1 else D.nx σ H1
theorem ps_while {c : Expr} {body : List Stmt} {tc : TT} {tb : TS} (hp : PassesOwn (model X.prog X.w) X.A X.env X.xe) (hc : PT X c tc) (hb : PSs X body tb) : PS X (.While c body [] pos) (tWhile tc tb) := by
  intro pins s σ H D I h
  obtain ⟨W, ⟨m0, w0⟩, turn⟩ := h
  refine wpAny_While (codeAny_whileLoop (fun n s' => ∃ σ' H', Inv X pins σ' H' s' ∧ W n σ' H') ?_ m0 ⟨σ, H, I, w0⟩)
  rintro n s1 ⟨σ1, H1, I1, w1⟩
  refine wpAny_passesOwn hp (thn (hc pins s1 σ1 H1 _ I1 (turn n σ1 H1 w1)) fun b s2 ⟨H2, I2, q2⟩ => ?_)
  cases b with
  | true =>
    obtain ⟨N, hN, q2⟩ := q2
    rw [if_pos rfl]
    refine wpAny_passesOwn hp (thn (hb pins s2 σ1 H2 _ I2 q2) fun f s3 q3 => ?_)
    cases f with
    | next =>
      obtain ⟨σ3, H3, I3, n3⟩ := q3
      obtain ⟨m', hm, w3⟩ := hN σ3 H3 n3
      exact ⟨m', hm, σ3, H3, I3, w3⟩
    | cont =>
      obtain ⟨σ3, H3, I3, n3⟩ := q3
      obtain ⟨m', hm, w3⟩ := hN σ3 H3 n3
      exact ⟨m', hm, σ3, H3, I3, w3⟩
    | brk => exact q3
    | ret v => exact q3
  | false =>
    rw [if_neg Bool.false_ne_true]
    exact wpAny_execs_nil ⟨σ1, H2, I2, q2⟩
end
structure It where
  go : Nat → Hp → Prop
  yld : Nat → Hp → V → Hp → Prop
  stop : Nat → Hp → Prop
def FpOk (X : Cx) (pins : List (Addr × Obj)) (H : Hp) (b : Addr) : Prop :=
  H b = none ∧ b ≠ X.env.locals ∧ b ∉ X.fs ∧ (b ∈ X.ex ∨ X.s₀.heap.objs.size ≤ b) ∧ (∀ x c, X.env.cells.lookup x = some c → c ≠ b) ∧ ∀ p ∈ X.pn ++ pins, p.1 ≠ b
theorem Inv.fpOk {X : Cx} {pins : List (Addr × Obj)} {σ : St} {H H' : Hp} {s : Shared} {b : Addr} (I : Inv X pins σ H s) (hb : s.heap.objs.size ≤ b) (hn : H' b = none) : FpOk X pins H' b := by
  refine ⟨hn, Nat.ne_of_gt (Nat.lt_of_lt_of_le I.lt hb), I.nofs hb, .inr (Nat.le_trans I.sz hb), fun x c e z => ?_, fun p hp z => ?_⟩
  · obtain ⟨v, q⟩ := I.cell x c e
    exact absurd (Nat.lt_of_lt_of_le q.lt (by rw [z]; exact hb)) (Nat.lt_irrefl _)
  · exact absurd (Nat.lt_of_lt_of_le (Heap.lt_size (I.pin p hp).1) (by rw [z]; exact hb)) (Nat.lt_irrefl _)
structure Turn (P : Program) (w : World) (K : PySem.W.Frag) (tg : Expr) (J : It) (fp : List Addr) (it : Addr) (tn : Nat → Heap → Prop) : Prop where
  mem : it ∈ fp
  obj : ∀ i h, tn i h → ∀ b ∈ fp, ∃ o, h.get? b = some o ∧ ∀ v, o.data ≠ .cell v
  keep : ∀ i h h', tn i h → (∀ b ∈ fp, ∀ o, h.get? b = some o → h'.get? b = some o) → tn i h'
  item : ∀ (X : Cx), X.prog = P → X.w = w → X.K = K → X.calm = true → ∀ (i : Nat) (pins : List (Addr × Obj)) (s : Shared) (σ : St) (H : Hp) (E : Value → Shared → Prop), Inv X pins σ H s → (∀ b ∈ fp, FpOk X pins H b) → tn i s.heap → J.go i H →
    wpAny (model P w) X.A (pyNext (.ref it)) (fun r s1 => ∃ u, r = some u ∧
      wpAny (model P w) X.A (letOwnedTupleGo tg (.ref it) u) (fun _ s2 => ∃ x H', Inv X pins σ H' s2 ∧ RelV x u ∧ J.yld i H x H' ∧ tn (i + 1) s2.heap ∧ ∀ b ∈ fp, H' b = none) E s1) E s
  done : ∀ (X : Cx), X.prog = P → X.w = w → X.K = K → X.calm = true → ∀ (i : Nat) (pins : List (Addr × Obj)) (s : Shared) (σ : St) (H : Hp) (E : Value → Shared → Prop), Inv X pins σ H s → (∀ b ∈ fp, FpOk X pins H b) → tn i s.heap → J.stop i H →
    wpAny (model P w) X.A (pyNext (.ref it)) (fun r s1 => r = none ∧ Inv X pins σ H s1) E s
  self : ∀ (A : Around) (i : Nat) (s : Shared) (Q : Value → Shared → Prop) (E : Value → Shared → Prop), tn i s.heap → Q (.ref it) s → wpAny (model P w) A (pyIter (.ref it)) Q E s
abbrev TI := St → Hp → (It → Hp → Prop) → Prop
def PIE (X : Cx) (pins : List (Addr × Obj)) (σ : St) (tg : Expr) (R : It → Hp → Prop) (itv : Value) (s2 : Shared) : Prop :=
  ∃ (it : Addr) (fp : List Addr) (tn : Nat → Heap → Prop) (J : It) (H' : Hp), itv = .ref it ∧ Inv X pins σ H' s2 ∧ Turn X.prog X.w X.K tg J fp it tn ∧ tn 0 s2.heap ∧ (∀ b ∈ fp, FpOk X pins H' b) ∧ R J H'
def PI (X : Cx) (tg iter : Expr) (wi : TI) : Prop :=
  ∀ (pins : List (Addr × Obj)) (s : Shared) (σ : St) (H : Hp) (R : It → Hp → Prop), Inv X pins σ H s → wi σ H R →
    wpAny (model X.prog X.w) X.A (eval iter X.env) (fun v s1 => wpAny (model X.prog X.w) X.A (pyIter v) (PIE X pins σ tg R) X.xe s1) X.xe s
theorem go_of {M : Model} {A : Around} {E : Value → Shared → Prop} {s : Shared} {tg : Expr} {it : Addr} {u : Value} {o : Obj} {n : String} {vs : Array Value} {Q : Unit → Shared → Prop} (ho : s.heap.get? it = some o) (hc : o.cls = .type n) (hd : o.data = .fields vs)
    (hn : ["enumerate", "zip", "dict_itemiterator", "dict_reverseitemiterator", "odict_iterator", "itertools.zip_longest", "itertools.pairwise"].contains n = false) (hQ : Q () s) : wpAny M A (letOwnedTupleGo tg (.ref it) u) Q E s := by
  unfold letOwnedTupleGo
  cases tg <;> first
    | exact wpAny_pure hQ
    | (cases u <;> first
        | exact wpAny_pure hQ
        | (refine wpAny_bind (wpAny_load ho ?_)
           rw [hc, hd]
           show wpAny M A (if (["enumerate", "zip", "dict_itemiterator", "dict_reverseitemiterator", "odict_iterator", "itertools.zip_longest", "itertools.pairwise"].contains n && vs[0]? == some (rawInt _)) = true then _ else _) Q E s
           rw [if_neg (by intro h; rw [hn, Bool.false_and] at h; cases h)]
           exact wpAny_pure hQ))
def Itl (K : PySem.W.Frag) (a : Addr) : It :=
  ⟨fun i H => ∃ xs x, SqL K H a xs ∧ xs[i]? = some x, fun i H x H' => H' = H ∧ ∀ xs, SqL K H a xs → xs[i]? = some x, fun i H => ∃ xs, SqL K H a xs ∧ xs.length ≤ i⟩
def Itt (K : PySem.W.Frag) (a : Addr) : It :=
  ⟨fun i H => ∃ xs x, SqT K H a xs ∧ xs[i]? = some x, fun i H x H' => H' = H ∧ ∀ xs, SqT K H a xs → xs[i]? = some x, fun i H => ∃ xs, SqT K H a xs ∧ xs.length ≤ i⟩
def Itr (lo : Int) (n : Nat) : It := ⟨fun i _ => i < n, fun i H x H' => H' = H ∧ x = .int (lo + i), fun i _ => n ≤ i⟩
theorem turn_list {P : Program} {w : World} {K : PySem.W.Frag} {tg : Expr} (a it : Addr) : Turn P w K tg (Itl K a) [it] it (fun i h => h.IsListIter it a i) where
  mem := by simp
  obj := fun i h st b hb => by
    have e : b = it := by simpa using hb
    subst e
    obtain ⟨o, e, c, d⟩ := st
    exact ⟨o, e, fun v z => by rw [d] at z; cases z⟩
  keep := fun i h h' st k => st.at fun o e => k it (by simp) o e
  item := by
    intro X hP hw hK hc i pins s σ H E I hf st hg
    subst hP hw hK
    obtain ⟨xs, x, hq, hx⟩ := hg
    obtain ⟨its, rv, p, hz⟩ := I.list hq
    obtain ⟨u, hu, ru⟩ := rv.get hx
    obtain ⟨f0, f1, f2, f3, f4, f5⟩ := hf it (by simp)
    refine wpAny_pyNext_list_item st p.isList (x := u) (by simpa using hu) fun h' st' sb => ?_
    have I1 : Inv X pins σ H { s with heap := h' } := I.turned (t' := s.toks) (fun b o hb e => (sb.2 b hb).trans e) f0 f1 f3 f4 f5
    obtain ⟨o, e, c, d⟩ := id st'
    exact ⟨u, rfl, go_of (s := { s with heap := h' }) e c d (by decide) ⟨x, H, I1, ru, ⟨rfl, fun ys hy => by rw [I.list_inj hy hq]; exact hx⟩, st', fun b hb => (hf b hb).1⟩⟩
  done := by
    intro X hP hw hK hc i pins s σ H E I hf st hg
    subst hP hw hK
    obtain ⟨xs, hq, hx⟩ := hg
    obtain ⟨its, rv, p, hz⟩ := I.list hq
    obtain ⟨f0, f1, f2, f3, f4, f5⟩ := hf it (by simp)
    have hl := rv.length
    exact wpAny_pyNext_list_end (I.ok.hd hc) st p.isList (by simp; omega) fun h' eb => ⟨rfl, I.turned (t' := s.toks) (fun b o hb e => eb b o hb e) f0 f1 f3 f4 f5⟩
  self := fun _ _ _ _ _ st h => wpAny_pyIter_listiter st h
theorem turn_tuple {P : Program} {w : World} {K : PySem.W.Frag} {tg : Expr} (a it : Addr) : Turn P w K tg (Itt K a) [it] it (fun i h => h.IsTupleIter it a i) where
  mem := by simp
  obj := fun i h st b hb => by
    have e : b = it := by simpa using hb
    subst e
    obtain ⟨o, e, c, d⟩ := st
    exact ⟨o, e, fun v z => by rw [d] at z; cases z⟩
  keep := fun i h h' st k => st.at fun o e => k it (by simp) o e
  item := by
    intro X hP hw hK hc i pins s σ H E I hf st hg
    subst hP hw hK
    obtain ⟨xs, x, hq, hx⟩ := hg
    obtain ⟨its, rv, p, hz⟩ := I.tuple hq
    obtain ⟨u, hu, ru⟩ := rv.get hx
    obtain ⟨f0, f1, f2, f3, f4, f5⟩ := hf it (by simp)
    refine wpAny_pyNext_tuple_item st (show s.heap.IsTuple a its.toArray from p) (x := u) (by simpa using hu) fun h' st' sb => ?_
    have I1 : Inv X pins σ H { s with heap := h' } := I.turned (t' := s.toks) (fun b o hb e => (sb.2 b hb).trans e) f0 f1 f3 f4 f5
    obtain ⟨o, e, c, d⟩ := id st'
    exact ⟨u, rfl, go_of (s := { s with heap := h' }) e c d (by decide) ⟨x, H, I1, ru, ⟨rfl, fun ys hy => by rw [I.tuple_inj hy hq]; exact hx⟩, st', fun b hb => (hf b hb).1⟩⟩
  done := by
    intro X hP hw hK hc i pins s σ H E I hf st hg
    subst hP hw hK
    obtain ⟨xs, hq, hx⟩ := hg
    obtain ⟨its, rv, p, hz⟩ := I.tuple hq
    obtain ⟨f0, f1, f2, f3, f4, f5⟩ := hf it (by simp)
    have hl := rv.length
    exact wpAny_pyNext_tuple_end (I.ok.hd hc) st (show s.heap.IsTuple a its.toArray from p) (by simp; omega) fun h' eb => ⟨rfl, I.turned (t' := s.toks) (fun b o hb e => eb b o hb e) f0 f1 f3 f4 f5⟩
  self := fun _ _ _ _ _ st h => wpAny_pyIter_tupleiter st h
theorem turn_range {P : Program} {w : World} {K : PySem.W.Frag} {tg : Expr} (it : Addr) (lo : Int) (n : Nat) : Turn P w K tg (Itr lo n) [it] it (fun i h => IsRangeIter h it (lo + (i : Nat) * 1) ((n : Int) - (i : Nat)) 1) where
  mem := by simp
  obj := fun i h st b hb => by
    have e : b = it := by simpa using hb
    subst e
    exact ⟨_, st, fun v z => by
      have z' : Data.fields _ = Data.cell v := z
      cases z'⟩
  keep := fun i h h' st k => k it (by simp) _ st
  item := by
    intro X hP hw hK hc i pins s σ H E I hf st hg
    subst hP hw hK
    obtain ⟨f0, f1, f2, f3, f4, f5⟩ := hf it (by simp)
    have W := Walks.range (prog := X.prog) (w := X.w) (I.ok.hd hc) it lo 1 n
    refine W.item i s _ _ hg st fun v h' tk hv st' kk => ?_
    obtain ⟨t, rfl⟩ := hv
    have I1 : Inv X pins σ H { s with heap := h', toks := tk } := I.turned (fun b o hb e => kk b o (by simpa using hb) e) f0 f1 f3 f4 f5
    refine ⟨_, rfl, go_of (s := { s with heap := h', toks := tk }) (n := "range_iterator") st' rfl rfl (by decide) ⟨.int (lo + i), H, I1, ⟨t, ?_⟩, ⟨rfl, rfl⟩, st', fun b hb => (hf b hb).1⟩⟩
    rw [Int.mul_one]
  done := by
    intro X hP hw hK hc i pins s σ H E I hf st hg
    subst hP hw hK
    obtain ⟨f0, f1, f2, f3, f4, f5⟩ := hf it (by simp)
    exact wpAny_pyNext_range_end (I.ok.hd hc) st (by have : n ≤ i := hg; omega) fun h' eb => ⟨rfl, I.turned (t' := s.toks) (fun b o hb e => eb b o hb e) f0 f1 f3 f4 f5⟩
  self := fun _ _ _ _ _ st h => wpAny_pyIter_rangeiter st h
end L2
namespace L2
open PySem PySem.Spec PyProof.Rows
section
variable {X : Cx} {tg : Expr}
def iList (K : PySem.W.Frag) (tl : TE) : TI := fun σ H R => tl σ H fun x H1 => ∃ a, x = .ref a ∧ (∃ xs, SqL K H1 a xs) ∧ R (Itl K a) H1
def iTup (K : PySem.W.Frag) (tl : TE) : TI := fun σ H R => tl σ H fun x H1 => ∃ a, x = .ref a ∧ (∃ xs, SqT K H1 a xs) ∧ R (Itt K a) H1
theorem pi_list {l : Expr} {tl : TE} (hl : PE X l tl) : PI X tg l (iList X.K tl) := by
  intro pins s σ H R I h
  refine thn (hl pins s σ H _ I h) fun v s1 ⟨x, H1, I1, r1, q1⟩ => ?_
  obtain ⟨a, e, ⟨xs, hq⟩, q⟩ := q1
  subst e
  cases r1
  obtain ⟨its, rv, p, hz⟩ := I1.list hq
  refine wpAny_pyIter_list p.isList ?_
  refine ⟨s1.heap.objs.size, [s1.heap.objs.size], _, _, H1, rfl, I1.kept (t' := s1.toks) fun b o e => Heap.get?_push_of_some _ e, turn_list a _, ⟨_, Heap.get?_push_size _ rfl, rfl, rfl⟩, fun b hb => ?_, q⟩
  have e : b = s1.heap.objs.size := by simpa using hb
  subst e
  exact I1.fpOk (Nat.le_refl _) (I1.hok.fresh (Nat.le_refl _))
theorem pi_tup {l : Expr} {tl : TE} (hl : PE X l tl) : PI X tg l (iTup X.K tl) := by
  intro pins s σ H R I h
  refine thn (hl pins s σ H _ I h) fun v s1 ⟨x, H1, I1, r1, q1⟩ => ?_
  obtain ⟨a, e, ⟨xs, hq⟩, q⟩ := q1
  subst e
  cases r1
  obtain ⟨its, rv, p, hz⟩ := I1.tuple hq
  refine wpAny_pyIter_tuple (show s1.heap.IsTuple a its.toArray from p) ?_
  refine ⟨s1.heap.objs.size, [s1.heap.objs.size], _, _, H1, rfl, I1.kept (t' := s1.toks) fun b o e => Heap.get?_push_of_some _ e, turn_tuple a _, ⟨_, Heap.get?_push_size _ rfl, rfl, rfl⟩, fun b hb => ?_, q⟩
  have e : b = s1.heap.objs.size := by simpa using hb
  subst e
  exact I1.fpOk (Nat.le_refl _) (I1.hok.fresh (Nat.le_refl _))
theorem range_it {pins : List (Addr × Obj)} {σ : St} {H : Hp} {s : Shared} {R : It → Hp → Prop} {E : Value → Shared → Prop} {lo hi : Int} {t u v : Tok} {tk : Nat} (I : Inv X pins σ H s) (h1 : -(2 ^ 62) ≤ lo) (h2 : lo < 2 ^ 62) (h3 : -(2 ^ 62) ≤ hi) (h4 : hi < 2 ^ 62)
    (q : R (Itr lo (hi - lo).toNat) H) : wpAny (model X.prog X.w) X.A (pyIter (.ref s.heap.objs.size)) (PIE X pins σ tg R) E { s with heap := s.heap.push { cls := .type "range", data := .fields #[.int lo t, .int hi u, .int 1 v] }, toks := tk } := by
  refine wpAny_pyIter_range (IsRange.new ..) (small_one h1 h2 h3 h4) ?_
  have I1 : Inv X pins σ H { s with heap := s.heap.push { cls := .type "range", data := .fields #[.int lo t, .int hi u, .int 1 v] }, toks := tk } := I.kept fun b o e => Heap.get?_push_of_some _ e
  refine ⟨(s.heap.push { cls := .type "range", data := .fields #[.int lo t, .int hi u, .int 1 v] }).objs.size, [(s.heap.push { cls := .type "range", data := .fields #[.int lo t, .int hi u, .int 1 v] }).objs.size], _, _, H, rfl,
    I1.kept (t' := tk) fun b o e => Heap.get?_push_of_some _ e, turn_range _ lo (hi - lo).toNat, ?_, fun b hb => ?_, q⟩
  · have e1 : lo + ((0 : Nat) : Int) * 1 = lo := by simp
    have e2 : (((hi - lo).toNat : Nat) : Int) - ((0 : Nat) : Int) = Builtin.Range.rangeSize lo hi 1 := by rw [rangeSize_one]; split <;> omega
    show IsRangeIter _ _ (lo + ((0 : Nat) : Int) * 1) ((((hi - lo).toNat : Nat) : Int) - ((0 : Nat) : Int)) 1
    rw [e1, e2]
    exact Heap.get?_push_size _ rfl
  · have e : b = (s.heap.push { cls := .type "range", data := .fields #[.int lo t, .int hi u, .int 1 v] }).objs.size := by simpa using hb
    subst e
    exact I1.fpOk (Nat.le_refl _) (I1.hok.fresh (Nat.le_refl _))
def iRng1 (ta : TA) : TI := fun σ H R => ta σ H fun vs H1 => ∃ j : Int, vs = [.int j] ∧ -(2 ^ 62) ≤ j ∧ j < 2 ^ 62 ∧ R (Itr 0 j.toNat) H1
theorem pi_range1 {a : Expr} {ta : TA} {p pos : Pos} (hg : Gl X "range") (hm : X.mg "range" = none) (ha : PA X [a] ta) (hs : starEach [a] X.env = [(false, eval a X.env)] := by rfl) : PI X tg (.Call (.Name "range" p) [a] [] pos) (iRng1 ta) := by
  intro pins s σ H R I h
  refine Call_ (ld_blt I hg hm boot_range (PyProof.Rows.callWith_type1 (thn (ha pos pins s σ H _ I h) fun us s1 ⟨vs, H1, I1, r1, q1⟩ => ?_) hs rfl))
  obtain ⟨j, e, q1, q2, q⟩ := q1
  subst e
  cases r1 with
  | cons r rr =>
    cases rr
    obtain ⟨t, rfl⟩ := r
    exact call_range_1 (range_it I1 (by omega) (by omega) q1 q2 (by simpa using q))
def tFor (wi : TI) (g : TG) (tb : TS) : TS := fun D σ H => wi σ H fun J H1 => ∃ W : Nat → Nat → St → Hp → Prop, (∃ m, W 0 m σ H1) ∧ ∀ i m σ H, W i m σ H →
  (J.stop i H ∧ D.nx σ H) ∨ (J.go i H ∧ ∃ N : St → Hp → Prop, (∀ σ' H', N σ' H' → ∃ m', m' < m ∧ W (i + 1) m' σ' H') ∧ ∀ x H', J.yld i H x H' → g x σ H' fun σ2 H2 => tb { D with nx := N, ct := N, bk := D.nx } σ2 H2)
def pinsAt (fp : List Addr) (h : Heap) : List (Addr × Obj) := fp.filterMap fun b => (h.get? b).map fun o => (b, o)
theorem mem_pinsAt {fp : List Addr} {h : Heap} {b : Addr} {o : Obj} (hb : b ∈ fp) (e : h.get? b = some o) : (b, o) ∈ pinsAt fp h := List.mem_filterMap.mpr ⟨b, hb, by rw [e]; rfl⟩
theorem of_pinsAt {fp : List Addr} {h : Heap} {p : Addr × Obj} (hp : p ∈ pinsAt fp h) : p.1 ∈ fp ∧ h.get? p.1 = some p.2 := by
  obtain ⟨b, hb, e⟩ := List.mem_filterMap.mp hp
  cases q : h.get? b with
  | none => rw [q] at e; cases e
  | some o =>
    rw [q] at e
    have e' : (b, o) = p := Option.some.inj e
    subst e'
    exact ⟨hb, q⟩
theorem Inv.pinned {pins : List (Addr × Obj)} {σ : St} {H : Hp} {s : Shared} {fp : List Addr} (I : Inv X pins σ H s) (hf : ∀ b ∈ fp, FpOk X pins H b) (ho : ∀ b ∈ fp, ∃ o, s.heap.get? b = some o ∧ ∀ v, o.data ≠ .cell v) : Inv X (pins ++ pinsAt fp s.heap) σ H s :=
  I.pins_of fun p hp => (List.mem_append.mp hp).elim (fun z => I.pin p (List.mem_append_right _ z)) fun z => by
    obtain ⟨hb, e⟩ := of_pinsAt z
    obtain ⟨f0, f1, f2, _⟩ := hf p.1 hb
    obtain ⟨o, e', d⟩ := ho p.1 hb
    rw [e] at e'; cases e'
    exact ⟨e, f0, f1, f2, d⟩
theorem Inv.unpinned {pins pl : List (Addr × Obj)} {σ : St} {H : Hp} {s : Shared} (I : Inv X (pins ++ pl) σ H s) : Inv X pins σ H s := I.pins_of fun p hp => I.pin p (List.mem_append_right _ (List.mem_append_left _ hp))
theorem ps_for {iter : Expr} {body : List Stmt} {wi : TI} {g : TG} {tb : TS} {pos : Pos} (hp : PassesOwn (model X.prog X.w) X.A X.env X.xe) (hc : X.calm = true) (hi : PI X tg iter wi) (hg : PG X tg g) (hb : PSs X body tb)
    (hs : ∀ x, foldedSetIterable iter X.env x = pure x := by intro _; rfl) : PS X (.For tg iter body [] pos) (tFor wi g tb) := by
  intro pins s σ H D I h
  refine wpAny_For (thn (hi pins s σ H _ I h) fun v s1 h1 => thn h1 fun itv s2 h2 => ?_) hs
  obtain ⟨it, fp, tn, J, H2, e, I2, T, st2, f2, W, ⟨m0, w0⟩, turn⟩ := h2
  subst e
  have stat : ∀ {H' : Hp}, (∀ b ∈ fp, H' b = none) → ∀ b ∈ fp, FpOk X pins H' b := fun hn b hb => ⟨hn b hb, (f2 b hb).2⟩
  refine codeAny_forLoop_any (fun n s' => ∃ i σ' H', Inv X pins σ' H' s' ∧ tn i s'.heap ∧ (∀ b ∈ fp, H' b = none) ∧ W i n σ' H') ?_ m0 ⟨0, σ, H2, I2, st2, fun b hb => (f2 b hb).1, w0⟩
  rintro n s3 ⟨i, σ3, H3, I3, st3, fr3, w3⟩
  rcases turn i n σ3 H3 w3 with ⟨stop, qn⟩ | ⟨go, N, hN, step⟩
  · refine wpAny_passesOwn hp (thn (T.done X rfl rfl rfl hc i pins s3 σ3 H3 X.xe I3 (stat fr3) st3 stop) fun r s4 ⟨hr, I4⟩ => ?_)
    subst hr
    exact wpAny_execs_nil ⟨σ3, H3, I4, qn⟩
  · refine wpAny_passesOwn hp (thn (T.item X rfl rfl rfl hc i pins s3 σ3 H3 X.xe I3 (stat fr3) st3 go) fun r s4 ⟨u, hr, h4⟩ => ?_)
    subst hr
    refine wpAny_passesOwn hp (thn h4 fun _ s5 ⟨x, H5, I5, r5, y5, st5, fr5⟩ => ?_)
    have I5' := I5.pinned (stat fr5) (T.obj _ _ st5)
    refine wpAny_passesOwn hp (thn (hg _ s5 σ3 H5 x u _ I5' r5 (step x H5 y5)) fun _ s6 ⟨σ6, H6, I6, q6⟩ => ?_)
    refine wpAny_passesOwn hp (thn (hb _ s6 σ6 H6 _ I6 q6) fun f s7 q7 => ?_)
    have again : ∀ {σ7 : St} {H7 : Hp}, Inv X (pins ++ pinsAt fp s5.heap) σ7 H7 s7 → N σ7 H7 → ∃ m, m < n ∧ ∃ i σ' H', Inv X pins σ' H' s7 ∧ tn i s7.heap ∧ (∀ b ∈ fp, H' b = none) ∧ W i m σ' H' := fun {σ7 H7} I7 n7 => by
      obtain ⟨m', hm, w7⟩ := hN σ7 H7 n7
      refine ⟨m', hm, i + 1, σ7, H7, I7.unpinned, T.keep _ _ _ st5 fun b hb o e => (I7.pin (b, o) (List.mem_append_right _ (List.mem_append_right _ (mem_pinsAt hb e)))).1, fun b hb => ?_, w7⟩
      obtain ⟨o, e, d⟩ := T.obj _ _ st5 b hb
      exact (I7.pin (b, o) (List.mem_append_right _ (List.mem_append_right _ (mem_pinsAt hb e)))).2.1
    cases f with
    | next => obtain ⟨σ7, H7, I7, n7⟩ := q7; exact again I7 n7
    | cont => obtain ⟨σ7, H7, I7, n7⟩ := q7; exact again I7 n7
    | brk => obtain ⟨σ7, H7, I7, q7⟩ := q7; exact ⟨σ7, H7, I7.unpinned, q7⟩
    | ret v => obtain ⟨x7, σ7, H7, I7, r7, q7⟩ := q7; exact ⟨x7, σ7, H7, I7.unpinned, r7, q7⟩
end
end L2
namespace L2
open PySem PySem.Spec PyProof.Rows
abbrev R2 := V → V → Hp → VK → Prop
def OpR (X : Cx) (f : Value → Value → Sem Value) (r : R2) : Prop :=
  ∀ (pins : List (Addr × Obj)) (s : Shared) (σ : St) (H : Hp) (x y : V) (v u : Value) (Q : VK), Inv X pins σ H s → RelV x v → RelV y u → r x y H Q →
    wpAny (model X.prog X.w) X.A (f v u) (EP X pins σ Q) X.xe s
def CallR (X : Cx) (f : Value) (r : List V → Hp → VK → Prop) : Prop :=
  ∀ (pins : List (Addr × Obj)) (s : Shared) (σ : St) (H : Hp) (xs : List V) (us : List Value) (Q : VK), Inv X pins σ H s → Vals xs us → r xs H Q →
    wpAny (model X.prog X.w) X.A (call f us) (EP X pins σ Q) X.xe s
def TruR (X : Cx) (r : V → Hp → (Bool → Hp → Prop) → Prop) : Prop :=
  ∀ (pins : List (Addr × Obj)) (s : Shared) (σ : St) (H : Hp) (x : V) (v : Value) (Q : Bool → Hp → Prop), Inv X pins σ H s → RelV x v → r x H Q →
    wpAny (model X.prog X.w) X.A (truthy v) (TP X pins σ Q) X.xe s
def tOp (r : R2) (ta tb : TE) : TE := fun σ H Q => ta σ H fun x H1 => tb σ H1 fun y H2 => r x y H2 Q
def rI (C : Int → Int → Prop) (g : Int → Int → V) : R2 := fun x y H Q => ∃ i j, x = .int i ∧ y = .int j ∧ C i j ∧ Q (g i j) H
def rI0 (g : Int → Int → V) : R2 := fun x y H Q => ∃ i j, x = .int i ∧ y = .int j ∧ Q (g i j) H
section
variable {X : Cx} {a b c : Expr} {ta tb tc : TE} {pos : Pos}
theorem binT (ha : PE X a ta) (hb : PE X b tb) {pins : List (Addr × Obj)} {s : Shared} {σ : St} {H : Hp} {R : V → V → Hp → Prop} (I : Inv X pins σ H s)
    (h : ta σ H fun x H1 => tb σ H1 fun y H2 => R x y H2) {Q : Value → Shared → Prop} {f : Value → Value → Sem Value}
    (hf : ∀ v u s2 x y H2, Inv X pins σ H2 s2 → RelV x v → RelV y u → R x y H2 → wpAny (model X.prog X.w) X.A (f v u) Q X.xe s2) :
    wpAny (model X.prog X.w) X.A (eval a X.env) (fun v s₁ => wpAny (model X.prog X.w) X.A (eval b X.env) (fun u s₂ => wpAny (model X.prog X.w) X.A (f v u) Q X.xe s₂) X.xe s₁) X.xe s := by
  refine thn (ha pins s σ H _ I h) fun v s1 ⟨x, H1, I1, r1, q1⟩ => ?_
  refine thn (hb pins s1 σ H1 _ I1 q1) fun u s2 ⟨y, H2, I2, r2, q2⟩ => ?_
  exact hf v u s2 x y H2 I2 r1 r2 q2
theorem pe_op {op : Operator} {r : R2} (ho : OpR X (binaryOp op) r) (ha : PE X a ta) (hb : PE X b tb) : PE X (.BinOp a op b pos) (tOp r ta tb) := by
  intro pins s σ H Q I h
  exact wpAny_BinOp (binT ha hb I h fun v u s2 x y H2 I2 rx ry q => ho pins s2 σ H2 x y v u Q I2 rx ry q)
theorem opI {f : Value → Value → Sem Value} {C : Int → Int → Prop} {g : Int → Int → Int}
    (rule : ∀ (i j : Int) (t u : Tok) (s : Shared) (Q : Value → Shared → Prop) (E : Value → Shared → Prop), C i j → Q (.int (g i j) s.toks) { s with toks := s.toks + 1 } → wpAny (model X.prog X.w) X.A (f (.int i t) (.int j u)) Q E s) :
    OpR X f (rI C fun i j => .int (g i j)) := by
  intro pins s σ H x y v u Q I rx ry h
  obtain ⟨i, j, rfl, rfl, hc, q⟩ := h
  obtain ⟨t, rfl⟩ := rx
  obtain ⟨t', rfl⟩ := ry
  exact rule i j t t' s _ _ hc ⟨.int (g i j), H, I.tok _, ⟨_, rfl⟩, q⟩
theorem opI0 {f : Value → Value → Sem Value} {g : Int → Int → Int}
    (rule : ∀ (i j : Int) (t u : Tok) (s : Shared) (Q : Value → Shared → Prop) (E : Value → Shared → Prop), Q (.int (g i j) s.toks) { s with toks := s.toks + 1 } → wpAny (model X.prog X.w) X.A (f (.int i t) (.int j u)) Q E s) :
    OpR X f (rI0 fun i j => .int (g i j)) := by
  intro pins s σ H x y v u Q I rx ry h
  obtain ⟨i, j, rfl, rfl, q⟩ := h
  obtain ⟨t, rfl⟩ := rx
  obtain ⟨t', rfl⟩ := ry
  exact rule i j t t' s _ _ ⟨.int (g i j), H, I.tok _, ⟨_, rfl⟩, q⟩
theorem opB0 {f : Value → Value → Sem Value} {g : Int → Int → Bool}
    (rule : ∀ (i j : Int) (t u : Tok) (s : Shared) (Q : Value → Shared → Prop) (E : Value → Shared → Prop), Q (.bool (g i j)) s → wpAny (model X.prog X.w) X.A (f (.int i t) (.int j u)) Q E s) :
    OpR X f (rI0 fun i j => .bl (g i j)) := by
  intro pins s σ H x y v u Q I rx ry h
  obtain ⟨i, j, rfl, rfl, q⟩ := h
  obtain ⟨t, rfl⟩ := rx
  obtain ⟨t', rfl⟩ := ry
  exact rule i j t t' s _ _ ⟨.bl (g i j), H, I, rfl, q⟩
def CDiv (i j : Int) : Prop := 0 < j ∧ j < 1073741824
def CPow (i j : Int) : Prop := 0 ≤ j ∧ j ≤ 1000000 ∧ i.natAbs < 2 ^ 64
def CMul (i j : Int) : Prop := (-(2 ^ 64) < i ∧ i < 2 ^ 64) ∨ (-(2 ^ 64) < j ∧ j < 2 ^ 64)
theorem CMul.ok {i j : Int} (h : CMul i j) : IntMulOk i j := by
  rcases h with ⟨h1, h2⟩ | ⟨h1, h2⟩
  · exact .of_left (intBits_le_64 h1 h2)
  · exact .of_right (intBits_le_64 h1 h2)
theorem op_add : OpR X (binaryOp .Add) (rI0 fun i j => .int (i + j)) := opI0 fun _ _ _ _ _ _ _ q => add_int q
theorem op_sub : OpR X (binaryOp .Sub) (rI0 fun i j => .int (i - j)) := opI0 fun _ _ _ _ _ _ _ q => sub_int q
theorem op_mul : OpR X (binaryOp .Mult) (rI CMul fun i j => .int (i * j)) := opI fun _ _ _ _ _ _ _ hc q => mul_int q hc.ok
theorem op_fdiv : OpR X (binaryOp .FloorDiv) (rI CDiv fun i j => .int (i / j)) := opI fun i j _ _ _ _ _ hc q => by
  have h1 : (0 : Int) < j := hc.1
  have h2 : j < 1073741824 := hc.2
  exact floordiv_int (by omega) (by rw [Int.fdiv_eq_ediv_of_nonneg i (by omega)]; exact q) (.inl (PyProof.noPylong_small (by omega)))
theorem op_mod : OpR X (binaryOp .Mod) (rI (fun _ j => 0 < j) fun i j => .int (i % j)) := opI fun i j _ _ _ _ _ hc q => by
  have h1 : (0 : Int) < j := hc
  exact mod_int' (by omega) (by rw [Int.fmod_eq_emod_of_nonneg i (by omega)]; exact q)
theorem op_pow : OpR X (binaryOp .Pow) (rI CPow fun i j => .int (i ^ j.toNat)) := opI fun _ _ _ _ _ _ _ hc q => pow_int_small hc.1 hc.2.1 hc.2.2 q
end
section
variable {X : Cx} {a b c : Expr} {ta tb tc : TE} {pos : Pos}
theorem fin_bl {pins : List (Addr × Obj)} {σ : St} {H : Hp} {s : Shared} {Q : VK} {k k' : Bool} (I : Inv X pins σ H s) (q : Q (.bl k) H) (e : k = k') : EP X pins σ Q (.bool k') s := by
  subst e
  exact ⟨.bl k, H, I, rfl, q⟩
theorem op_lt : OpR X (compareOp .Lt) (rI0 fun i j => .bl (decide (i < j))) := opB0 fun _ _ _ _ _ _ _ q => lt_int q
theorem op_le : OpR X (compareOp .LtE) (rI0 fun i j => .bl (decide (i ≤ j))) := opB0 fun _ _ _ _ _ _ _ q => le_int q
theorem op_gt : OpR X (compareOp .Gt) (rI0 fun i j => .bl (decide (j < i))) := opB0 fun _ _ _ _ _ _ _ q => gt_int q
theorem op_isN : OpR X (compareOp .Is) (fun x y H Q => y = .non ∧ Q (.bl (decide (x = .non))) H) := by
  intro pins s σ H x y v u Q I rx ry h
  obtain ⟨rfl, q⟩ := h
  cases ry
  refine is_none_gen (fin_bl I q ?_)
  cases x <;> first
    | (cases rx; rfl)
    | (obtain ⟨t, rfl⟩ := rx; rfl)
theorem op_notN : OpR X (compareOp .IsNot) (fun x y H Q => y = .non ∧ Q (.bl (!decide (x = .non))) H) := by
  intro pins s σ H x y v u Q I rx ry h
  obtain ⟨rfl, q⟩ := h
  cases ry
  refine isnot_none_gen (fin_bl I q ?_)
  cases x <;> first
    | (cases rx; rfl)
    | (obtain ⟨t, rfl⟩ := rx; rfl)
theorem OpR.or {f : Value → Value → Sem Value} {r r' : R2} (h : OpR X f r) (h' : OpR X f r') : OpR X f (fun x y H Q => r x y H Q ∨ r' x y H Q) := by
  intro pins s σ H x y v u Q I rx ry q
  rcases q with q | q
  · exact h pins s σ H x y v u Q I rx ry q
  · exact h' pins s σ H x y v u Q I rx ry q
theorem nomark (b : Expr) {op : CmpOp} (h : op ≠ .In := by decide) (h2 : op ≠ .NotIn := by decide) : behindInMarks op b = false := by
  have e1 : (op == CmpOp.In) = false := by cases op <;> first | rfl | exact absurd rfl h
  have e2 : (op == CmpOp.NotIn) = false := by cases op <;> first | rfl | exact absurd rfl h2
  cases b <;> simp [behindInMarks, e1, e2]
theorem pe_cmpR {op : CmpOp} {r : R2} (ho : OpR X (compareOp op) r) (ha : PE X a ta) (hb : PE X b tb) (hm : behindInMarks op b = false) : PE X (.Compare a [op] [b] pos) (tOp r ta tb) := by
  intro pins s σ H Q I h
  exact wpAny_Compare1 (binT ha hb I h fun v u s2 x y H2 I2 rx ry q => ho pins s2 σ H2 x y v u Q I2 rx ry q) hm
def tTest (t : TE) : TT := fun σ H Q => t σ H fun x H' => ∃ k, x = .bl k ∧ Q k H'
theorem pt_cmpR {op : CmpOp} {r : R2} (ho : OpR X (compareOp op) r) (ha : PE X a ta) (hb : PE X b tb) (hm : behindInMarks op b = false) : PT X (.Compare a [op] [b] pos) (tTest (tOp r ta tb)) := by
  intro pins s σ H Q I h
  refine wpAny_isTrue_Compare1 (thn (ha pins s σ H _ I h) fun v s1 ⟨x, H1, I1, r1, q1⟩ => thn (hb pins s1 σ H1 _ I1 q1) fun u s2 ⟨y, H2, I2, r2, q2⟩ =>
    thn (ho pins s2 σ H2 x y v u _ I2 r1 r2 q2) fun c s3 ⟨z, H3, I3, r3, k, e, q3⟩ => ?_) hm
  subst e
  cases r3
  exact wpAny_truthy_bool ⟨H3, I3, q3⟩
def tChain (r r' : R2) (ta tb tc : TE) : TE := fun σ H Q => ta σ H fun x H1 => tb σ H1 fun y H2 => r x y H2 fun z H3 => ∃ k, z = .bl k ∧
  (if k = true then tc σ H3 fun w' H4 => r' y w' H4 Q else Q (.bl false) H3)
theorem pt_chain {op op' : CmpOp} {r r' : R2} (ho : OpR X (compareOp op) r) (ho' : OpR X (compareOp op') r') (ha : PE X a ta) (hb : PE X b tb) (hc : PE X c tc)
    (hm : lastMarks [op, op'] [b, c] = false := by with_unfolding_all rfl) : PT X (.Compare a [op, op'] [b, c] pos) (tTest (tChain r r' ta tb tc)) := by
  intro pins s σ H Q I h
  refine isTrue_chain (thn (ha pins s σ H _ I h) fun v s1 ⟨x, H1, I1, r1, q1⟩ => test_link (thn (hb pins s1 σ H1 _ I1 q1) fun u s2 ⟨y, H2, I2, r2, q2⟩ =>
    thn (ho pins s2 σ H2 x y v u _ I2 r1 r2 q2) fun d s3 ⟨z, H3, I3, r3, k, e, q3⟩ => ?_)) hm
  subst e
  cases r3
  refine wpAny_truthy_bool ?_
  cases k with
  | false =>
    obtain ⟨k', e', q'⟩ := q3
    cases e'
    exact ite_ff ⟨H3, I3, q'⟩
  | true =>
    refine ite_tt (test_last (thn (hc pins s3 σ H3 _ I3 q3) fun w' s4 ⟨z', H4, I4, r4, q4⟩ => thn (ho' pins s4 σ H4 y z' u w' _ I4 r2 r4 q4) fun d' s5 ⟨z2, H5, I5, r5, k2, e2, q5⟩ => ?_))
    subst e2
    cases r5
    exact wpAny_truthy_bool ⟨H5, I5, q5⟩
def TruV (K : PySem.W.Frag) (x : V) (H : Hp) (k : Bool) : Prop :=
  match x with
  | .non => k = false
  | .bl b => k = b
  | .int i => k = (i != 0)
  | .str y => y.length ≤ sizeLine ∧ k = ((y.length : Int) != 0)
  | .byt y => y.size ≤ sizeLine ∧ k = ((y.size : Int) != 0)
  | .ref p => (∃ xs, SqL K H p xs ∧ k = !xs.isEmpty) ∨ (∃ xs, SqT K H p xs ∧ k = !xs.isEmpty) ∨ ∃ kvs, H p = some (.dK kvs) ∧ k = !kvs.isEmpty
  | _ => False
theorem isEmpty_kv {κ : Type} {kvs : List (κ × V)} {vs : List (κ × Value)} (r : KV kvs vs) : (!vs.isEmpty) = !kvs.isEmpty := by
  cases r <;> rfl
theorem isEmpty_of {xs : List V} {its : List Value} (r : Vals xs its) : (!its.toArray.isEmpty) = !xs.isEmpty := by
  cases r <;> simp
theorem line63 : (sizeLine : Nat) < 2 ^ 63 := by rw [sizeLine_eq]; decide
theorem tru_ok : TruR X (fun x H Q => ∃ k, TruV X.K x H k ∧ Q k H) := by
  intro pins s σ H x v Q I rx h
  obtain ⟨k, e, q⟩ := h
  have hl := line63
  have hs : sizeLine = 16777216 := sizeLine_eq
  cases x with
  | non =>
    cases rx
    have e' : k = false := e
    subst e'
    exact truthy_none ⟨H, I, q⟩
  | bl b =>
    cases rx
    have e' : k = b := e
    subst e'
    exact wpAny_truthy_bool ⟨H, I, q⟩
  | int i =>
    obtain ⟨t, rfl⟩ := rx
    have e' : k = (i != 0) := e
    subst e'
    exact PySem.P.truthy_int ⟨H, I, q⟩
  | str y =>
    obtain ⟨t, rfl⟩ := rx
    obtain ⟨hy, e'⟩ : y.length ≤ sizeLine ∧ k = ((y.length : Int) != 0) := e
    subst e'
    exact PySem.P.truthy_str (by omega) ⟨H, I.tok _, q⟩
  | byt y =>
    obtain ⟨t, rfl⟩ := rx
    obtain ⟨hy, e'⟩ : y.size ≤ sizeLine ∧ k = ((y.size : Int) != 0) := e
    subst e'
    exact PySem.W.truthy_bytes (by omega) ⟨H, I.tok _, q⟩
  | ref p =>
    cases rx
    have e' : (∃ xs, SqL X.K H p xs ∧ k = !xs.isEmpty) ∨ (∃ xs, SqT X.K H p xs ∧ k = !xs.isEmpty) ∨ ∃ kvs, H p = some (.dK kvs) ∧ k = !kvs.isEmpty := e
    rcases e' with ⟨xs, hx, e'⟩ | ⟨xs, hx, e'⟩ | ⟨kvs, hx, e'⟩
    · subst e'
      obtain ⟨its, r, pl, hz⟩ := I.list hx
      have hlen := r.length
      exact wpAny_truthy_list pl.isList (by simp only [List.size_toArray]; omega) ⟨H, I.tok _, by rw [isEmpty_of r]; exact q⟩
    · subst e'
      obtain ⟨its, r, pl, hz⟩ := I.tuple hx
      have hlen := r.length
      exact truthy_tuple pl (by simp only [List.size_toArray]; omega) ⟨H, I.tok _, by rw [isEmpty_of r]; exact q⟩
    · subst e'
      obtain ⟨hz, hS, vs, r, m⟩ : kvs.length ≤ sizeLine ∧ (p == sysModules) = false ∧ ∃ vs, KV kvs vs ∧ s.heap.DictOf (mixKind X.prog X.w) p vs := I.hok p _ hx
      have hlen : kvs.length = vs.length := Paired.length r
      exact wpAny_truthy_dict hS m (by omega) ⟨H, I.tok _, by rw [isEmpty_kv r]; exact q⟩
  | _ => exact (show False from e).elim
theorem pt_truth (ha : PE X a ta) (he : ∀ whole, isTrue a X.env whole = (do let v ← whole; standAt a.pos; holding [v] (truthy v))) :
    PT X a (fun σ H Q => ta σ H fun x H' => ∃ k, TruV X.K x H' k ∧ Q k H') := by
  intro pins s σ H Q I h
  exact isTrue_plain (thn (ha pins s σ H _ I h) fun v s1 ⟨x, H1, I1, r1, q1⟩ => tru_ok pins s1 σ H1 x v Q I1 r1 q1) (he _)
theorem vals1 {x : V} {us : List Value} (r : Vals [x] us) : ∃ u, us = [u] ∧ RelV x u := by
  cases r with
  | cons r1 r2 => cases r2; exact ⟨_, rfl, r1⟩
theorem vals2 {x y : V} {us : List Value} (r : Vals [x, y] us) : ∃ u w', us = [u, w'] ∧ RelV x u ∧ RelV y w' := by
  cases r with
  | cons r1 r2 =>
    cases r2 with
    | cons r3 r4 => cases r4; exact ⟨_, _, rfl, r1, r3⟩
theorem call_max2 (hc : X.calm = true) : CallR X (.builtin "max") (fun xs H Q => ∃ i j, xs = [.int i, .int j] ∧ Q (.int (if j > i then j else i)) H) := by
  intro pins s σ H xs us Q I r h
  obtain ⟨i, j, rfl, q⟩ := h
  obtain ⟨u, w', rfl, ⟨t, rfl⟩, ⟨t', rfl⟩⟩ := vals2 r
  refine max_two_ints (I.ok.hd hc) fun h' tk k => ⟨_, H, I.kept k, ?_, q⟩
  by_cases hj : j > i
  · rw [if_pos hj, if_pos hj]; exact ⟨_, rfl⟩
  · rw [if_neg hj, if_neg hj]; exact ⟨_, rfl⟩
def LenV (K : PySem.W.Frag) (x : V) (H : Hp) (n : Nat) : Prop :=
  match x with
  | .str y => y.length ≤ sizeLine ∧ n = y.length
  | .byt y => y.size ≤ sizeLine ∧ n = y.size
  | .ref p => (∃ xs, SqL K H p xs ∧ n = xs.length) ∨ ∃ xs, SqT K H p xs ∧ n = xs.length
  | _ => False
theorem call_len : CallR X (.builtin "len") (fun xs H Q => ∃ x n, xs = [x] ∧ LenV X.K x H n ∧ Q (.int n) H) := by
  intro pins s σ H xs us Q I r h
  obtain ⟨x, n, rfl, e, q⟩ := h
  obtain ⟨u, rfl, rx⟩ := vals1 r
  have hl := line63
  have hs : sizeLine = 16777216 := sizeLine_eq
  cases x with
  | str y =>
    obtain ⟨t, rfl⟩ := rx
    obtain ⟨hy, e'⟩ : y.length ≤ sizeLine ∧ n = y.length := e
    subst e'
    exact len_str (by omega) ⟨.int _, H, I.tok _, ⟨_, rfl⟩, q⟩
  | byt y =>
    obtain ⟨t, rfl⟩ := rx
    obtain ⟨hy, e'⟩ : y.size ≤ sizeLine ∧ n = y.size := e
    subst e'
    exact PySem.W.len_bytes (by omega) ⟨.int _, H, I.tok _, ⟨_, rfl⟩, q⟩
  | ref p =>
    cases rx
    have e' : (∃ xs, SqL X.K H p xs ∧ n = xs.length) ∨ ∃ xs, SqT X.K H p xs ∧ n = xs.length := e
    rcases e' with ⟨xs, hx, e'⟩ | ⟨xs, hx, e'⟩
    · subst e'
      obtain ⟨its, r', pl, hz⟩ := I.list hx
      have hlen := r'.length
      exact Calls.call_len_list pl.isList (by simp only [List.size_toArray]; omega) ⟨.int xs.length, H, I.tok _, ⟨_, by simp only [List.size_toArray]; rw [hlen]⟩, q⟩
    · subst e'
      obtain ⟨its, r', pl, hz⟩ := I.tuple hx
      have hlen := r'.length
      exact len_tuple pl (by simp only [List.size_toArray]; omega) ⟨.int xs.length, H, I.tok _, ⟨_, by simp only [List.size_toArray]; rw [hlen]⟩, q⟩
  | _ => exact (show False from e).elim
end
end L2
namespace L2
open PySem PySem.Spec PyProof.Rows
structure ObjM (h : Heap) (x dx C : Addr) (mA : Str → Option Value) : Prop where
  obj : h.get? x = some (PySem.W.instObj C dx)
  ns : h.Ns1 dx mA
  ne : dx ≠ x
section
variable {prog : Program} {w : World} {A : Around} {E : Value → Shared → Prop} {s : Shared} {K : PySem.W.Frag} {x dx C f : Addr} {mA : Str → Option Value} {name : Str} {v : Value}
end
theorem RelO.some_of {v : V} {o : Option Value} (r : RelO (some v) o) : ∃ u, o = some u ∧ RelV v u := by
  cases o with
  | none => exact (show False from r).elim
  | some u => exact ⟨u, rfl, r⟩
section
variable {P : Program} {w : World} {H H' : Hp} {h h' : Heap} {a C dx : Addr} {fs fs' : List (Str × V)}
end
structure Cls (K : PySem.W.Frag) (C : Addr) : Prop where
  pg : PySem.W.plainGet K C Str.empty = true
  hd : PySem.W.hasDictIn K C = true
  po : PySem.W.plainOver K C = true
  sa : PySem.W.findIn K (.ref C) "__setattr__" = some (some (.builtin "object.__setattr__"))
theorem Cls.get {K : PySem.W.Frag} {C : Addr} (c : Cls K C) (f : Str) : PySem.W.plainGet K C f = true := c.pg
structure Con (K : PySem.W.Frag) (C : Addr) (f : Str) (v : V) (u : Value) : Prop where
  at_ : PySem.W.findIn K (.ref C) f = some (some u)
  rel : RelV v u
  get : PySem.W.specialIn K u "__get__" = some none
  cp : PySem.W.copiedNames.contains f = false
structure Meth (K : PySem.W.Frag) (C : Addr) (m : Str) (f : Addr) : Prop where
  at_ : PySem.W.findIn K (.ref C) m = some (some (.ref f))
  fn : PySem.W.isFn K (.ref f) = true
  kp : PySem.W.keepIn K (.ref f) = true
section
variable {X : Cx} {pins : List (Addr × Obj)} {σ : St} {H : Hp} {s : Shared} {a C dx : Addr} {fs : List (Str × V)} {f : Str} {v : V} {A : Around} {E : Value → Shared → Prop}
end
section
variable {X : Cx} {o e value : Expr} {f : Str} {pos pos' tpos : Pos} {ta tv : TE}
end
section
variable {X : Cx} {pins : List (Addr × Obj)} {σ : St} {H : Hp} {s : Shared} {A : Around} {E : Value → Shared → Prop} {Q : Value → Shared → Prop} {c : Value} {b : Bool}
inductive TyOf (K : PySem.W.Frag) (H : Hp) : V → Value → Prop where
  | non : TyOf K H .non (.type "NoneType")
  | bl (x : Bool) : TyOf K H (.bl x) (.type "bool")
  | int (i : Int) : TyOf K H (.int i) (.type "int")
  | str (x : Str) : TyOf K H (.str x) (.type "str")
  | flt (x : UInt64) : TyOf K H (.flt x) (.type "float")
  | lst {a : Addr} {xs : List V} (e : H a = some (.lst xs)) : TyOf K H (.ref a) (.type "list")
  | frz {a : Addr} {o : Obj} {xs : List V} (e : H a = some (.frz o (.lst xs))) : TyOf K H (.ref a) (.type "list")
  | tup {a : Addr} {xs : List V} (e : H a = some (.tup xs)) : TyOf K H (.ref a) (.type "tuple")
  | dK {a : Addr} {kvs : List (Key × V)} (e : H a = some (.dK kvs)) : TyOf K H (.ref a) (.type "dict")
  | dT {a : Addr} {kvs : List (List Key × V)} (e : H a = some (.dT kvs)) : TyOf K H (.ref a) (.type "dict")
  | ins {a C dx : Addr} {fs : List (Str × V)} (e : H a = some (.ins C dx fs)) (cl : Cls K C) (ha : PySem.W.findIn K (.ref C) "__class__" = some (some (.builtin "object.__class__")))
      (hn : PySem.W.specialIn K (.builtin "object.__class__") "__get__" = some (some (.builtin "getset_descriptor.__get__"))) (htk : PySem.W.takesIn K (.builtin "object.__class__") = some true)
      (hm : PySem.W.mroIn K C (.type "object") = some true) : TyOf K H (.ref a) (.ref C)
end
end L2
namespace L2
open PySem PySem.Spec PyProof.Rows
structure Room (k : Nat) (A : Around) : Prop where
  hd : A.handled = none
  dp : A.depth + 3 * k + 5 < recursionLimit
  un : A.units + 16 * k + 200 < cLine
theorem Room.mono {j k : Nat} {A : Around} (r : Room k A) (h : j ≤ k) : Room j A := ⟨r.hd, by have := r.dp; omega, by have := r.un; omega⟩
theorem Room.deeper {k : Nat} {A : Around} (r : Room (k + 1) A) (env : Env) : Room k (A.deeper env) :=
  ⟨r.hd, by have := r.dp; show A.depth + 1 + 3 * k + 5 < _; omega, by have := r.un; show A.units + 3 + 16 * k + 200 < _; omega⟩
theorem Room.in1 {k : Nat} {A : Around} (r : Room (k + 1) A) : Room k A.in1 :=
  ⟨r.hd, by have := r.dp; show A.depth + 3 * k + 5 < _; omega, by have := r.un; show A.units + 1 + 16 * k + 200 < _; omega⟩
theorem Room.depth {k : Nat} {A : Around} (r : Room k A) : A.depth < recursionLimit := by have := r.dp; omega
theorem Room.units {k : Nat} {A : Around} (r : Room k A) : A.units + 64 < cLine := by have := r.un; omega
def tNil : TA := fun _ H Q => Q [] H
def tCons (ta : TE) (tr : TA) : TA := fun σ H Q => ta σ H fun x H1 => tr σ H1 fun xs H2 => Q (x :: xs) H2
section
variable {X : Cx} {e : Expr} {es : List Expr} {te : TE} {t : TA} {pos : Pos}
theorem pa_nil : PA X [] tNil := fun _ _ _ _ H Q I h => Calls.spliced_nil ⟨[], H, I, .nil, h⟩
theorem pa_cons (ha : PE X e te) (hr : PA X es t) (hs : starEach (e :: es) X.env = (false, eval e X.env) :: starEach es X.env := by rfl) : PA X (e :: es) (tCons te t) := by
  intro pos pins s σ H Q I h
  rw [hs]
  show wpAny _ _ (spliced ((false, eval e X.env) :: backTo pos (starEach es X.env))) _ _ s
  refine Calls.spliced_cons (thn (ha pins s σ H _ I h) fun u s1 ⟨x, H1, I1, r1, q1⟩ => ?_)
  exact thn (hr pos pins s1 σ H1 _ I1 q1) fun us s2 ⟨xs, H2, I2, r2, q2⟩ => ⟨x :: xs, H2, I2, .cons r1 r2, q2⟩
def tTup (t : TA) : TE := fun σ H Q => t σ H fun xs H1 => xs.length ≤ sizeLine ∧ ∀ p, H1 p = none → Q (.ref p) (upd H1 p (.tup xs))
def tLst (t : TA) : TE := fun σ H Q => t σ H fun xs H1 => xs.length ≤ sizeLine ∧ ∀ p, H1 p = none → Q (.ref p) (upd H1 p (.lst xs))
theorem pe_tup {x1} (h : PA X es t) : PE X (.Tuple es x1 pos) (tTup t) := by
  intro pins s σ H Q I hq
  refine wpAny_Tuple_spliced (thn (h pos pins s σ H _ I hq) fun us s1 ⟨xs, H1, I1, r, z, q⟩ => ⟨by rw [← r.length]; exact z, ?_⟩)
  have hf : H1 s1.heap.objs.size = none := I1.hok.fresh (Nat.le_refl _)
  refine ⟨.ref s1.heap.objs.size, upd H1 s1.heap.objs.size (.tup xs), I1.laid (t' := s1.toks) (fun b u e => Heap.get?_push_of_some _ e) (Nat.le_refl _) ?_, rfl, q _ hf⟩
  exact ⟨z, us, r, ⟨_, Heap.get?_push_size _ rfl, rfl, _, rfl⟩⟩
theorem pe_lst (h : PA X es t) : PE X (.List es pos) (tLst t) := by
  intro pins s σ H Q I hq
  refine wpAny_List_spliced (thn (h pos pins s σ H _ I hq) fun us s1 ⟨xs, H1, I1, r, z, q⟩ => ⟨by rw [← r.length]; exact z, ?_⟩)
  have hf : H1 s1.heap.objs.size = none := I1.hok.fresh (Nat.le_refl _)
  refine ⟨.ref s1.heap.objs.size, upd H1 s1.heap.objs.size (.lst xs), I1.laid (t' := s1.toks) (fun b u e => Heap.get?_push_of_some _ e) (Nat.le_refl _) ?_, rfl, q _ hf⟩
  exact ⟨z, us, 0, r, Heap.get?_push_size _ rfl⟩
end
abbrev Sp := List V → Hp → VK → XK → Prop
abbrev CXT := List Env → Hp → Shared → XK → Value → Shared → Prop
structure Env0 (P : Program) (w : World) (K : PySem.W.Frag) (mg : Str → Option Value) (base : Heap) (A : Around) (outer : List Env) (s : Shared) (H : Hp) : Prop where
  frames : A.frames = some outer
  mod : Mod K mg base
  bs : ∀ b o, base.get? b = some o → s.heap.get? b = some o ∧ H b = none
  bsz : base.objs.size ≤ s.heap.objs.size
  funs : s.heap.FunFrames base outer
  frf : ∀ b ∈ frs outer, H b = none
  hok : HOk P w H s.heap
  bare : AllBare s.gens
def CE (outer : List Env) (P : Program) (w : World) (H : Hp) (s : Shared) (Q : VK) (u : Value) (s' : Shared) : Prop :=
  ∃ v H', s'.os = s.os ∧ AllBare s'.gens ∧ Un (frs outer) [] H H' s.heap s'.heap ∧ HOk P w H' s'.heap ∧ RelV v u ∧ Q v H'
def CR (CX : CXT) (outer : List Env) (P : Program) (w : World) (H : Hp) (s : Shared) (Q : VK) (E : XK) (r : Result) (s' : Shared) : Prop :=
  match r with
  | .ok (.ret u) => CE outer P w H s Q u s'
  | .ok _ => False
  | .error e => CX outer H s E e s'
structure FnOk (P : Program) (w : World) (K : PySem.W.Frag) (mg : Str → Option Value) (base : Heap) (CX : CXT) (k : Nat) (f : Addr) (fd : FuncData) (ps : List Str) (sp : Sp) : Prop where
  len : ∀ vs H Q E, sp vs H Q E → vs.length = ps.length
  run : ∀ (A : Around) (outer : List Env) (s : Shared) (H : Hp) (args : Args) (us : List Value) (vs : List V) (Q : VK) (E : XK), Room k A → Env0 P w K mg base A outer s H → BindsTo s fd args (ps.zip us) → Vals vs us → sp vs H Q E →
    codeAny (model P w) A (.call (.ref f) args) (CR CX outer P w H s Q E) s
theorem FnOk.mono {P : Program} {w : World} {K : PySem.W.Frag} {mg : Str → Option Value} {base : Heap} {CX : CXT} {j k : Nat} {f : Addr} {fd : FuncData} {ps : List Str} {sp : Sp} (F : FnOk P w K mg base CX j f fd ps sp) (h : j ≤ k) :
    FnOk P w K mg base CX k f fd ps sp := ⟨F.len, fun A outer s H args us vs Q E hr => F.run A outer s H args us vs Q E (hr.mono h)⟩
theorem FnOk.imp {P : Program} {w : World} {K : PySem.W.Frag} {mg : Str → Option Value} {base : Heap} {CX : CXT} {k : Nat} {f : Addr} {fd : FuncData} {ps : List Str} {sp sp' : Sp} (F : FnOk P w K mg base CX k f fd ps sp)
    (h : ∀ vs H Q E, sp' vs H Q E → sp vs H Q E) : FnOk P w K mg base CX k f fd ps sp' :=
  ⟨fun vs H Q E q => F.len vs H Q E (h _ _ _ _ q), fun A outer s H args us vs Q E hr he hb hv hs => F.run A outer s H args us vs Q E hr he hb hv (h _ _ _ _ hs)⟩
theorem Env0.in1 {P : Program} {w : World} {K : PySem.W.Frag} {mg : Str → Option Value} {base : Heap} {A : Around} {outer : List Env} {s : Shared} {H : Hp} (e : Env0 P w K mg base A outer s H) :
    Env0 P w K mg base A.in1 outer s H := ⟨e.frames, e.mod, e.bs, e.bsz, e.funs, e.frf, e.hok, e.bare⟩
section
variable {X : Cx} {pins : List (Addr × Obj)} {σ : St} {H : Hp} {s s' : Shared}
theorem Inv.env0 (I : Inv X pins σ H s) : Env0 X.prog X.w X.K X.mg X.base X.A X.stack s H :=
  ⟨I.ok.frames, I.ok.mod, I.bs, Nat.le_trans I.ok.bsz I.sz, I.stack, I.stkFree, I.hok, I.bare⟩
theorem Inv.after {Q : VK} {u : Value} (I : Inv X pins σ H s) (h : CE X.stack X.prog X.w H s Q u s') : EP X pins σ Q u s' := by
  obtain ⟨v, H', os, bare, un, hok, r, q⟩ := h
  obtain ⟨hh, g, d, t, os'⟩ := s'
  obtain rfl : os' = s.os := os
  exact ⟨v, H', I.call (h' := hh) (g' := g) (d' := d) (t' := t) (ch := []) un hok bare (fun b z => absurd z (by simp)), r, q⟩
end
def tCall (sp : Sp) (dvs : List V) (E : XK) (t : TA) : TE := fun σ H Q => t σ H fun vs H1 => sp (vs ++ dvs) H1 Q E
def Binds (K : PySem.W.Frag) (fd : FuncData) (ps : List Str) (ds : List Value) : Prop :=
  ∀ (s : Shared) (us : List Value), K.In s.heap → (us ++ ds).length = ps.length → BindsTo s fd ⟨us, []⟩ (ps.zip (us ++ ds))
theorem Binds.all {K : PySem.W.Frag} {fd : FuncData} {ps : List Str} (h : ∀ us : List Value, us.length = ps.length → bindArgs fd ⟨us, []⟩ = pure (ps.zip us)) : Binds K fd ps [] := fun s us _ hl => by
  rw [List.append_nil] at hl ⊢
  exact .of_eq (h us hl)
def Passes (CX : CXT) (X : Cx) (E : XK) : Prop := ∀ (pins : List (Addr × Obj)) (σ : St) (H : Hp) (s : Shared) (e : Value) (s' : Shared), Inv X pins σ H s → CX X.stack H s E e s' → X.xe e s'
section
variable {X : Cx} {CX : CXT} {k : Nat} {f C : Addr} {fd : FuncData} {ps : List Str} {sp : Sp} {dvs : List V} {ds : List Value} {E : XK} {x m : Str} {p pos apos : Pos} {e o : Expr} {es : List Expr} {ta : TE} {t : TA}
theorem run_fn {pins : List (Addr × Obj)} {σ : St} {H : Hp} {s : Shared} {Q : VK} {us : List Value} {vs : List V} (F : FnOk X.prog X.w X.K X.mg X.base CX k f fd ps sp) (hr : Room k X.A) (hb : Binds X.K fd ps ds) (hd : Vals dvs ds) (hx : Passes CX X E)
    (I : Inv X pins σ H s) (r : Vals vs us) (h : sp (vs ++ dvs) H Q E) : wpAny (model X.prog X.w) X.A (call (.ref f) us) (EP X pins σ Q) X.xe s := by
  have r2 : Vals (vs ++ dvs) (us ++ ds) := r.append hd
  have hl : (us ++ ds).length = ps.length := by rw [← r2.length]; exact F.len _ _ _ _ h
  refine wpAny_call (codeAny_mono (F.run X.A X.stack s H ⟨us, []⟩ (us ++ ds) (vs ++ dvs) Q E hr I.env0 (hb s us I.kIn hl) r2 h) fun r s' hq => ?_)
  cases r with
  | error e => exact hx pins σ H s e s' I hq
  | ok fl =>
    cases fl with
    | ret u => exact I.after hq
    | next => exact False.elim hq
    | brk => exact False.elim hq
    | cont => exact False.elim hq
theorem pe_call (F : FnOk X.prog X.w X.K X.mg X.base CX k f fd ps sp) (hr : Room k X.A) (hg : Gl X x) (hm : X.mg x = some (.ref f)) (hk : PySem.W.keepIn X.K (.ref f) = true) (hb : Binds X.K fd ps ds) (hd : Vals dvs ds) (hx : Passes CX X E)
    (ha : PA X (e :: es) t) (hdb : (x == ("__debug__" : Str)) = false := by decide) (he : starEach (e :: es) X.env = (false, eval e X.env) :: starEach es X.env := by rfl) (hpl : (backTo pos (starEach es X.env)).any (·.1) = false := by rfl) :
    PE X (.Call (.Name x p) (e :: es) [] pos) (tCall sp dvs E t) := by
  intro pins s σ H Q I h
  refine wpAny_Call_Name_kw (ld_glob I hg hm ?_ hdb)
  refine PySem.W.callWith_K (h₀ := X.base) I.ok.mod.kin hk (thn (ha pos pins s σ H _ I h) fun us s1 ⟨vs, H1, I1, r, q⟩ => ⟨I1.kIn, ?_⟩) he hpl
  exact run_fn F hr hb hd hx I1 r q
structure Mk (K : PySem.W.Frag) (C f : Addr) : Prop where
  makes : PySem.W.makesIn K C = true
  init : PySem.W.findIn K (.ref C) "__init__" = some (some (.ref f))
  fn : PySem.W.isFn K (.ref f) = true
  kp : PySem.W.keepIn K (.ref C) = true
end
section
variable {X : Cx} {CX : CXT} {k : Nat} {f C : Addr} {fd : FuncData} {ps ks : List Str} {sp : Sp} {E : XK} {x m : Str} {p pos apos kpos : Pos} {e o : Expr} {es : List Expr} {kws : List Keyword} {te ta : TE} {t tk : TA} {nm : Option Str}
structure KBinds (K : PySem.W.Frag) (fd : FuncData) (ps ks : List Str) (g : List Value → List Value → List Value) (gV : List V → List V → List V) : Prop where
  to : ∀ (s : Shared) (us ws : List Value), K.In s.heap → (g us ws).length = ps.length → BindsTo s fd ⟨us, ks.zip ws⟩ (ps.zip (g us ws))
  rel : ∀ {vs : List V} {us : List Value} {zs : List V} {ws : List Value}, Vals vs us → Vals zs ws → Vals (gV vs zs) (g us ws)
variable {g : List Value → List Value → List Value} {gV : List V → List V → List V}
end
structure FnScope (N P : List Str) (sc : Scope) : Prop where
  kind : sc.kind = .function
  co : sc.isCoroutine = false
  gen : sc.isGenerator = false
  nd : N.Nodup
  pre : N.take P.length = P
  par : ∀ x ∈ P, sc.names.lookup x = some .local ∨ sc.names.lookup x = some .cell
  nofree : ∀ y ∈ sc.names, y.2 ≠ .free
theorem bindL_out {kindOf : Str → Option NameKind} {x : Str} : ∀ {binds : List (Str × Value)} {m : Str → Option Value}, (∀ v, (x, v) ∉ binds) → bindL kindOf binds m x = m x
  | [], _, _ => rfl
  | (n, v) :: r, m, h => by
    unfold bindL
    rw [bindL_out fun w hw => h w (List.mem_cons_of_mem _ hw)]
    split
    · have : x ≠ n := by rintro rfl; exact h v List.mem_cons_self
      simp [this]
    · rfl
theorem bindC_out {kindOf : Str → Option NameKind} {x : Str} : ∀ {binds : List (Str × Value)} {m : Str → Option Value}, (∀ v, (x, v) ∉ binds) → bindC kindOf binds m x = m x
  | [], _, _ => rfl
  | (n, v) :: r, m, h => by
    unfold bindC
    rw [bindC_out fun w hw => h w (List.mem_cons_of_mem _ hw)]
    split
    · rfl
    · have : x ≠ n := by rintro rfl; exact h v List.mem_cons_self
      simp [this]
theorem bindL_get {kindOf : Str → Option NameKind} {x : Str} {v : Value} : ∀ {P : List Str} {vs : List Value} {i : Nat} {m : Str → Option Value}, P.Nodup → P[i]? = some x → vs[i]? = some v → kindOf x = some .local →
    bindL kindOf (P.zip vs) m x = some v
  | [], _, _, _, _, h, _, _ => by simp at h
  | _ :: _, [], _, _, _, _, h, _ => by simp at h
  | p :: P, w :: vs, 0, m, nd, h1, h2, hk => by
    simp at h1 h2; subst h1; subst h2
    show bindL kindOf ((p, w) :: P.zip vs) m p = _
    unfold bindL
    rw [bindL_out fun v hv => (List.nodup_cons.mp nd).1 (List.of_mem_zip hv).1, if_pos hk]
    simp
  | p :: P, w :: vs, i + 1, m, nd, h1, h2, hk => by
    show bindL kindOf ((p, w) :: P.zip vs) m x = _
    unfold bindL
    exact bindL_get (i := i) (List.nodup_cons.mp nd).2 (by simpa using h1) (by simpa using h2) hk
theorem bindC_get {kindOf : Str → Option NameKind} {x : Str} {v : Value} : ∀ {P : List Str} {vs : List Value} {i : Nat} {m : Str → Option Value}, P.Nodup → P[i]? = some x → vs[i]? = some v → kindOf x ≠ some .local →
    bindC kindOf (P.zip vs) m x = some v
  | [], _, _, _, _, h, _, _ => by simp at h
  | _ :: _, [], _, _, _, _, h, _ => by simp at h
  | p :: P, w :: vs, 0, m, nd, h1, h2, hk => by
    simp at h1 h2; subst h1; subst h2
    show bindC kindOf ((p, w) :: P.zip vs) m p = _
    unfold bindC
    rw [bindC_out fun v hv => (List.nodup_cons.mp nd).1 (List.of_mem_zip hv).1, if_neg hk]
    simp
  | p :: P, w :: vs, i + 1, m, nd, h1, h2, hk => by
    show bindC kindOf ((p, w) :: P.zip vs) m x = _
    unfold bindC
    exact bindC_get (i := i) (List.nodup_cons.mp nd).2 (by simpa using h1) (by simpa using h2) hk
def start (N : List Str) (vs : List V) : St := vs.map some ++ List.replicate (N.length - vs.length) none
def cxOf (CX : CXT) (P : Program) (w : World) (K : PySem.W.Frag) (mg : Str → Option Value) (base : Heap) (N : List Str) (qual : Str) (scope : Scope) (f : Addr) (cd : Value) (A : Around) (outer : List Env) (s : Shared) (H : Hp) (E : XK) : Cx where
  prog := P
  w := w
  K := K
  mg := mg
  base := base
  A := A.deeper (envOfC qual scope s.heap.objs.size f cd)
  N := N
  s₀ := s
  H₀ := H
  env := envOfC qual scope s.heap.objs.size f cd
  outer := outer
  stack := envOfC qual scope s.heap.objs.size f cd :: outer
  ex := []
  calm := true
  fn := fun _ => true
  pn := []
  xe := fun e s' => wpAny (model P w) (A.deeper (envOfC qual scope s.heap.objs.size f cd)) (leaving (envOfC qual scope s.heap.objs.size f cd) e) (fun _ s'' => CX outer H s E e s'') (fun e' s'' => CX outer H s E e' s'') s'
theorem cell_has {sc : Scope} {n : Nat} {x : Str} (h : sc.names.lookup x = some .cell) : ∃ c, (cellsFrom n sc.names []).lookup x = some c := by
  have q := PySem.W.cellsFrom_some sc.names n [] (.inl h)
  exact Option.isSome_iff_exists.mp q
theorem inv_start {CX : CXT} {P : Program} {w : World} {K : PySem.W.Frag} {mg : Str → Option Value} {base : Heap} {N ps : List Str} {qual : Str} {scope : Scope} {f : Addr} {cd : Value} {A : Around} {outer : List Env} {s s1 : Shared} {H : Hp} {E : XK} {us : List Value} {vs : List V}
    (S : FnScope N ps scope) (hd : A.handled = none) (e0 : Env0 P w K mg base A outer s H) (hl : vs.length = ps.length) (r : Vals vs us)
    (x : InCallC s s.heap.objs.size (bindL (envOfC qual scope s.heap.objs.size f cd).kindOf (ps.zip us) fun _ => none) (cellsFrom (s.heap.objs.size + 1) scope.names []) (bindC (envOfC qual scope s.heap.objs.size f cd).kindOf (ps.zip us) fun _ => none) s1) :
    Inv (cxOf CX P w K mg base N qual scope f cd A outer s H E) [] (start N vs) H s1 := by
  have hpl : ps.length ≤ N.length := by have := congrArg List.length S.pre; rw [List.length_take] at this; omega
  obtain ⟨h1, tk, rfl, hk⟩ := x.done
  have noA : ∀ b : Addr, b ∉ (cxOf CX P w K mg base N qual scope f cd A outer s H E).ex := fun b z => absurd (show b ∈ ([] : List Addr) from z) (by simp)
  refine ⟨⟨e0.mod, S.kind, rfl, rfl, Nat.le_refl _, fun y z c h1 h2 => ?_, fun y hy => ?_, fun y c _ h => ?_, fun _ => hd, Around.frames_deeper e0.frames, .inr ⟨rfl, rfl⟩, fun b z => absurd z (noA b), e0.bs, e0.bsz, fun b _ _ => noA b, fun b z => absurd z (noA b), e0.funs, e0.frf⟩,
    rfl, e0.bare, Un.kept hk, ⟨_, x.toInCall.ns, fun i y v h1 h2 h3 => ?_⟩, fun y c h => ⟨_, x.cell y c h⟩, e0.hok.fresh (Nat.le_refl _), fun y c h => ?_, fun p hp => absurd (show p ∈ ([] : List (Addr × Obj)) from hp) (by simp), e0.hok.kept hk, ?_⟩
  · exact name_of_addr x.apart (PySem.mem_of_lookup h1) (PySem.mem_of_lookup h2)
  · have hy : scope.names.lookup y = some .cell ∨ scope.names.lookup y = some .free := hy
    rcases hy with hy | hy
    · exact cell_has hy
    · exact absurd rfl (S.nofree _ (PySem.mem_of_lookup hy))
  · exact Nat.le_of_lt (x.above y c (PySem.mem_of_lookup h))
  · have hi : i < vs.length := by
      unfold start at h2
      by_cases hi : i < vs.length
      · exact hi
      · rw [List.getElem?_append_right (by simpa using hi)] at h2
        rw [List.getElem?_replicate] at h2
        split at h2 <;> cases h2
    have ha : vs[i]? = some v := by
      unfold start at h2
      rw [List.getElem?_append_left (by simpa using hi), List.getElem?_map] at h2
      cases e : vs[i]? with
      | none => rw [e] at h2; cases h2
      | some a => rw [e] at h2; cases h2; rfl
    obtain ⟨u, hu, rv⟩ := r.get ha
    have hp : ps[i]? = some y := by
      rw [← S.pre, List.getElem?_take_of_lt (by omega)]; exact h1
    have ndP : ps.Nodup := by rw [← S.pre]; exact S.nd.sublist (List.take_sublist _ _)
    refine ⟨u, rv, ?_⟩
    rcases S.par y (List.mem_of_getElem? hp) with k | k
    · exact .inl ⟨k, bindL_get ndP hp hu k⟩
    · obtain ⟨c, e⟩ := cell_has (n := s.heap.objs.size + 1) k
      refine .inr ⟨.inl k, c, e, ?_⟩
      have q := x.cell y c e
      rw [bindC_get ndP hp hu (by show scope.names.lookup y ≠ _; rw [k]; decide)] at q
      exact q
  · exact e0.hok.fresh (Nat.le_of_lt (x.above y c (PySem.mem_of_lookup h)))
  · unfold start
    show _ = N.length
    rw [List.length_append, List.length_map, List.length_replicate]
    omega
theorem fn_of {CX : CXT} {P : Program} {w : World} {K : PySem.W.Frag} {mg : Str → Option Value} {base : Heap} {k : Nat} {f : Addr} {name qual : Str} {params : Arguments} {body : List Stmt} {scope : Scope} {dV kV doc pm cdv ct oc : Value} {an od : Option Addr}
    {osl : Array (Option Value)} {N ps : List Str} {sp : Sp} (lk : K.lookup f = some ⟨oc, od, .func (PySem.W.fnOf name qual params body scope dV kV doc pm an cdv ct), osl⟩) (hcd : PySem.W.codeIn K cdv qual = true) (S : FnScope N ps scope)
    (len : ∀ vs H Q E, sp vs H Q E → vs.length = ps.length)
    (hbody : ∀ (A : Around) (outer : List Env) (s : Shared) (H : Hp) (vs : List V) (Q : VK) (E : XK), Room k (A.deeper (envOfC qual scope s.heap.objs.size f cdv)) → sp vs H Q E →
      ∃ t, PSs (cxOf CX P w K mg base N qual scope f cdv A outer s H E) body t ∧ t { nx := fun _ H' => Q .non H', rt := Q } (start N vs) H) :
    FnOk P w K mg base CX (k + 1) f (PySem.W.fnOf name qual params body scope dV kV doc pm an cdv ct) ps sp := by
  refine ⟨len, fun A outer s H args us vs Q E hr e0 hb r hsp => ?_⟩
  have hl := len _ _ _ _ hsp
  have KX : K.In s.heap := e0.mod.kin.keeps fun b o e => (e0.bs b o e).1
  have lim : s.heap.NoLimit := e0.mod.nolimit.keeps fun b o e => (e0.bs b o e).1
  have hkind : ∀ y ∈ ps.zip us, scope.names.lookup y.1 = some .local ∨ (scope.names.lookup y.1 = some .cell ∧ ((cellsFrom (s.heap.objs.size + 1) scope.names []).lookup y.1).isSome = true) := fun ⟨n, v⟩ hy => by
    rcases S.par n (List.of_mem_zip hy).1 with q | q
    · exact .inl q
    · exact .inr ⟨q, PySem.W.cellsFrom_some _ _ _ (.inl q)⟩
  refine codeAny_call_function hr.depth (KX _ _ lk) rfl S.co S.gen rfl (PySem.W.codeRec_of KX hcd) (hb _ _ _ _ ?_)
  refine wpAny_newFunctionEnv_cells S.kind hkind fun env he s1 x => ?_
  subst he
  refine ⟨lim.keeps x.toInCall.keep, codeAny_func ?_⟩
  obtain ⟨t, ht, hq⟩ := hbody A outer s H vs Q E (hr.deeper _) hsp
  have I : Inv (cxOf CX P w K mg base N qual scope f cdv A outer s H E) [] (start N vs) H s1 := inv_start S hr.hd e0 hl r x
  refine wpAny_mono (ht [] s1 (start N vs) H _ I hq) (fun fl s' hs => ?_) fun e s' hs => hs
  have fin : ∀ {σ' : St} {H' : Hp} {v : V} {u : Value}, Inv (cxOf CX P w K mg base N qual scope f cdv A outer s H E) [] σ' H' s' → RelV v u → Q v H' → CE outer P w H s Q u s' :=
    fun {σ' H' v u} J rv q => ⟨v, H', J.os, J.bare, J.base, J.hok, rv, q⟩
  cases fl with
  | ret u =>
    obtain ⟨v, σ', H', J, rv, q⟩ := hs
    exact fin J rv q
  | next =>
    obtain ⟨σ', H', J, q⟩ := hs
    exact fin (v := V.non) (u := Value.none) J rfl q
  | brk =>
    obtain ⟨_, _, _, q⟩ := hs
    exact False.elim q
  | cont =>
    obtain ⟨_, _, _, q⟩ := hs
    exact False.elim q
end L2
namespace L2
open PySem PySem.Spec PyProof.Rows
section
variable {X : Cx} {x : Str} {p pos : Pos} {e : Expr} {es : List Expr} {t : TA} {id T : String} {r : List V → Hp → VK → Prop}
def tCB (r : List V → Hp → VK → Prop) (t : TA) : TE := fun σ H Q => t σ H fun vs H1 => r vs H1 Q
theorem pe_callB (hc : CallR X (.builtin id) r) (hg : Gl X x) (hm : X.mg x = none) (hv : bootBuiltins x = some (.builtin id)) (ha : PA X (e :: es) t) (hn : x ≠ "__name__" := by decide) (hdb : (x == ("__debug__" : Str)) = false := by decide)
    (he : starEach (e :: es) X.env = (false, eval e X.env) :: starEach es X.env := by rfl) (hpl : (backTo pos (starEach es X.env)).any (·.1) = false := by rfl) : PE X (.Call (.Name x p) (e :: es) [] pos) (tCB r t) := by
  intro pins s σ H Q I h
  refine wpAny_Call_Name_kw (ld_blt I hg hm hv ?_ hn hdb)
  exact PyProof.Rows.callWith_builtin1 (thn (ha pos pins s σ H _ I h) fun us s1 ⟨vs, H1, I1, r1, q1⟩ => hc pins s1 σ H1 vs us Q I1 r1 q1) he hpl
theorem pe_callTy (hc : CallR X (.type T) r) (hg : Gl X x) (hm : X.mg x = none) (hv : bootBuiltins x = some (.type T)) (ha : PA X (e :: es) t) (hn : x ≠ "__name__" := by decide) (hdb : (x == ("__debug__" : Str)) = false := by decide)
    (he : starEach (e :: es) X.env = (false, eval e X.env) :: starEach es X.env := by rfl) (hpl : (backTo pos (starEach es X.env)).any (·.1) = false := by rfl) : PE X (.Call (.Name x p) (e :: es) [] pos) (tCB r t) := by
  intro pins s σ H Q I h
  refine wpAny_Call_Name_kw (ld_blt I hg hm hv ?_ hn hdb)
  exact PyProof.Rows.callWith_type1 (thn (ha pos pins s σ H _ I h) fun us s1 ⟨vs, H1, I1, r1, q1⟩ => hc pins s1 σ H1 vs us Q I1 r1 q1) he hpl
end
end L2
namespace HT
open PySem PyProof.Rows
section
open PySem.SeqAt
open PySem.AutoSeq1 (wpAny_loadPart')
open PySem.MeetsSeq PySem.MeetsSeq2 PySem.MeetsSeq3
end
section
variable {prog : Program} {w : World} {A : Around} {E : Value → Shared → Prop} {s : Shared}
def sIx (n d : Nat) : Option Int → Nat
  | none => d
  | some v => if v < 0 then (v + (n : Int)).toNat else min v.toNat n
theorem sIx_none (n d : Nat) : sIx n d none = d := rfl
theorem sIx_nat (n d k : Nat) : sIx n d (some (k : Int)) = min k n := by
  show (if (k : Int) < 0 then ((k : Int) + (n : Int)).toNat else min (k : Int).toNat n) = min k n
  rw [if_neg (by omega), Int.toNat_natCast]
end
end HT
namespace L2
open PySem PySem.Spec PyProof.Rows
abbrev TO := St → Hp → (Option Int → Hp → Prop) → Prop
def PO (X : Cx) (e : Option Expr) (t : TO) : Prop :=
  ∀ (pins : List (Addr × Obj)) (s : Shared) (σ : St) (H : Hp) (Q : Option Int → Hp → Prop), Inv X pins σ H s → t σ H Q →
    wpAny (model X.prog X.w) X.A (evalPart e X.env) (fun u s' => ∃ o H', Inv X pins σ H' s' ∧ IsPart u o ∧ Q o H') X.xe s
def tNoPart : TO := fun _ H Q => Q none H
def tPart (t : TE) : TO := fun σ H Q => t σ H fun x H1 => ∃ i, x = .int i ∧ Q (some i) H1
section
variable {X : Cx} {e : Expr} {te : TE} {lo hi : Option Expr} {tl th : TO} {pos p2 : Pos}
theorem po_none : PO X none tNoPart := by
  intro pins s σ H Q I h
  rw [evalPart_none]
  exact wpAny_pure ⟨none, H, I, .none, h⟩
theorem po_some (h : PE X e te) : PO X (some e) (tPart te) := by
  intro pins s σ H Q I hw
  rw [evalPart_some]
  refine thn (h pins s σ H _ I hw) fun u s1 ⟨x, H1, I1, r1, q1⟩ => ?_
  obtain ⟨i, rfl, q⟩ := q1
  obtain ⟨t, rfl⟩ := r1
  exact ⟨some i, H1, I1, .int i t, q⟩
def SlR (X : Cx) (r : V → Option Int → Option Int → Hp → VK → Prop) : Prop :=
  ∀ (pins : List (Addr × Obj)) (s : Shared) (σ : St) (H : Hp) (x : V) (v vl vu : Value) (lo hi : Option Int) (sl : Addr) (Q : VK), Inv X pins σ H s → RelV x v → s.heap.IsSliceOf sl vl vu .none → IsPart vl lo → IsPart vu hi → r x lo hi H Q →
    ∃ T id, typeLookup (.type T) "__getitem__" = pure (some (.builtin id)) ∧ s.TypeIs v T ∧ wpAny (model X.prog X.w) X.A (getItem v (.ref sl)) (EP X pins σ Q) X.xe s
theorem SlR.or {r r' : V → Option Int → Option Int → Hp → VK → Prop} (h : SlR X r) (h' : SlR X r') : SlR X (fun x lo hi H Q => r x lo hi H Q ∨ r' x lo hi H Q) := by
  intro pins s σ H x v vl vu lo hi sl Q I rx hs pl pu q
  rcases q with q | q
  · exact h pins s σ H x v vl vu lo hi sl Q I rx hs pl pu q
  · exact h' pins s σ H x v vl vu lo hi sl Q I rx hs pl pu q
def tSl (r : V → Option Int → Option Int → Hp → VK → Prop) (te : TE) (tl th : TO) : TE := fun σ H Q => te σ H fun x H1 => tl σ H1 fun l H2 => th σ H2 fun u H3 => r x l u H3 Q
theorem pe_slice {r : V → Option Int → Option Int → Hp → VK → Prop} (hr : SlR X r) (he : PE X e te) (hl : PO X lo tl) (hu : PO X hi th) : PE X (.Subscript e (.Slice lo hi none p2) pos) (tSl r te tl th) := by
  intro pins s σ H Q I h
  refine Subscript_ (thn (he pins s σ H _ I h) fun v s1 ⟨x, H1, I1, r1, q1⟩ => ?_)
  refine wpAny_Slice (thn (hl pins s1 σ H1 _ I1 q1) fun vl s2 ⟨l, H2, I2, pl, q2⟩ => thn (hu pins s2 σ H2 _ I2 q2) fun vu s3 ⟨u, H3, I3, pu, q3⟩ => ?_)
  rw [evalPart_none]
  refine wpAny_pure ?_
  have I4 : Inv X pins σ H3 { s3 with heap := s3.heap.push { cls := .type "slice", data := .fields #[vl, vu, .none] } } := I3.kept (t' := s3.toks) fun b ob q => Heap.get?_push_of_some _ q
  obtain ⟨T, id, hT, ht, hg⟩ := hr pins { s3 with heap := s3.heap.push { cls := .type "slice", data := .fields #[vl, vu, .none] } } σ H3 x v vl vu l u s3.heap.objs.size Q I4 r1 (Heap.IsSliceOf.new ..) pl pu q3
  show wpAny (model X.prog X.w) X.A (subscriptTail e (.Slice lo hi none p2) v (.ref s3.heap.objs.size)) (EP X pins σ Q) X.xe { s3 with heap := s3.heap.push { cls := .type "slice", data := .fields #[vl, vu, .none] } }
  exact tail_any (ops := [.ref s3.heap.objs.size, v]) ht hT hg (by with_unfolding_all rfl)
def cutV (xs : List V) (lo hi : Option Int) : List V := (xs.drop (HT.sIx xs.length 0 lo)).take (HT.sIx xs.length xs.length hi - HT.sIx xs.length 0 lo)
theorem cutV_length (xs : List V) (lo hi : Option Int) : (cutV xs lo hi).length ≤ xs.length := by
  unfold cutV
  rw [List.length_take, List.length_drop]
  omega
end
end L2
namespace L2
open PySem PySem.Spec PyProof.Rows
def ixN (n : Nat) (i : Int) : Option Nat := if 0 ≤ i then (if i < n then some i.toNat else none) else if -(n : Int) ≤ i then some (i + n).toNat else none
def atI {α : Type} (xs : List α) (i : Int) : Option α := (ixN xs.length i).bind fun j => xs[j]?
theorem ixN_seq {n : Nat} {i : Int} {j : Nat} (h : ixN n i = some j) : seqIndex? i n = some j ∧ j < n ∧ -(n : Int) ≤ i ∧ i < n := by
  unfold ixN at h
  by_cases h0 : 0 ≤ i
  · rw [if_pos h0] at h
    by_cases h1 : i < n
    · rw [if_pos h1] at h
      have e : i.toNat = j := Option.some.inj h
      exact ⟨by rw [seqIndex_of h0 h1, e], by omega, by omega, h1⟩
    · rw [if_neg h1] at h; cases h
  · rw [if_neg h0] at h
    by_cases h1 : -(n : Int) ≤ i
    · rw [if_pos h1] at h
      have e : (i + n).toNat = j := Option.some.inj h
      exact ⟨by rw [seqIndex_neg (by omega) h1, e], by omega, h1, by omega⟩
    · rw [if_neg h1] at h; cases h
theorem atI_get {α : Type} {xs : List α} {i : Int} {v : α} (h : atI xs i = some v) : ∃ j, seqIndex? i xs.length = some j ∧ xs[j]? = some v ∧ j < xs.length ∧ -(xs.length : Int) ≤ i ∧ i < xs.length := by
  unfold atI at h
  cases e : ixN xs.length i with
  | none => rw [e] at h; cases h
  | some j =>
    rw [e] at h
    obtain ⟨h1, h2, h3, h4⟩ := ixN_seq e
    exact ⟨j, h1, h, h2, h3, h4⟩
theorem atI_nat {α : Type} {xs : List α} {j : Nat} {v : α} (h : xs[j]? = some v) : atI xs (j : Int) = some v := by
  have hj : j < xs.length := (List.getElem?_eq_some_iff.mp h).1
  have e : ixN xs.length (j : Int) = some j := by
    unfold ixN
    rw [if_pos (by omega), if_pos (by omega)]; simp
  unfold atI; rw [e]; exact h
def PlainIx (b : Expr) : Prop := ∀ o i, subscripted b false o i = operate [o, i] (getItem o i)
def IxR (X : Cx) (r : R2) : Prop :=
  ∀ (value slice : Expr) (pins : List (Addr × Obj)) (s : Shared) (σ : St) (H : Hp) (x y : V) (v u : Value) (Q : VK), Inv X pins σ H s → RelV x v → RelV y u → r x y H Q →
    subscripted slice false v u = operate [v, u] (getItem v u) → wpAny (model X.prog X.w) X.A (subscriptTail value slice v u) (EP X pins σ Q) X.xe s
def MtR (X : Cx) (id : String) (r : V → List V → Hp → VK → Prop) : Prop :=
  ∀ (pins : List (Addr × Obj)) (s : Shared) (σ : St) (H : Hp) (x : V) (xs : List V) (v : Value) (us : List Value) (Q : VK), Inv X pins σ H s → RelV x v → Vals xs us → r x xs H Q →
    wpAny (model X.prog X.w) X.A (call (.builtin id) (v :: us)) (EP X pins σ Q) X.xe s
section
variable {X : Cx} {a b : Expr} {ta tb : TE} {pos : Pos}
theorem IxR.or {r r' : R2} (h : IxR X r) (h' : IxR X r') : IxR X (fun x y H Q => r x y H Q ∨ r' x y H Q) := by
  intro value slice pins s σ H x y v u Q I rx ry q hs
  rcases q with q | q
  · exact h value slice pins s σ H x y v u Q I rx ry q hs
  · exact h' value slice pins s σ H x y v u Q I rx ry q hs
theorem MtR.or {id : String} {r r' : V → List V → Hp → VK → Prop} (h : MtR X id r) (h' : MtR X id r') : MtR X id (fun x xs H Q => r x xs H Q ∨ r' x xs H Q) := by
  intro pins s σ H x xs v us Q I rx rs q
  rcases q with q | q
  · exact h pins s σ H x xs v us Q I rx rs q
  · exact h' pins s σ H x xs v us Q I rx rs q
theorem pe_ix {r : R2} (hr : IxR X r) (ha : PE X a ta) (hb : PE X b tb) (hs : PlainIx b) : PE X (.Subscript a b pos) (tOp r ta tb) := by
  intro pins s σ H Q I h
  exact Subscript_ (binT ha hb I h fun v u s2 x y H2 I2 rx ry q => hr a b pins s2 σ H2 x y v u Q I2 rx ry q (hs _ _))
def rIxL (K : PySem.W.Frag) : R2 := fun x y H Q => ∃ p xs i v, x = .ref p ∧ y = .int i ∧ SqL K H p xs ∧ atI xs i = some v ∧ Q v H
def rIxT (K : PySem.W.Frag) : R2 := fun x y H Q => ∃ p xs i v, x = .ref p ∧ y = .int i ∧ SqT K H p xs ∧ atI xs i = some v ∧ Q v H
def rIxS : R2 := fun x y H Q => ∃ z i c, x = .str z ∧ y = .int i ∧ z.length ≤ sizeLine ∧ atI z.cps.toList i = some c ∧ Q (.str ⟨#[c]⟩) H
theorem ix_list : IxR X (rIxL X.K) := by
  intro value slice pins s σ H x y v u Q I rx ry h hs
  obtain ⟨p, xs, i, z, rfl, rfl, hq, he, q⟩ := h
  cases rx
  obtain ⟨t, rfl⟩ := ry
  obtain ⟨its, r, pl, hz⟩ := I.list hq
  obtain ⟨j, h1, h2, h3, h4, h5⟩ := atI_get he
  obtain ⟨w, ew, rw'⟩ := r.get h2
  have hl := r.length
  have hn := line63
  have fin : EP X pins σ Q w s := ⟨z, H, I, rw', q⟩
  by_cases h0 : 0 ≤ i
  · have hj : i.toNat = j := by
      rw [seqIndex_of h0 h5] at h1
      exact Option.some.inj h1
    exact item_listR pl.isList h0 (by omega) (by rw [hj]; simpa using ew) fin hs
  · have hj : (i + (its.toArray.size : Int)).toNat = j := by
      rw [seqIndex_neg (by omega) h4] at h1
      rw [List.size_toArray, ← hl]
      exact Option.some.inj h1
    exact subscriptTail_builtinR (x := w) pl.isList.typeIs slot_list_getitem.lookup
      (wpAny_getItem_list_neg (Q := fun r s' => r = w ∧ EP X pins σ Q r s') pl.isList (by omega) (by rw [List.size_toArray] <;> omega) (by omega) (by rw [hj]; simpa using ew) ⟨rfl, fin⟩) hs
theorem ix_tup : IxR X (rIxT X.K) := by
  intro value slice pins s σ H x y v u Q I rx ry h hs
  obtain ⟨p, xs, i, z, rfl, rfl, hq, he, q⟩ := h
  cases rx
  obtain ⟨t, rfl⟩ := ry
  obtain ⟨its, r, pl, hz⟩ := I.tuple hq
  obtain ⟨j, h1, h2, h3, h4, h5⟩ := atI_get he
  obtain ⟨w, ew, rw'⟩ := r.get h2
  have hl := r.length
  have hn := line63
  have fin : EP X pins σ Q w s := ⟨z, H, I, rw', q⟩
  exact subscriptTail_builtinR (x := w) pl.typeIs slot_tuple_getitem.lookup
    (getItem_tuple (j := j) (Q := fun r s' => r = w ∧ EP X pins σ Q r s') pl (by omega) (by omega) (by rw [List.size_toArray, ← hl]; exact h1) (by simpa using ew) ⟨rfl, fin⟩) hs
theorem ix_str : IxR X rIxS := by
  intro value slice pins s σ H x y v u Q I rx ry h hs
  obtain ⟨z, i, c, rfl, rfl, hz, he, q⟩ := h
  obtain ⟨t, rfl⟩ := rx
  obtain ⟨t', rfl⟩ := ry
  obtain ⟨j, h1, h2, h3, h4, h5⟩ := atI_get he
  have hl : z.cps.toList.length = z.length := by simp [Str.length]
  rw [hl] at h1 h4 h5
  have hn := line63
  exact tail_any (typeIs_str s z t) slot_str_getitem.lookup (getItem_str (c := c) (by
    have e1 : decide (i < -(2 ^ 63 : Int)) = false := decide_eq_false (by omega)
    have e2 : decide (i ≥ 2 ^ 63) = false := decide_eq_false (by omega)
    rw [e1, e2, Bool.or_false]) (by rw [h1]; simpa using h2) ⟨.str ⟨#[c]⟩, H, I.tok _, ⟨_, rfl⟩, q⟩) hs
def rIx (K : PySem.W.Frag) : R2 := fun x y H Q => rIxL K x y H Q ∨ rIxT K x y H Q ∨ rIxS x y H Q
theorem ix_seq : IxR X (rIx X.K) := ix_list.or (ix_tup.or ix_str)
theorem mapSeq_set (its : List Value) (n j : Nat) (u : Value) : Obj.mapSeq (·.setIfInBounds j u) { cls := .type "list", data := .seq its.toArray n } = { cls := .type "list", data := .seq (its.set j u).toArray n } := by
  simp [Obj.mapSeq]
theorem Inv.lst {pins : List (Addr × Obj)} {σ : St} {H : Hp} {s : Shared} {p : Addr} {xs : List V} (I : Inv X pins σ H s) (h : H p = some (.lst xs)) :
    ∃ (its : List Value) (n : Nat), Vals xs its ∧ s.heap.get? p = some { cls := .type "list", data := .seq its.toArray n } ∧ xs.length ≤ sizeLine := by
  obtain ⟨z, its, n, r, e⟩ := I.hok p _ h
  exact ⟨its, n, r, e, z⟩
theorem Inv.lstUpd {pins : List (Addr × Obj)} {σ : St} {H : Hp} {s : Shared} {p : Addr} {xs ys : List V} {its its' : List Value} {n n' : Nat} {f : Obj → Obj} (I : Inv X pins σ H s) (h : H p = some (.lst xs))
    (ho : s.heap.get? p = some { cls := .type "list", data := .seq its.toArray n }) (hf : f { cls := .type "list", data := .seq its.toArray n } = { cls := .type "list", data := .seq its'.toArray n' }) (r : Vals ys its') (hz : ys.length ≤ sizeLine) (t : Nat) :
    Inv X pins σ (upd H p (.lst ys)) { s with heap := s.heap.update p f, toks := t } := by
  have e : (s.heap.update p f).get? p = some { cls := .type "list", data := .seq its'.toArray n' } := by
    rw [Heap.get?_update_self f ho (by rw [hf] <;> rfl), hf]
  refine I.write (x := p) (e := p) (by rw [h]; trivial) (.inl rfl) (fun b u hb q => (Heap.get?_update_other _ _ (Ne.symm hb)).trans q) ⟨_, e⟩ ?_
  exact ⟨hz, its', n', r, e⟩
def rSetL : V → V → V → Hp → (Hp → Prop) → Prop := fun o i v H Q => ∃ p xs k j, o = .ref p ∧ i = .int k ∧ H p = some (.lst xs) ∧ ixN xs.length k = some j ∧ Q (upd H p (.lst (xs.set j v)))
theorem set_list : PSet X rSetL := by
  intro pins s σ H o i v ov iv u Q I ro ri rv h
  obtain ⟨p, xs, k, j, rfl, rfl, hp, hj, q⟩ := h
  cases ro
  obtain ⟨t, rfl⟩ := ri
  obtain ⟨its, n, r, ho, hz⟩ := I.lst hp
  obtain ⟨h1, h2, h3, h4⟩ := ixN_seq hj
  have hl := r.length
  have hn := line63
  have I' : Inv X pins σ (upd H p (.lst (xs.set j v))) { s with heap := s.heap.update p (Obj.mapSeq (·.setIfInBounds j u)) } :=
    I.lstUpd hp ho (mapSeq_set its n j u) (r.set rv j) (by rw [List.length_set]; exact hz) s.toks
  by_cases h0 : 0 ≤ k
  · have hk : k.toNat = j := by
      rw [seqIndex_of h0 h4] at h1
      exact Option.some.inj h1
    exact PySem.W.ki_setAt ho h0 (by omega) (by rw [List.size_toArray, ← hl]; exact h4) (by rw [hk]; exact ⟨_, I', q⟩)
  · have hk : (k + (its.toArray.size : Int)).toNat = j := by
      rw [seqIndex_neg (by omega) h3] at h1
      rw [List.size_toArray, ← hl]
      exact Option.some.inj h1
    exact PySem.W.ki_setBack ho (by omega) (by rw [List.size_toArray, ← hl]; exact h3) (by omega) (by rw [hk]; exact ⟨_, I', q⟩)
theorem slice_bounds (lo hi : Option Int) (n : Nat) : (sliceBounds lo hi none n).1 = ((HT.sIx n 0 lo : Nat) : Int) ∧ (sliceBounds lo hi none n).2.1 = ((HT.sIx n n hi : Nat) : Int) ∧ (sliceBounds lo hi none n).2.2 = 1 := by
  refine ⟨?_, ?_, rfl⟩
  · cases lo with
    | none => simp [sliceBounds, HT.sIx]
    | some i =>
      simp only [sliceBounds, HT.sIx, Option.getD_none, show (1 : Int) > 0 by decide, if_true]
      by_cases h : i < 0
      · simp only [h, if_true] <;> omega
      · simp only [h, if_false] <;> omega
  · cases hi with
    | none => simp [sliceBounds, HT.sIx]
    | some i =>
      simp only [sliceBounds, HT.sIx, Option.getD_none, show (1 : Int) > 0 by decide, if_true]
      by_cases h : i < 0
      · simp only [h, if_true] <;> omega
      · simp only [h, if_false] <;> omega
theorem slicePick_cut (its : List Value) (lo hi : Option Int) : slicePick its.toArray lo hi none = ((its.drop (HT.sIx its.length 0 lo)).take (HT.sIx its.length its.length hi - HT.sIx its.length 0 lo)).toArray := by
  obtain ⟨h1, h2, h3⟩ := slice_bounds lo hi its.toArray.size
  unfold slicePick
  rw [h1, h2, h3]
  simp only [sliceRange_one, pick_run, List.size_toArray] <;> rfl
def rSlL (K : PySem.W.Frag) : V → Option Int → Option Int → Hp → VK → Prop := fun x lo hi H Q => ∃ a xs, x = .ref a ∧ SqL K H a xs ∧ ∀ p, H p = none → Q (.ref p) (upd H p (.lst (cutV xs lo hi)))
theorem sl_list : SlR X (rSlL X.K) := by
  intro pins s σ H x v vl vu lo hi sl Q I rx hs pl pu h
  obtain ⟨a, xs, rfl, hx, q⟩ := h
  cases rx
  obtain ⟨its, r, ht, hz⟩ := I.list hx
  have hlen := r.length
  refine ⟨"list", _, slot_list_getitem.lookup, ht.isList.typeIs, ?_⟩
  refine wpAny_getItem_list_slice ht.isList hs pl pu .none (by simp) ?_ (by rw [List.size_toArray] <;> omega)
  rw [slicePick_cut, ← hlen]
  refine ⟨.ref s.heap.objs.size, _, I.laid (t' := s.toks) (o := .lst (cutV xs lo hi)) (fun b ob q => Heap.get?_push_of_some _ q) (Nat.le_refl _) ?_, rfl, q _ (I.hok.fresh (Nat.le_refl _))⟩
  exact ⟨Nat.le_trans (cutV_length xs lo hi) hz, _, 0, (r.drop (HT.sIx xs.length 0 lo)).take (HT.sIx xs.length xs.length hi - HT.sIx xs.length 0 lo), Heap.get?_push_size _ rfl⟩
theorem CallR.or {f : Value} {r r' : List V → Hp → VK → Prop} (h : CallR X f r) (h' : CallR X f r') : CallR X f (fun xs H Q => r xs H Q ∨ r' xs H Q) := by
  intro pins s σ H xs us Q I rs q
  rcases q with q | q
  · exact h pins s σ H xs us Q I rs q
  · exact h' pins s σ H xs us Q I rs q
theorem call_list_of : CallR X (.type "list") (fun xs H Q => ∃ p ys, xs = [.ref p] ∧ (SqL X.K H p ys ∨ SqT X.K H p ys) ∧ ∀ l, H l = none → Q (.ref l) (upd H l (.lst ys))) := by
  intro pins s σ H xs us Q I r h
  obtain ⟨p, ys, rfl, hq, q⟩ := h
  obtain ⟨u, rfl, rx⟩ := vals1 r
  cases rx
  have fin : ∀ (its : List Value), Vals ys its → ys.length ≤ sizeLine → ∀ (h' : Heap) (c' : Nat), (∀ b o', s.heap.get? b = some o' → h'.get? b = some o') →
      h'.get? s.heap.objs.size = some { cls := .type "list", dict := none, data := .seq its.toArray c', slots := #[] } → EP X pins σ Q (.ref s.heap.objs.size) { s with heap := h' } := fun its r' hz h' c' kp e =>
    ⟨.ref s.heap.objs.size, _, I.laid (t' := s.toks) kp (Nat.le_refl _) (show ObjOk X.prog X.w _ h' _ (.lst ys) from ⟨hz, its, c', r', e⟩), rfl, q _ (I.hok.fresh (Nat.le_refl _))⟩
  rcases hq with hq | hq
  · obtain ⟨its, r', pl, hz⟩ := I.list hq
    have hlen := r'.length
    obtain ⟨o, ho, hc, n, hd⟩ := pl.isList
    exact call_list_seq p (.inl rfl) ho hc hd (fun h' c' kp e => fin its r' hz h' c' kp e) (by simp only [List.size_toArray] <;> omega)
  · obtain ⟨its, r', pl, hz⟩ := I.tuple hq
    have hlen := r'.length
    obtain ⟨o, ho, hc, n, hd⟩ := pl
    exact call_list_seq p (.inr rfl) ho hc hd (fun h' c' kp e => fin its r' hz h' c' kp e) (by simp only [List.size_toArray] <;> omega)
theorem call_tuple_of : CallR X (.type "tuple") (fun xs H Q => ∃ p ys, xs = [.ref p] ∧ ((SqL X.K H p ys ∧ ∀ l, H l = none → Q (.ref l) (upd H l (.tup ys))) ∨ (SqT X.K H p ys ∧ Q (.ref p) H))) := by
  intro pins s σ H xs us Q I r h
  obtain ⟨p, ys, rfl, h⟩ := h
  obtain ⟨u, rfl, rx⟩ := vals1 r
  cases rx
  rcases h with ⟨hq, q⟩ | ⟨hq, q⟩
  · obtain ⟨its, r', pl, hz⟩ := I.list hq
    have hlen := r'.length
    refine call_tuple_list pl.isList (fun h' kp => ?_) (by simp only [List.size_toArray] <;> omega)
    have I1 : Inv X pins σ H { s with heap := h' } := I.kept (t' := s.toks) kp
    have I2 : Inv X pins σ (upd H h'.objs.size (.tup ys)) { s with heap := h'.push { cls := .type "tuple", data := .seq its.toArray } } :=
      I1.laid (t' := s.toks) (fun b o e => Heap.get?_push_of_some _ e) (Nat.le_refl _) (show ObjOk X.prog X.w _ _ _ (.tup ys) from ⟨hz, its, r', IsTup.new _ _⟩)
    exact ⟨.ref h'.objs.size, _, I2, rfl, q _ (I1.hok.fresh (Nat.le_refl _))⟩
  · obtain ⟨its, r', pl, hz⟩ := I.tuple hq
    exact call_tuple_same pl ⟨.ref p, H, I, rfl, q⟩
def tyV (K : PySem.W.Frag) (T : String) (x : V) (H : Hp) : Prop := match x with
  | .str _ => T = "str"
  | .int _ => T = "int"
  | .ref p => (T = "list" ∧ ∃ xs, SqL K H p xs) ∨ (T = "tuple" ∧ ∃ o, K.lookup p = some o ∧ o.cls = .type "tuple" ∧ o.dict = none) ∨
      (T = "dict" ∧ ((∃ kvs, H p = some (.dK kvs)) ∨ ∃ kvs, H p = some (.dT kvs))) ∨ (T = "set" ∧ ∃ S n, H p = some (.set S n))
  | _ => False
theorem tyV_is {pins : List (Addr × Obj)} {σ : St} {H : Hp} {s : Shared} {T : String} {x : V} {v : Value} (I : Inv X pins σ H s) (r : RelV x v) (ty : tyV X.K T x H) :
    s.TypeIs v T ∧ ∀ a, v = .ref a → ∃ ob, s.heap.get? a = some ob ∧ ob.dict = none := by
  cases x with
  | str z =>
    obtain ⟨t, rfl⟩ := r
    cases (show T = "str" from ty)
    exact ⟨typeIs_str s z t, fun _ e => nomatch e⟩
  | int i =>
    obtain ⟨t, rfl⟩ := r
    cases (show T = "int" from ty)
    exact ⟨typeIs_int s i t, fun _ e => nomatch e⟩
  | ref p =>
    cases r
    rcases ty with ⟨rfl, xs, hq⟩ | ⟨rfl, o, hk, hc, hd⟩ | ⟨rfl, hk⟩ | ⟨rfl, S, n, hk⟩
    · obtain ⟨its, _, pl, _⟩ := I.list hq
      refine ⟨pl.isList.typeIs, fun a e => ?_⟩
      cases e
      obtain ⟨o, n, e, c, hd, _⟩ := pl
      exact ⟨o, e, hd⟩
    · refine ⟨⟨o, I.kIn p o hk, hc⟩, fun a e => ?_⟩
      cases e
      exact ⟨o, I.kIn _ o hk, hd⟩
    · have z : ∃ o, s.heap.get? p = some o ∧ o.ExactDict := by
        rcases hk with ⟨kvs, hk⟩ | ⟨kvs, hk⟩
        · obtain ⟨_, _, _, _, o, _, _, e, ex, _⟩ := I.hok p _ hk
          exact ⟨o, e, ex⟩
        · obtain ⟨_, _, _, _, o, _, _, e, ex, _⟩ := I.hok p _ hk
          exact ⟨o, e, ex⟩
      obtain ⟨o, e, ex⟩ := z
      refine ⟨⟨o, e, ex.1⟩, fun a e2 => ?_⟩
      cases e2
      exact ⟨o, e, ex.2.1⟩
    · obtain ⟨o, _, _, _, e, ex, _⟩ := I.hok p _ hk
      refine ⟨⟨o, e, ex.1⟩, fun a e2 => ?_⟩
      cases e2
      exact ⟨o, e, ex.2.1⟩
  | _ => exact False.elim ty
def tBM (K : PySem.W.Frag) (T : String) (r : V → List V → Hp → VK → Prop) (to : TE) (t : TA) : TE := fun σ H Q => to σ H fun x H1 => tyV K T x H1 ∧ t σ H1 fun xs H2 => r x xs H2 Q
variable {o e : Expr} {es : List Expr} {to : TE} {t : TA} {name : Str} {apos cpos : Pos} {T id : String} {r : V → List V → Hp → VK → Prop}
theorem pe_bm (pa : PlainAttrs T) (slot : Slot T name id) (hty : typeOf (.builtin id) = pure (.type "method_descriptor")) (hm : MtR X id r) (ho : PE X o to) (ha : PA X (e :: es) t)
    (hbase : attributeBase o name X.env (eval o X.env) = eval o X.env := by rfl)
    (hfew : ((backTo cpos (starEach (e :: es) X.env)).all (fun x => !x.1) && (backToKw cpos (keywordEach [] X.env)).all (fun x => x.1.isSome)
      && decide ((e :: es).length + ([] : List Keyword).length + (if ([] : List Keyword).isEmpty then 0 else 1) < 30)) = true := by rfl)
    (hline : (apos.endLine == cpos.line) = true := by rfl) (hs : starEach (e :: es) X.env = (false, eval e X.env) :: starEach es X.env := by rfl) (hplain : (backTo cpos (starEach es X.env)).any (·.1) = false := by rfl) :
    PE X (.Call (.Attribute o name apos) (e :: es) [] cpos) (tBM X.K T r to t) := by
  intro pins s σ H Q I h
  refine wpAny_Call_method_late hbase hfew hline rfl (thn (ho pins s σ H _ I h) fun v s1 ⟨x, H1, I1, r1, ty, q1⟩ => ?_)
  obtain ⟨h1, h2⟩ := tyV_is I1 r1 ty
  refine ⟨T, id, pa, slot, hty, h1, h2, ?_⟩
  have hA := ha cpos pins s1 σ H1 _ I1 q1
  rw [hs] at hA ⊢
  refine Calls.callWith_builtin (by show (false || (backTo cpos (starEach es X.env)).any (·.1)) = false; rw [hplain] <;> rfl) (Calls.evalArgs_plain ?_)
  exact thn hA fun us s2 ⟨vs, H2, I2, r2, q2⟩ => hm pins s2 σ H2 x vs v us Q I2 r1 r2 q2
/- xs.append(e), list.index on a module's tuple .. are MtR facts of 06m -/
end
end L2
namespace L2
open PySem PySem.Spec PyProof.Rows
def MtM (X : Cx) (id : String) (r : V → List V → Hp → VK → Prop) : Prop :=
  ∀ (pins : List (Addr × Obj)) (s : Shared) (σ : St) (H : Hp) (x : V) (xs : List V) (v : Value) (us : List Value) (Q : VK), Inv X pins σ H s → RelV x v → Vals xs us → r x xs H Q →
    wpAny (model X.prog X.w) X.A (call (.builtin id) (v :: us)) (EP X pins σ Q) X.xe s
theorem Vals.one : ∀ {x : V} {us : List Value}, Vals [x] us → ∃ u, us = [u] ∧ RelV x u
  | _, _, .cons r .nil => ⟨_, rfl, r⟩
theorem Vals.two : ∀ {x y : V} {us : List Value}, Vals [x, y] us → ∃ u v, us = [u, v] ∧ RelV x u ∧ RelV y v
  | _, _, _, .cons r (.cons q .nil) => ⟨_, _, rfl, r, q⟩
theorem Vals.zero : ∀ {us : List Value}, Vals [] us → us = []
  | _, .nil => rfl
theorem Vals.eraseIdx : ∀ {xs : List V} {us : List Value} (i : Nat), Vals xs us → Vals (xs.eraseIdx i) (us.eraseIdx i)
  | _, _, _, .nil => .nil
  | _, _, 0, .cons _ t => t
  | _, _, i + 1, .cons r t => .cons r (Vals.eraseIdx i t)
theorem Vals.reverse {xs : List V} {us : List Value} (h : Vals xs us) : Vals xs.reverse us.reverse := by
  induction h with
  | nil => exact .nil
  | cons r t ih => rw [List.reverse_cons, List.reverse_cons]; exact Vals.append ih (.cons r .nil)
section
variable {X : Cx} {pins : List (Addr × Obj)} {σ : St} {H : Hp} {s : Shared} {l b : Addr} {xs ys zs : List V}
theorem Inv.lset {its its' : List Value} {n : Nat} {f : Array Value → Array Value} {t' : Nat} (I : Inv X pins σ H s) (hH : H l = some (.lst xs))
    (e : s.heap.get? l = some { cls := .type "list", data := .seq its.toArray n }) (hf : f its.toArray = its'.toArray) (hv : Vals ys its') (hz : ys.length ≤ sizeLine) :
    Inv X pins σ (upd H l (.lst ys)) { s with heap := s.heap.update l (Obj.mapSeq f), toks := t' } := by
  have q := PySem.IsL.update e f
  rw [hf] at q
  refine I.write (x := l) (e := l) (by rw [hH]; exact trivial) (.inl rfl) (fun b' u hb hu => (Heap.get?_update_other s.heap (Obj.mapSeq f) (Ne.symm hb)).trans hu) ⟨_, q⟩ ?_
  exact ⟨hz, its', _, hv, q⟩
theorem Inv.lnew {its : List Value} {t' : Nat} (I : Inv X pins σ H s) (hv : Vals ys its) (hz : ys.length ≤ sizeLine) :
    Inv X pins σ (upd H s.heap.objs.size (.lst ys)) { s with heap := s.heap.push { cls := .type "list", data := .seq its.toArray }, toks := t' } :=
  I.laid (fun _ _ q => Heap.get?_push_of_some _ q) (Nat.le_refl _) ⟨hz, its, 0, hv, Heap.get?_push_size _ rfl⟩
theorem Inv.fresh (I : Inv X pins σ H s) : H s.heap.objs.size = none := I.hok.fresh (Nat.le_refl _)
theorem Inv.lstM (I : Inv X pins σ H s) (hH : H l = some (.lst xs)) : xs.length ≤ sizeLine ∧ ∃ (its : List Value) (n : Nat), Vals xs its ∧ xs.length = its.length ∧ s.heap.get? l = some { cls := .type "list", data := .seq its.toArray n } := by
  obtain ⟨z, its, n, r, e⟩ := I.hok l _ hH
  exact ⟨z, its, n, r, r.length, e⟩
theorem notLongL {n : Nat} (h : n ≤ sizeLine) : Builtin.List.listTooLong n = false := by
  unfold Builtin.List.listTooLong
  exact decide_eq_false (by omega)
end
section
variable {X : Cx}
def rAppend : V → List V → Hp → VK → Prop := fun x vs H Q => ∃ l xs y, x = .ref l ∧ vs = [y] ∧ H l = some (.lst xs) ∧ xs.length < sizeLine ∧ Q .non (upd H l (.lst (xs ++ [y])))
theorem mt_append : MtM X "list.append" rAppend := by
  intro pins s σ H x vs v us Q I rx rv h
  obtain ⟨l, xs, y, rfl, rfl, hH, hz, q⟩ := h
  cases rx
  obtain ⟨u, rfl, ru⟩ := rv.one
  obtain ⟨z, its, n, r, hl, e⟩ := I.lstM hH
  refine call_meets F.slot_list_append ⟨_, e, rfl⟩ F.entry_list_append (F.args_list_append_2 _ _) (PySem.list_append l its.toArray n u (by rw [List.size_toArray]; omega)) ⟨e, ?_⟩
  refine ⟨.non, _, I.lset (its' := its ++ [u]) hH e (by simp) (r.append (.cons ru .nil)) ?_, rfl, q⟩
  rw [List.length_append, List.length_singleton]
  omega
end
section
variable {prog : Program} {w : World} {A : Around} {E : Value → Shared → Prop} {s : Shared}
theorem bounds_run {a c n : Nat} (hac : a ≤ c) (hc : c ≤ n) : sliceBounds (some (a : Int)) (some (c : Int)) none n = ((a : Int), (c : Int), 1) := by
  simp only [sliceBounds, Option.getD_none]
  have h1 : ¬ ((a : Int) < 0) := by omega
  have h2 : ¬ ((c : Int) < 0) := by omega
  simp only [h1, h2, if_false, show (1 : Int) > 0 by decide, if_true]
  congr 1
  · omega
  · congr 1; omega
set_option maxRecDepth 100000 in
theorem setItem_slice {l b sl : Addr} {items new : Array Value} {n n2 : Nat} {vl vu : Value} {a c : Nat} {Q : Unit → Shared → Prop}
    (e : s.heap.get? l = some { cls := .type "list", data := .seq items n }) (e2 : s.heap.get? b = some { cls := .type "list", data := .seq new n2 }) (hne : l ≠ b)
    (hs : s.heap.IsSliceOf sl vl vu .none) (pl : IsPart vl (some (a : Int))) (pu : IsPart vu (some (c : Int))) (hac : a ≤ c) (hc : c ≤ items.size)
    (hsz : items.size + new.size ≤ sizeLine) (h : Q () { s with heap := s.heap.update l (Obj.mapSeq fun xs => xs.extract 0 a ++ new ++ xs.extract c xs.size) }) :
    wpAny (model prog w) A (setItem (.ref l) (.ref sl) (.ref b)) Q E s := by
  have hl : s.heap.IsList l items := PySem.IsL.isList e
  have hb : s.heap.IsList b new := PySem.IsL.isList e2
  obtain ⟨os, hos, hcs, hds⟩ := id hs
  have hTs : s.TypeIs (.ref sl) "slice" := ⟨os, hos, hcs⟩
  have hstep : ¬ ((rawPart none == rawInt 0) = true) := Bool.false_ne_true
  have hsame : Builtin.List.listSameRef (.ref l) (.ref b) = false := by
    unfold Builtin.List.listSameRef
    exact beq_eq_false_iff_ne.mpr hne
  have hmax : (max (a : Int) (c : Int)).toNat = c := by omega
  have hz' : ((fun xs : Array Value => xs.extract 0 a ++ new ++ xs.extract c xs.size) items).size ≤ sizeLine + 1 := by
    simp only [Array.size_append, Array.size_extract]
    omega
  unfold setItem
  try with_reducible refine wpAny_holding ?_
  first | refine wpAny_bind (wpAny_pure ?_) | skip
  refine wpAny_bind (wpAny_sequenceKey hl.typeIs (by decide) ?_)
  refine wpAny_bind (wpAny_callSpecial?_slot (name := Str.ofString "__setitem__") hl.typeIs slot_list_setitem
    (wpAny_call_entry slot_list_setitem hl.typeIs entry_list_setitem ?_ (args_list_setitem _ _ _)))
  show wpAny _ _ (Builtin.List.listSubscript? (.ref sl) >>= _) _ _ s
  refine wpAny_bind ?_
  unfold Builtin.List.listSubscript?
  refine wpAny_bind (wpAny_specialOf hTs slice_no_index ?_)
  simp only [Option.isNone_none, if_true]
  refine wpAny_pure ?_
  show wpAny _ _ (typeOf (.ref sl) >>= _) _ _ s
  refine wpAny_bind (wpAny_typeOf hTs ?_)
  first
    | rw [if_neg (by decide)]
    | refine PySem.W.KFB.if_not (by decide) ?_
  rw [listSliceParts_eq]
  refine wpAny_bind (wpAny_bind (wpAny_field hos hds (x := .none) rfl (wpAny_bind (wpAny_listPart .none ?_))))
  rw [if_neg hstep]
  refine wpAny_bind (wpAny_field hos hds (x := vl) rfl (wpAny_bind (wpAny_listPart pl ?_)))
  refine wpAny_bind (wpAny_field hos hds (x := vu) rfl (wpAny_bind (wpAny_listPart pu (wpAny_pure ?_))))
  first
    | simp only [hsame, Bool.false_eq_true, if_false]
    | refine PySem.W.KFB.if_not hsame ?_
    | (dsimp only
       rw [if_neg (by rw [hsame]; exact Bool.false_ne_true)])
  refine wpAny_bind (m := Builtin.List.listAllItems (.ref b) "must assign iterable to extended slice") ?_
  unfold Builtin.List.listAllItems
  refine wpAny_bind (wpAny_typeOf hb.typeIs ?_)
  first
    | refine PySem.W.KFB.if_so (by decide) ?_
    | rw [if_pos (by decide)]
    | simp only [beq_self_eq_true, Bool.true_or, if_true]
  unfold Builtin.List.listItems
  refine wpAny_bind (wpAny_seqItems e2 rfl (wpAny_pure ?_))
  refine wpAny_bind (wpAny_bind (wpAny_seqItems e rfl (wpAny_pure ?_)))
  refine wpAny_bind (wpAny_of_eq ((sliceIndices_raw (some (a : Int)) (some (c : Int)) none items.size (by simp)).trans (congrArg (pure : Int × Int × Int → Sem (Int × Int × Int)) (bounds_run hac hc))) ?_)
  show wpAny _ _ (if ((1 : Int) == 1) = true then _ else _) _ _ s
  rw [if_pos (by decide)]
  refine wpAny_bind (wpAny_rule ?_)
  first
    | simp only [notLongL hsz, Bool.false_eq_true, if_false]
    | refine PySem.W.KFB.if_not (notLongL hsz) ?_
  first | refine wpAny_bind (wpAny_pure ?_) | skip
  show wpAny _ _ (updateSeq l (fun xs => xs.extract 0 ((a : Int)).toNat ++ new ++ xs.extract (max (a : Int) (c : Int)).toNat xs.size) >>= _) _ _ s
  rw [hmax, Int.toNat_natCast]
  refine wpAny_bind (wpAny_updateSeq (hz := Nat.le_trans (Nat.le_add_right _ _) hsz) (_hz' := hz') e rfl ?_)
  refine wpAny_bind (wpAny_letGo ?_)
  first
    | exact wpAny_bind (wpAny_pure (wpAny_pure ⟨.none, rfl, wpAny_pure h⟩))
    | exact wpAny_pure ⟨.none, rfl, wpAny_pure h⟩
end
section
variable {X : Cx}
end
end L2
namespace L2
open PySem PySem.Spec PyProof.Rows
section
variable {κ : Type} [DecidableEq κ]
def valV (kvs : List (κ × V)) (k : κ) : Option V := (kvs.find? fun kv => decide (kv.1 = k)).map (·.2)
def putK (kvs : List (κ × V)) (k : κ) (v : V) : List (κ × V) :=
  if (kvs.any fun kv => decide (kv.1 = k)) = true then kvs.map (fun kv => if kv.1 = k then (kv.1, v) else kv) else kvs ++ [(k, v)]
def dropK (kvs : List (κ × V)) (k : κ) : List (κ × V) := kvs.filter fun kv => decide (kv.1 ≠ k)
theorem valV_pos {p : κ × V} {r : List (κ × V)} {k : κ} (e : p.1 = k) : valV (p :: r) k = some p.2 := by simp [valV, List.find?_cons, e]
theorem valV_neg {p : κ × V} {r : List (κ × V)} {k : κ} (e : ¬ p.1 = k) : valV (p :: r) k = valV r k := by simp [valV, List.find?_cons, e]
theorem valV_any (k : κ) : ∀ kvs : List (κ × V), (kvs.any fun kv => decide (kv.1 = k)) = (valV kvs k).isSome
  | [] => rfl
  | p :: r => by
    rw [List.any_cons]
    by_cases e : p.1 = k
    · simp only [valV_pos e, decide_eq_true e, Bool.true_or, Option.isSome_some]
    · rw [valV_neg e, decide_eq_false e, Bool.false_or]; exact valV_any k r
theorem length_putK (kvs : List (κ × V)) (k : κ) (v : V) : (putK kvs k v).length ≤ kvs.length + 1 := by
  unfold putK
  split
  · rw [List.length_map]; omega
  · rw [List.length_append, List.length_cons, List.length_nil]; omega
theorem RelO.isSome_eq {o : Option V} {u : Option Value} (r : RelO o u) : o.isSome = u.isSome := by
  cases o with
  | none => cases u with
    | none => rfl
    | some _ => exact (show False from r).elim
  | some _ => cases u with
    | none => exact (show False from r).elim
    | some _ => rfl
theorem RelO.getD {o : Option V} {u : Option Value} {d : V} {d' : Value} (r : RelO o u) (rd : RelV d d') : RelV (o.getD d) (u.getD d') := by
  cases o with
  | none => cases u with
    | none => exact rd
    | some _ => exact (show False from r).elim
  | some _ => cases u with
    | none => exact (show False from r).elim
    | some _ => exact r
theorem KV.val {kvs : List (κ × V)} {vs : List (κ × Value)} (r : KV kvs vs) (k : κ) : RelO (valV kvs k) (valueAt vs k) := by
  unfold KV at r
  induction r with
  | nil => exact True.intro
  | @cons p q ps qs h t ih =>
    obtain ⟨h1, h2⟩ := h
    by_cases e : p.1 = k
    · have e' : q.1 = k := h1.symm.trans e
      have b : valueAt (q :: qs) k = some q.2 := by simp [valueAt, List.find?_cons, e']
      rw [valV_pos e, b]; exact h2
    · have e' : ¬ q.1 = k := fun z => e (h1.trans z)
      have b : valueAt (q :: qs) k = valueAt qs k := by simp [valueAt, List.find?_cons, e']
      rw [valV_neg e, b]; exact ih
theorem KV.any {kvs : List (κ × V)} {vs : List (κ × Value)} (r : KV kvs vs) (k : κ) : (kvs.any fun kv => decide (kv.1 = k)) = vs.any fun kv => decide (kv.1 = k) := by
  unfold KV at r
  induction r with
  | nil => rfl
  | cons h t ih => rw [List.any_cons, List.any_cons, ih, h.1]
theorem KV.repl {kvs : List (κ × V)} {vs : List (κ × Value)} (r : KV kvs vs) (k : κ) {y : V} {u : Value} (ry : RelV y u) :
    KV (kvs.map fun kv => if kv.1 = k then (kv.1, y) else kv) (vs.map fun kv => if kv.1 = k then (kv.1, u) else kv) := by
  unfold KV at r ⊢
  induction r with
  | nil => exact .nil
  | @cons p q ps qs h t ih =>
    rw [List.map_cons, List.map_cons]
    refine .cons ?_ ih
    obtain ⟨h1, h2⟩ := h
    by_cases e : p.1 = k
    · rw [if_pos e, if_pos (h1.symm.trans e)]; exact ⟨h1, ry⟩
    · rw [if_neg e, if_neg (fun z => e (h1.trans z))]; exact ⟨h1, h2⟩
theorem KV.put {kvs : List (κ × V)} {vs : List (κ × Value)} (r : KV kvs vs) (k : κ) {y : V} {u : Value} (ry : RelV y u) : KV (putK kvs k y) (stored vs k u) := by
  unfold putK stored
  rw [r.any k]
  by_cases e : (vs.any fun kv => decide (kv.1 = k)) = true
  · rw [if_pos e, if_pos e]; exact r.repl k ry
  · rw [if_neg e, if_neg e]; exact Paired.snoc r ⟨rfl, ry⟩
theorem KV.drop {kvs : List (κ × V)} {vs : List (κ × Value)} (r : KV kvs vs) (k : κ) : KV (dropK kvs k) (without vs k) := by
  unfold KV at r ⊢
  unfold dropK without
  induction r with
  | nil => exact .nil
  | @cons p q ps qs h t ih =>
    obtain ⟨h1, h2⟩ := h
    rw [List.filter_cons, List.filter_cons]
    by_cases e : p.1 = k
    · have a : ¬ decide (p.1 ≠ k) = true := by simp [e]
      have b : ¬ decide (q.1 ≠ k) = true := by simp [h1.symm.trans e]
      rw [if_neg a, if_neg b]; exact ih
    · have e' : ¬ q.1 = k := fun z => e (h1.trans z)
      have a : decide (p.1 ≠ k) = true := by simp [e]
      have b : decide (q.1 ≠ k) = true := by simp [e']
      rw [if_pos a, if_pos b]; exact .cons ⟨h1, h2⟩ ih
theorem KV.keys {kvs : List (κ × V)} {vs : List (κ × Value)} (r : KV kvs vs) : kvs.map (·.1) = vs.map (·.1) := by
  unfold KV at r
  induction r with
  | nil => rfl
  | cons h t ih => rw [List.map_cons, List.map_cons, ih, h.1]
theorem KV.length {kvs : List (κ × V)} {vs : List (κ × Value)} (r : KV kvs vs) : kvs.length = vs.length := Paired.length r
theorem dropK_le (kvs : List (κ × V)) (k : κ) : (dropK kvs k).length ≤ kvs.length := List.length_filter_le _ _
end
theorem kV_is {P : Program} {w : World} {k : Key} {u : Value} (r : RelV (kV k) u) : (mixKind P w).is k u = true := by
  cases k with
  | inl i => obtain ⟨t, e⟩ := (show ∃ t, u = Value.int i t from r); subst e; exact mixKind_int P w i t
  | inr x => obtain ⟨t, e⟩ := (show ∃ t, u = Value.str x t from r); subst e; exact mixKind_str P w x t
theorem items_are {P : Program} {w : World} : ∀ {ks : List Key} {us : List Value}, Vals (ks.map kV) us → ItemsAre (mixKind P w) ks us
  | [], _, r => by rw [List.map_nil] at r; cases r; exact .nil
  | k :: ks, _, r => by
    rw [List.map_cons] at r
    cases r with
    | cons h t => exact .cons (kV_is h) (items_are t)
abbrev KT (H : Hp) : List (List Key × V) → List (List Key × Addr × Value) → Prop := Paired fun p q => p.1 = q.1 ∧ H q.2.1 = some (.tup (p.1.map kV)) ∧ RelV p.2 q.2.2
theorem KT.val {H : Hp} {kvs : List (List Key × V)} {xs : List (List Key × Addr × Value)} (r : KT H kvs xs) (k : List Key) : RelO (valV kvs k) ((atKey xs k).map (·.2)) := by
  induction r with
  | nil => exact True.intro
  | @cons p q ps qs h t ih =>
    obtain ⟨h1, _, h2⟩ := h
    by_cases e : p.1 = k
    · have e' : q.1 = k := h1.symm.trans e
      have b : atKey (q :: qs) k = some q.2 := by simp [atKey, List.find?_cons, e']
      rw [valV_pos e, b]; exact h2
    · have e' : ¬ q.1 = k := fun z => e (h1.trans z)
      have b : atKey (q :: qs) k = atKey qs k := by simp [atKey, List.find?_cons, e']
      rw [valV_neg e, b]; exact ih
theorem KT.repl {H : Hp} {kvs : List (List Key × V)} {xs : List (List Key × Addr × Value)} (r : KT H kvs xs) (k : List Key) {y : V} {u : Value} (ry : RelV y u) :
    KT H (kvs.map fun kv => if kv.1 = k then (kv.1, y) else kv) (xs.map (putAt k u)) := by
  induction r with
  | nil => exact .nil
  | @cons p q ps qs h t ih =>
    rw [List.map_cons, List.map_cons]
    refine .cons ?_ ih
    obtain ⟨h1, h2, h3⟩ := h
    unfold putAt
    by_cases e : p.1 = k
    · rw [if_pos e, if_pos (h1.symm.trans e)]; exact ⟨h1, h2, ry⟩
    · rw [if_neg e, if_neg (fun z => e (h1.trans z))]; exact ⟨h1, h2, h3⟩
theorem KT.put {H : Hp} {kvs : List (List Key × V)} {xs : List (List Key × Addr × Value)} (r : KT H kvs xs) (k : List Key) {b : Addr} {y : V} {u : Value} (hb : H b = some (.tup (k.map kV))) (ry : RelV y u) :
    KT H (putK kvs k y) (storedH xs k b u) := by
  have e : (kvs.any fun kv => decide (kv.1 = k)) = (atKey xs k).isSome := by
    rw [valV_any, (r.val k).isSome_eq, Option.isSome_map]
  unfold putK storedH
  rw [e]
  by_cases q : (atKey xs k).isSome = true
  · rw [if_pos q, if_pos q]; exact r.repl k ry
  · rw [if_neg q, if_neg q]; exact Paired.snoc r ⟨rfl, hb, ry⟩
theorem KT.keeps {H H' : Hp} {kvs : List (List Key × V)} {xs : List (List Key × Addr × Value)} (r : KT H kvs xs) (ht : ∀ b ys, H b = some (.tup ys) → H' b = some (.tup ys)) : KT H' kvs xs :=
  Paired.mapP r fun _ _ z => ⟨z.1, ht _ _ z.2.1, z.2.2⟩
section
variable {P : Program} {w : World} {H : Hp} {h : Heap} {a : Addr}
theorem rd_of {u : HO} (ok : HOk P w H h) (e : Rd H a u) : ObjOk P w H h a u := e.ok ok
theorem dk_rd {kvs : List (Key × V)} (ok : HOk P w H h) (e : Rd H a (.dK kvs)) : kvs.length ≤ sizeLine ∧ (a == sysModules) = false ∧ ∃ vs, KV kvs vs ∧ h.DictOf (mixKind P w) a vs :=
  show ObjOk P w H h a (.dK kvs) from rd_of ok e
theorem dk_of {kvs : List (Key × V)} (ok : HOk P w H h) (e : H a = some (.dK kvs)) : kvs.length ≤ sizeLine ∧ (a == sysModules) = false ∧ ∃ vs, KV kvs vs ∧ h.DictOf (mixKind P w) a vs := dk_rd ok (.inl e)
theorem key_of {ks : List Key} (ok : HOk P w H h) (e : H a = some (.tup (ks.map kV))) : (tupleKind (mixKind P w)).is h ks a := by
  obtain ⟨_, its, r, o, h1, h2, n, h3⟩ := (show ObjOk P w H h a (.tup (ks.map kV)) from ok a _ e)
  exact ⟨o, its.toArray, n, h1, h2, h3, by simpa using items_are r⟩
theorem dt_rd {kvs : List (List Key × V)} (ok : HOk P w H h) (e : Rd H a (.dT kvs)) : kvs.length ≤ sizeLine ∧ (a == sysModules) = false ∧
    ∃ xs, KT H kvs xs ∧ h.DictOfH (tupleKind (mixKind P w)) a xs := by
  obtain ⟨z, y, xs, r, o, es, ep, h1, h2, h3, h4, h5⟩ := (show ObjOk P w H h a (.dT kvs) from rd_of ok e)
  refine ⟨z, y, xs, r, o, es, ep, h1, h2, h3, h4, fun x hx => ?_, h5⟩
  have all : ∀ {l : List (List Key × V)} {m : List (List Key × Addr × Value)}, KT H l m → ∀ x ∈ m, (tupleKind (mixKind P w)).is h x.1 x.2.1 := by
    intro l m q
    induction q with
    | nil => intro x hx; exact nomatch hx
    | @cons p q ps qs hq t ih =>
      intro x hx
      rcases List.mem_cons.mp hx with e | hx
      · subst e
        exact key_of ok (by rw [← hq.1]; exact hq.2.1)
      · exact ih x hx
  exact all r x hx
theorem dt_of {kvs : List (List Key × V)} (ok : HOk P w H h) (e : H a = some (.dT kvs)) : kvs.length ≤ sizeLine ∧ (a == sysModules) = false ∧
    ∃ xs, KT H kvs xs ∧ h.DictOfH (tupleKind (mixKind P w)) a xs := dt_rd ok (.inl e)
end
def DGet (H : Hp) (a : Addr) (y : V) (r : Option V) : Prop :=
  (∃ kvs k, Rd H a (.dK kvs) ∧ y = kV k ∧ r = valV kvs k) ∨ ∃ kvs k b, Rd H a (.dT kvs) ∧ y = .ref b ∧ H b = some (.tup (k.map kV)) ∧ r = valV kvs k
def DPut (H : Hp) (a : Addr) (y v : V) (H' : Hp) : Prop :=
  (∃ kvs k, H a = some (.dK kvs) ∧ y = kV k ∧ kvs.length < sizeLine ∧ H' = upd H a (.dK (putK kvs k v))) ∨
  ∃ kvs k b, H a = some (.dT kvs) ∧ y = .ref b ∧ H b = some (.tup (k.map kV)) ∧ kvs.length < sizeLine ∧ H' = upd H a (.dT (putK kvs k v))
theorem DGet.k {H : Hp} {a : Addr} {kvs : List (Key × V)} {k : Key} (e : H a = some (.dK kvs)) : DGet H a (kV k) (valV kvs k) := .inl ⟨kvs, k, .inl e, rfl, rfl⟩
theorem DGet.t {H : Hp} {a b : Addr} {kvs : List (List Key × V)} {k : List Key} (e : H a = some (.dT kvs)) (eb : H b = some (.tup (k.map kV))) : DGet H a (.ref b) (valV kvs k) := .inr ⟨kvs, k, b, .inl e, rfl, eb, rfl⟩
theorem DPut.k {H : Hp} {a : Addr} {kvs : List (Key × V)} {k : Key} {v : V} (e : H a = some (.dK kvs)) (hl : kvs.length < sizeLine) : DPut H a (kV k) v (upd H a (.dK (putK kvs k v))) := .inl ⟨kvs, k, e, rfl, hl, rfl⟩
theorem DPut.t {H : Hp} {a b : Addr} {kvs : List (List Key × V)} {k : List Key} {v : V} (e : H a = some (.dT kvs)) (eb : H b = some (.tup (k.map kV))) (hl : kvs.length < sizeLine) :
    DPut H a (.ref b) v (upd H a (.dT (putK kvs k v))) := .inr ⟨kvs, k, b, e, rfl, eb, hl, rfl⟩
section
variable {X : Cx} {pins : List (Addr × Obj)} {σ : St} {H : Hp} {s : Shared} {a : Addr} {y v : V} {u r : Value} {o : Option V} {A : Around} {E : Value → Shared → Prop}
theorem Inv.big (I : Inv X pins σ H s) : sysModules < s.heap.objs.size := by
  have h : mainGlobals < s.heap.objs.size := (I.mod.glob.keeps I.bk).lt
  exact Nat.lt_trans (by decide) h
theorem d_getItem {Q : Value → Shared → Prop} (hu : A.units + 1 < cLine) (I : Inv X pins σ H s) (g : DGet H a y (some v)) (ry : RelV y u) (h : ∀ w' s', Inv X pins σ H s' → RelV v w' → Q w' s') :
    wpAny (model X.prog X.w) A (getItem (.ref a) u) Q E s := by
  rcases g with ⟨kvs, k, e, ey, l⟩ | ⟨kvs, k, b, e, ey, eb, l⟩
  · subst ey
    obtain ⟨z, hd, vs, rel, dd⟩ := dk_rd I.hok e
    obtain ⟨w', hw, rw'⟩ := RelO.some_of (v := v) (o := valueAt vs k) (by rw [l]; exact rel.val k)
    exact wpAny_getItem_of (kV_is ry) dd.mapOf hw (h w' _ (I.tok _) rw')
  · subst ey
    cases (show u = Value.ref b from ry)
    obtain ⟨z, hd, xs, rel, dd⟩ := dt_rd I.hok e
    obtain ⟨w', hw, rw'⟩ := RelO.some_of (v := v) (o := (atKey xs k).map (·.2)) (by rw [l]; exact rel.val k)
    obtain ⟨p, hp, hp2⟩ := Option.map_eq_some_iff.mp hw
    refine wpAny_getItem_heap (tupleKind_room_in1 hu) (key_of I.hok eb) dd hp ?_
    rw [hp2]
    exact h w' _ (I.tok _) rw'
theorem d_write {h' : Heap} {t' : Nat} {ob : HO} (I : Inv X pins σ H s) (mu : Mut (H a)) (hs : Heap.SameBut a s.heap h') (he : ∃ q, h'.get? a = some q) (new : ObjOk X.prog X.w (upd H a ob) h' a ob) :
    Inv X pins σ (upd H a ob) { s with heap := h', toks := t' } :=
  I.write (x := a) (e := a) mu (.inl rfl) (fun b q hb z => (hs.2 b hb).trans z) he new
theorem dk_new {P : Program} {w : World} {H' : Hp} {h' : Heap} {kvs : List (Key × V)} {vs : List (Key × Value)} (z : kvs.length ≤ sizeLine) (hd : (a == sysModules) = false) (rel : KV kvs vs) (dd : h'.DictOf (mixKind P w) a vs) :
    ObjOk P w H' h' a (.dK kvs) := ⟨z, hd, vs, rel, dd⟩
theorem d_setItem {H' : Hp} {Q : Unit → Shared → Prop} (hu : A.units + 1 < cLine) (I : Inv X pins σ H s) (g : DPut H a y v H') (ry : RelV y u) (rv : RelV v r) (h : ∀ s', Inv X pins σ H' s' → Q () s') :
    wpAny (model X.prog X.w) A (setItem (.ref a) u r) Q E s := by
  rcases g with ⟨kvs, k, e, ey, l, eH⟩ | ⟨kvs, k, b, e, ey, eb, l, eH⟩
  · subst ey eH
    obtain ⟨z, hd, vs, rel, dd⟩ := dk_of I.hok e
    have hz : vs.length ≤ sizeLine := by rw [← rel.length]; exact z
    have hl : (putK kvs k v).length ≤ sizeLine := by have := length_putK kvs k v; omega
    refine wpAny_setItem_pairs (hsz := hz) (kV_is ry) dd fun h' dd' hs => h _ ?_
    have he : ∃ q, h'.get? a = some q := let ⟨q, _, _, hq, _⟩ := dd'; ⟨q, hq⟩
    exact d_write I (by rw [e]; exact True.intro) hs he (dk_new hl hd (rel.put k rv) dd')
  · subst ey eH
    cases (show u = Value.ref b from ry)
    obtain ⟨z, hd, xs, rel, dd⟩ := dt_of I.hok e
    have hz : xs.length ≤ sizeLine := by rw [← Paired.length rel]; exact z
    have hl : (putK kvs k v).length ≤ sizeLine := by have := length_putK kvs k v; omega
    refine wpAny_setItem_heap (hsz := hz) (tupleKind_room_in1 hu) (key_of I.hok eb) dd fun h' dd' hs => h _ ?_
    obtain ⟨q, es, ep, hq, h2, h3, h4, _, h5⟩ := dd'
    refine d_write I (by rw [e]; exact True.intro) hs ⟨q, hq⟩ ⟨hl, hd, _, (rel.put k eb rv).keeps fun c ys ec => ?_, q, es, ep, hq, h2, h3, h4, h5⟩
    rw [upd_ne (ne_of ec e (fun z => nomatch z))]
    exact ec
end
section
variable {X : Cx} {pins : List (Addr × Obj)} {σ : St} {H : Hp} {s : Shared} {a : Addr} {kvs : List (Key × V)} {k : Key} {u : Value} {A : Around} {E : Value → Shared → Prop}
theorem d_pop {v : V} {more : List Value} {Q : Value → Shared → Prop} (I : Inv X pins σ H s) (e : H a = some (.dK kvs)) (ry : RelV (kV k) u) (l : valV kvs k = some v) (hm : more = [] ∨ ∃ x, more = [x])
    (h : ∀ w' s', Inv X pins σ (upd H a (.dK (dropK kvs k))) s' → RelV v w' → Q w' s') : wpAny (model X.prog X.w) A (call (.builtin "dict.pop") (.ref a :: u :: more)) Q E s := by
  obtain ⟨z, hd, vs, rel, dd⟩ := dk_of I.hok e
  obtain ⟨w', hw, rw'⟩ := RelO.some_of (v := v) (o := valueAt vs k) (by rw [← l]; exact rel.val k)
  have hp : (keyPart u).isSome = true := by
    cases k with
    | inl i => obtain ⟨t, q⟩ := (show ∃ t, u = Value.int i t from ry); subst q; rfl
    | inr x => obtain ⟨t, q⟩ := (show ∃ t, u = Value.str x t from ry); subst q; rfl
  have ha : argsOk "dict.pop" ⟨.ref a :: u :: more, []⟩ := by
    rcases hm with q | ⟨x, q⟩
    · subst q; exact PySem.F.args_dict_pop_2 _ _
    · subst q; exact PySem.F.args_dict_pop_3 _ _ _
  refine call_meetsIn PySem.F.slot_dict_pop dd.typeIs PySem.F.entry_dict_pop ha (meets_dict_pop_there (mixKind X.prog X.w) a (kV_is ry) more hm hp)
    ⟨vs, w', dd, by rw [← rel.length]; exact z, hw, fun h' dd' hs => h w' _ ?_ rw'⟩
  have he : ∃ q, h'.get? a = some q := let ⟨q, _, _, hq, _⟩ := dd'; ⟨q, hq⟩
  exact d_write I (by rw [e]; exact True.intro) hs he (dk_new (Nat.le_trans (dropK_le kvs k) z) hd (rel.drop k) dd')
theorem d_len {Q : Value → Shared → Prop} (I : Inv X pins σ H s) (e : Rd H a (.dK kvs)) (h : ∀ t s', Inv X pins σ H s' → Q (.int kvs.length t) s') : wpAny (model X.prog X.w) A (call (.builtin "len") [.ref a]) Q E s := by
  obtain ⟨z, hd, vs, rel, dd⟩ := dk_rd I.hok e
  refine call_len_dict hd dd (by rw [← rel.length]; rw [sizeLine_eq] at z; omega) ?_
  rw [← rel.length]
  exact h _ _ (I.tok _)
end
def NoSl (i : Expr) : Prop := ∀ ov iv, subscripted i false ov iv = operate [ov, iv] (getItem ov iv)
theorem subD_of {prog : Program} {w : World} {A : Around} {E : Value → Shared → Prop} {s : Shared} {env : Env} {value slice : Expr} {pos : Pos} {T id : String} {Q : Value → Shared → Prop}
    (hl : typeLookup (.type T) "__getitem__" = pure (some (.builtin id))) (hs : NoSl slice)
    (h : wpAny (model prog w) A (eval value env) (fun o s₁ => wpAny (model prog w) A (eval slice env) (fun i s₂ => s₂.TypeIs o T ∧ wpAny (model prog w) A (getItem o i) Q E s₂) E s₁) E s) :
    wpAny (model prog w) A (eval (.Subscript value slice pos) env) Q E s := by
  refine Subscript_ (wpAny_mono h (fun o s₁ h₁ => wpAny_mono h₁ (fun i s₂ h₂ => ?_) fun _ _ x => x) fun _ _ x => x)
  obtain ⟨hT, h₂⟩ := h₂
  unfold subscriptTail
  refine wpAny_bind ?_
  rw [getitemInPython_of_ne hT.not_modules]
  refine wpAny_bind (wpAny_specialOf hT hl ?_)
  have fin : wpAny (model prog w) A (subscripted slice false o i) (fun r s₃ => wpAny (model prog w) A (letTemporaryGo value o r >>= fun _ => pure r) Q E s₃) E s₂ := by
    rw [hs o i]
    exact wpAny_operating (wpAny_mono h₂ (fun r s₃ h₃ => wpAny_bind (wpAny_letTemporaryGo (wpAny_pure h₃))) fun _ _ x => x)
  first
    | exact wpAny_pure (wpAny_bind fin)
    | exact wpAny_bind (wpAny_pure (wpAny_bind fin))
    | exact wpAny_bind fin
theorem dict_typeIs {X : Cx} {pins : List (Addr × Obj)} {σ : St} {H : Hp} {s : Shared} {a : Addr} {y : V} {o : Option V} (I : Inv X pins σ H s) (g : DGet H a y o) : s.TypeIs (.ref a) "dict" := by
  rcases g with ⟨kvs, k, e, _, _⟩ | ⟨kvs, k, b, e, _, _, _⟩
  · obtain ⟨_, _, vs, _, dd⟩ := dk_rd I.hok e
    exact dd.typeIs
  · obtain ⟨_, _, xs, _, dd⟩ := dt_rd I.hok e
    exact dd.typeIs
def tDGet (td ty : TE) : TE := fun σ H Q => td σ H fun x H1 => ty σ H1 fun y H2 => ∃ a v, x = .ref a ∧ DGet H2 a y (some v) ∧ Q v H2
def sDPut (td ty tv : TE) : TS := fun D σ H => tv σ H fun v H1 => td σ H1 fun x H2 => ty σ H2 fun y H3 => ∃ a H4, x = .ref a ∧ DPut H3 a y v H4 ∧ D.nx σ H4
section
variable {X : Cx} {o i e value : Expr} {pos pos' tpos : Pos} {td ty tv : TE}
theorem pe_dget (hu : X.A.units + 1 < cLine) (ho : PE X o td) (hi : PE X i ty) (hs : NoSl i) : PE X (.Subscript o i pos) (tDGet td ty) := by
  intro pins s σ H Q I h
  refine subD_of PySem.F.slot_dict_getitem.lookup hs (thn (ho pins s σ H _ I h) fun u s1 ⟨x, H1, I1, rx, q1⟩ => thn (hi pins s1 σ H1 _ I1 q1) fun iv s2 ⟨y, H2, I2, ry, a, v, ex, g, q2⟩ => ?_)
  subst ex
  obtain rfl : u = Value.ref a := rx
  exact ⟨dict_typeIs I2 g, d_getItem hu I2 g ry fun w' s3 I3 rw' => ⟨v, H2, I3, rw', q2⟩⟩
theorem ps_dput (hu : X.A.units + 1 < cLine) (ho : PE X o td) (hi : PE X i ty) (hv : PE X value tv) (hs : swapsWith value (some (.Subscript o i pos')) pos.line X.env = pure false) :
    PS X (.Assign [.Subscript o i pos'] value pos) (sDPut td ty tv) := by
  intro pins s σ H D I h
  refine wpAny_Assign_Subscript (thn (hv pins s σ H _ I h) fun r s1 ⟨v, H1, I1, rv, q1⟩ => thn (ho pins s1 σ H1 _ I1 q1) fun u s2 ⟨x, H2, I2, rx, q2⟩ => thn (hi pins s2 σ H2 _ I2 q2) fun iv s3 ⟨y, H3, I3, ry, a, H4, ex, g, q3⟩ => ?_) hs
  subst ex
  obtain rfl : u = Value.ref a := rx
  exact d_setItem hu I3 g ry rv fun s4 I4 => ⟨σ, H4, I4, q3⟩
end
section
variable {X : Cx} {pos : Pos}
end
structure M1 (X : Cx) (o : Expr) (m : Str) (apos : Pos) (e : Expr) (cpos : Pos) : Prop where
  base : attributeBase o m X.env (eval o X.env) = eval o X.env
  few : ((backTo cpos (starEach [e] X.env)).all (fun x => !x.1) && (backToKw cpos (keywordEach [] X.env)).all (fun x => x.1.isSome)
    && decide (([e] : List Expr).length + ([] : List Keyword).length + (if ([] : List Keyword).isEmpty then 0 else 1) < 30)) = true
  line : (apos.endLine == cpos.line) = true
  trees : backTo cpos (starEach [e] X.env) = [(false, eval e X.env)]
structure M2 (X : Cx) (o : Expr) (m : Str) (apos : Pos) (e f : Expr) (cpos : Pos) : Prop where
  base : attributeBase o m X.env (eval o X.env) = eval o X.env
  few : ((backTo cpos (starEach [e, f] X.env)).all (fun x => !x.1) && (backToKw cpos (keywordEach [] X.env)).all (fun x => x.1.isSome)
    && decide (([e, f] : List Expr).length + ([] : List Keyword).length + (if ([] : List Keyword).isEmpty then 0 else 1) < 30)) = true
  line : (apos.endLine == cpos.line) = true
  trees : backTo cpos (starEach [e, f] X.env) = [(false, eval e X.env), (false, eval f X.env)]
def IsD (H : Hp) (a : Addr) : Prop := (∃ kvs, Rd H a (.dK kvs)) ∨ ∃ kvs, Rd H a (.dT kvs)
theorem isD_at {X : Cx} {pins : List (Addr × Obj)} {σ : St} {H : Hp} {s : Shared} {a : Addr} (I : Inv X pins σ H s) (d : IsD H a) :
    s.TypeIs (.ref a) "dict" ∧ (∀ b, Value.ref a = .ref b → ∃ ob, s.heap.get? b = some ob ∧ ob.dict = none) ∧ (a == sysModules) = false := by
  rcases d with ⟨kvs, e⟩ | ⟨kvs, e⟩
  · obtain ⟨_, hd, vs, _, dd⟩ := dk_rd I.hok e
    refine ⟨dd.typeIs, fun b q => ?_, hd⟩
    cases q
    obtain ⟨ob, _, _, h1, h2, _⟩ := dd
    exact ⟨ob, h1, h2.2.1⟩
  · obtain ⟨_, hd, xs, _, dd⟩ := dt_rd I.hok e
    refine ⟨dd.typeIs, fun b q => ?_, hd⟩
    cases q
    obtain ⟨ob, _, _, h1, h2, _⟩ := dd
    exact ⟨ob, h1, h2.2.1⟩
section
variable {X : Cx} {pins : List (Addr × Obj)} {σ : St} {H : Hp} {s : Shared} {a : Addr} {y d : V} {u r : Value} {o : Option V} {A : Around} {E : Value → Shared → Prop}
end
def tDPop1 (td ty : TE) : TE := fun σ H Q => td σ H fun x H1 => ∃ a, x = .ref a ∧ IsD H1 a ∧ ty σ H1 fun y H2 => ∃ kvs k v, H2 a = some (.dK kvs) ∧ y = kV k ∧ valV kvs k = some v ∧ Q v (upd H2 a (.dK (dropK kvs k)))
section
variable {X : Cx} {o e f : Expr} {apos cpos : Pos} {td ty tx : TE}
theorem pe_dpop1 (ho : PE X o td) (he : PE X e ty) (m : M1 X o "pop" apos e cpos) : PE X (.Call (.Attribute o "pop" apos) [e] [] cpos) (tDPop1 td ty) := by
  intro pins s σ H Q I h
  refine wpAny_Call_method m.base m.few m.line PySem.F.plainAttrs_dict PySem.F.slot_dict_pop PySem.F.type_dict_pop (thn (ho pins s σ H _ I h) fun u s1 ⟨x, H1, I1, rx, a, ex, d, q1⟩ => ?_)
  subst ex
  obtain rfl : u = Value.ref a := rx
  obtain ⟨t1, t2, _⟩ := isD_at I1 d
  refine ⟨t1, t2, ?_⟩
  rw [m.trees]
  refine Calls.callWith_builtin rfl (Calls.evalArgs_plain (Calls.spliced_cons (thn (he pins s1 σ H1 _ I1 q1) fun iv s2 ⟨y, H2, I2, ry, kvs, k, v, ea, ey, l, q2⟩ => Calls.spliced_nil ?_)))
  subst ey
  exact d_pop I2 ea ry l (.inl rfl) fun w' s3 I3 rw' => ⟨v, _, I3, rw', q2⟩
end
section
variable {X : Cx} {pins : List (Addr × Obj)} {σ : St} {H : Hp} {s : Shared} {a : Addr} {kvs : List (Key × V)} {A : Around} {E : Value → Shared → Prop}
end
section
variable {X : Cx} {pins : List (Addr × Obj)} {σ : St} {H : Hp} {s : Shared} {a : Addr} {y : V} {u : Value} {A : Around} {E : Value → Shared → Prop}
end
end L2
namespace Att
open PySem PySem.W PySem.Calls PyProof.Rows
theorem ints_of_wellAll {P : Params} {h : Heap} : ∀ (ns : List Int) (vs : List Value), WellAll P h vs (ns.map WData.int) → IntsAre vs ns := by
  intro ns
  induction ns with
  | nil =>
    intro vs w
    rw [List.map_nil] at w
    cases w
    exact .nil
  | cons n ns ih =>
    intro vs w
    rw [List.map_cons] at w
    cases w with
    | cons a b =>
      cases a
      exact .cons _ _ (ih _ b)
theorem script_of {l : OpenLaw} {n : Nat} (hn : l.most = some n) {P : Params} {h : Heap} {args : List WData} {vals : List Value}
    (hpre : l.row.toRowW.claim.pre args = true) (hwl : WellAll P h vals args) :
    ∃ a vs ns, vals = [Value.ref a] ∧ args = [WData.list (ns.map WData.int)] ∧ h.get? a = some { cls := .type "list", data := .seq vs.toArray } ∧ IntsAre vs ns ∧ ns.length ≤ n := by
  have hsh : WShape.hasAll [] args [.list .int] = true := (pre_splitW hpre).1
  have hc : l.pre.holds [] { args := args } = true := (pre_splitW hpre).2
  obtain ⟨d, r, rfl, h1, h2⟩ := hasAllW_cons hsh
  obtain rfl := hasAllW_nil h2
  obtain ⟨xs, rfl, h3⟩ := hasW_list h1
  obtain ⟨ns, rfl⟩ := items_int h3
  have hlen : ns.length ≤ n := by
    unfold OpenLaw.pre at hc
    have h4 : (WTm.not (.lt (.lit (.int (n : Int))) (.len (.arg 0)))).holds [] { args := [.list (ns.map .int)] } = true := by
      have h4 := (holds_andW hc).1
      rw [hn] at h4
      exact h4
    have h5 := condW_of h4 (w_not (w_lt w_lit (w_len_list (w_arg rfl))))
    rw [List.length_map] at h5
    refine Nat.le_of_not_lt fun q => ?_
    have q' : (n : Int) < ((ns.length : Nat) : Int) := by omega
    first
      | (rw [decide_eq_true q'] at h5; exact absurd h5 (by decide))
      | (simp at h5; omega)
  cases hwl with
  | cons w1 w2 =>
    cases w2
    cases w1 with
    | list ho hall => exact ⟨_, _, ns, rfl, rfl, ho, ints_of_wellAll ns _ hall, hlen⟩
theorem post_true (l : OpenLaw) (args : List WData) : l.row.toRowW.claim.post args (.bool true) args = true :=
  postW_of (r := l.row.toRowW) (X := (true == true))
    (show WShape.has [] (.bool true) .bool = true by first | rfl | decide | simp [WShape.has, WShape.arms, WShape.armsAll])
    (show (WTm.eq .res (.lit (.bool true))).value [] { args := args, res := some (.bool true), after := args } = some (.bool (true == true)) from w_eq_bool (w_res rfl) w_lit) rfl
theorem attach_call {l : OpenLaw} {n : Nat} {q : Program} {loose : List Str} {XP : (Str → Option Value) → Heap → Prop} {YP : World → Heap → Prop} {d : DefRec}
    (hn : l.most = some n) (hdf : d.params.defaults = [])
    (call : ∀ (w : World) (s₀ s₁ : Shared) (mg mb : Str → Option Value) (fa : Addr) (o : Obj) (pm cd doc : Value) (a : Addr) (vs : List Value) (ns : List Int),
      Ground q loose [] XP w s₀ mg mb s₁.heap → YP w s₁.heap →
      s₁.heap.get? fa = some o → o.data = .func (docDef d.name d.params d.body d.scope pm cd doc) → s₁.heap.CodeRec cd d.name → mg d.name = some (.ref fa) →
      s₁.heap.get? a = some { cls := .type "list", data := .seq vs.toArray } → IntsAre vs ns → ns.length ≤ n → s₁.gens = #[] →
      codeAny (model l.prog w) callerA (.call (.ref fa) ⟨[.ref a], []⟩) (fun r s' => r = .ok (.ret (.bool true)) ∧ OldK s₁.heap s'.heap ∧ s'.os = s₁.os ∧ AllBare s'.gens) s₁) :
    WalkO q loose XP YP l.row.toRowW d [] (fun f vs => PySem.call f vs) := by
  intro w s₀ s₁ mg mb G Y fa o pm cd doc dV kV ho hd hcd hD hmg hg args vals as hpre hlay hrd hwl hlo
  obtain rfl : dV = .none := Dflts.none hD hdf
  obtain rfl : kV = .none := Dflts.noKw hD
  obtain ⟨a, vs, ns, rfl, rfl, hobj, hints, hlen⟩ := script_of hn hpre hwl
  refine enter_call (codeAny_mono (call w s₀ s₁ mg mb fa o pm cd doc a vs ns G Y ho (fd_plain hd) hcd hmg hobj hints hlen hg) fun r s' hq => ?_)
  obtain ⟨rfl, h2, h3, h4⟩ := hq
  exact ⟨.inl ⟨.bool true, .bool true, [], rfl, fun _ => rfl, .bool true, post_true l _, fun _ => ⟨List.Pairwise.nil, fun _ hm => (nomatch hm)⟩⟩, h2, h3, h4⟩
section
variable {prog : Program} {w : World} {A : Around} {E : Value → Shared → Prop} {s : Shared} {K : Frag}
def ledger (h : Heap) (L d : Addr) : List (Addr × Obj) := (List.range h.objs.size).filterMap fun a => if a = L ∨ a = d then none else (h.get? a).map fun o => (a, o)
end
end Att
namespace L2
open PySem PySem.Spec PyProof.Rows
theorem vals_ints : ∀ {vs : List Value} {ns : List Int}, IntsAre vs ns → Vals (ns.map V.int) vs
  | _, _, .nil => .nil
  | _, _, .cons n t h => .cons ⟨t, rfl⟩ (vals_ints h)
def Only (H : Hp) : Prop := ∀ b, H b = none ∨ ∃ o xs, H b = some (.frz o (.lst xs))
theorem law_call {P : Program} {w : World} {K : PySem.W.Frag} {mg mb : Str → Option Value} {CX : CXT} {k : Nat} {fa a : Addr} {fd : FuncData} {x : Str} {sp : Sp} {s₁ : Shared} {vs : List Value} {ns : List Int}
    (KX : K.In s₁.heap) (hns : s₁.heap.Ns mainGlobals mg) (hb : s₁.heap.Ns builtinsNs mb) (hbb : ∀ x : Str, x ≠ "__name__" → mb x = bootBuiltins x) (hlim : s₁.heap.NoLimit) (hg : s₁.gens = #[])
    (ha : s₁.heap.get? a = some { cls := .type "list", data := .seq vs.toArray }) (hi : IntsAre vs ns) (hl : ns.length ≤ sizeLine) (hr : Room k callerA)
    (F : ∀ base : Heap, K.In base → base.Ns mainGlobals mg → FnOk P w K mg base CX k fa fd [x] sp) (hbind : ∀ (s : Shared) (u : Value), BindsTo s fd ⟨[u], []⟩ [(x, u)])
    (hsp : ∀ H : Hp, Only H → SqL K H a (ns.map V.int) → sp [.ref a] H (fun v _ => v = .bl true) fun _ _ _ => False)
    (hCX : ∀ H e s', CX [] H s₁ (fun _ _ _ => False) e s' → False) :
    codeAny (model P w) callerA (.call (.ref fa) ⟨[.ref a], []⟩) (fun r s' => r = .ok (.ret (.bool true)) ∧ OldK s₁.heap s'.heap ∧ s'.os = s₁.os ∧ AllBare s'.gens) s₁ := by
  have rv := vals_ints hi
  have lenV := hi.length
  have core : ∀ H : Hp, Only H → SqL K H a (ns.map V.int) → HOk P w H s₁.heap → (∀ b, H b ≠ none → b = a) → (H a ≠ none → K.lookup a = none) →
      codeAny (model P w) callerA (.call (.ref fa) ⟨[.ref a], []⟩) (fun r s' => r = .ok (.ret (.bool true)) ∧ OldK s₁.heap s'.heap ∧ s'.os = s₁.os ∧ AllBare s'.gens) s₁ := by
    intro H hO hS hok hA hK
    have base_of : ∀ {b : Addr} {o : Obj}, s₁.heap.get? b = some o → H b = none → (hidT s₁.heap H).get? b = some o := fun e n => hidT_get e n
    have noA : ∀ {b : Addr} {o : Obj} {es : Array DictEntry} {ep : Nat}, s₁.heap.get? b = some o → o.data = .dict es ep → H b = none := fun {b o es ep} e d => by
      cases q : H b with
      | none => rfl
      | some u =>
        have e' : b = a := hA b (by rw [q]; simp)
        subst e'
        rw [ha] at e; cases e
        have d' : Data.seq vs.toArray _ = Data.dict es ep := d
        cases d'
    have nsK : ∀ {b : Addr} {m : Str → Option Value}, s₁.heap.Ns b m → (hidT s₁.heap H).Ns b m := fun {b m} ⟨o, es, ep, e, d, r⟩ => ⟨o, es, ep, base_of e (noA e d), d, r⟩
    have hKb : K.In (hidT s₁.heap H) := fun b o e => base_of (KX b o e) (by
      cases q : H b with
      | none => rfl
      | some u =>
        have e' : b = a := hA b (by rw [q]; simp)
        subst e'
        rw [hK (by rw [q]; simp)] at e; cases e)
    have hM : Mod K mg (hidT s₁.heap H) := ⟨hKb, nsK hns, ⟨mb, nsK hb, hbb⟩, let ⟨mc, h1, h2⟩ := hlim; ⟨mc, nsK h1, h2⟩⟩
    have e0 : Env0 P w K mg (hidT s₁.heap H) callerA [] s₁ H := ⟨rfl, hM, fun b o e => of_hidT e, Nat.le_of_eq (hidT_size _ _), trivial, fun b hb => absurd (show b ∈ ([] : List Addr) from hb) (by simp), hok, .of_eq hg⟩
    refine codeAny_mono ((F _ hKb (nsK hns)).run callerA [] s₁ H ⟨[.ref a], []⟩ [.ref a] [.ref a] _ _ hr e0 (hbind s₁ (.ref a)) (.cons rfl .nil) (hsp H hO hS)) fun r s' h => ?_
    cases r with
    | error e => exact (hCX H e s' h).elim
    | ok fl =>
      cases fl with
      | next => exact False.elim h
      | brk => exact False.elim h
      | cont => exact False.elim h
      | ret u =>
        obtain ⟨v, H', os, bare, un, hok', r', q⟩ := h
        have q' : v = .bl true := q
        subst q'
        obtain rfl : u = Value.bool true := r'
        refine ⟨rfl, OldK.of_keep fun b o e => ?_, os, bare⟩
        cases q : H b with
        | none => exact un.keep b o e q (by intro z; exact absurd (show b ∈ ([] : List Addr) from z) (by simp)) (by simp)
        | some u =>
          rcases hO b with z | ⟨ob, xs, z⟩
          · rw [q] at z; cases z
          · have z2 := un.frzs b ob _ z
            obtain ⟨e1, _⟩ := hok b _ z
            obtain ⟨e2, _⟩ := hok' b _ z2
            rw [e] at e1; cases e1
            exact e2
  cases hk : K.lookup a with
  | some o =>
    have e := KX a o hk
    rw [ha] at e
    cases e
    refine core (fun _ => none) (fun _ => .inl rfl) (.inr ⟨_, vs.toArray, _, hk, rfl, rfl, rfl, by rw [List.size_toArray, lenV]; exact hl, by simpa using rv⟩) (fun b u z => by have z' : (none : Option HO) = some u := z; cases z') (fun b z => absurd rfl z) fun z => absurd rfl z
  | none =>
    refine core (fun b => if b = a then some (.frz { cls := .type "list", data := .seq vs.toArray } (.lst (ns.map V.int))) else none) (fun b => ?_) (.inl (.inr ⟨{ cls := .type "list", data := .seq vs.toArray }, if_pos rfl⟩)) (fun b u z => ?_) (fun b z => ?_) fun _ => hk
    · by_cases hb : b = a
      · exact .inr ⟨_, _, if_pos hb⟩
      · exact .inl (if_neg hb)
    · by_cases hb : b = a
      · have z' := (if_pos hb).symm.trans z
        cases z'
        subst hb
        exact ⟨ha, by rw [List.length_map]; exact hl, vs, _, rv, ha⟩
      · have z' := (if_neg hb).symm.trans z
        cases z'
    · by_cases hb : b = a
      · exact hb
      · exact absurd (if_neg hb) z
end L2
namespace L2
open PySem PySem.Spec PyProof.Rows
abbrev KOf {K : PySem.W.Frag} {h : Heap} (_ : K.In h) : PySem.W.Frag := K
theorem walk_of {l : PySem.W.OpenLaw} {n k : Nat} {q : Program} {loose : List Str} {XP : (Str → Option Value) → Heap → Prop} {YP : World → Heap → Prop} {d : DefRec} {K : Params → PySem.W.Frag} {CX : World → CXT} {sp : World → Sp} {x : Str}
    (hn : l.most = some n) (hn2 : n ≤ sizeLine) (hdf : d.params.defaults = []) (hr : Room k callerA)
    (hY : ∀ (w : World) (h : Heap), YP w h → (K w.params).In h)
    (F : ∀ (w : World) (mg : Str → Option Value) (fa : Addr) (h : Heap), (K w.params).In h → h.Ns mainGlobals mg → mg d.name = some (.ref fa) →
      ∃ fd : FuncData, (∀ (s : Shared) (u : Value), BindsTo s fd ⟨[u], []⟩ [(x, u)]) ∧
        ∀ base : Heap, (K w.params).In base → base.Ns mainGlobals mg → FnOk l.prog w (K w.params) mg base (CX w) k fa fd [x] (sp w))
    (hsp : ∀ (w : World) (H : Hp) (a : Addr) (ns : List Int), ns.length ≤ n → Only H → SqL (K w.params) H a (ns.map V.int) → sp w [.ref a] H (fun v _ => v = .bl true) fun _ _ _ => False)
    (hCX : ∀ (w : World) (H : Hp) (s : Shared) (e : Value) (s' : Shared), CX w [] H s (fun _ _ _ => False) e s' → False) :
    PySem.W.WalkO q loose XP YP l.row.toRowW d [] (fun f vs => PySem.call f vs) := by
  refine Att.attach_call hn hdf fun w s₀ s₁ mg mb fa o pm cd doc a vs ns G Y ho hd hcd hmg hobj hints hlen hg => ?_
  have KX := hY w _ Y
  obtain ⟨fd, hb, hF⟩ := F w mg fa _ KX G.T.g hmg
  exact law_call KX G.T.g G.T.b G.T.builtins G.T.nolimit hg hobj hints (Nat.le_trans hlen hn2) hr hF hb (fun H hO hS => hsp w H a ns hlen hO hS) fun H e s' => hCX w H s₁ e s'
end L2
/- THE LAST THEOREM (shape; LID, My.* are yours):
   My.Adr: a structure of the addresses that your layer names (classes, functions); My.Txt K t: a structure (Prop) of the equations over K;
   My.txt_mk : {K} {implicit addresses ..} (e1 : nsIn K mainGlobals "law" = some (some (.ref f))) (e2 : K.lookup f = some ⟨oc, od, .func (fnOf "law" "law" params body scope dV kV doc pm an cdv ct), sl⟩) (e3 : codeIn K cdv "law" = true) .. : ∃ t, My.Txt K t
set_option maxRecDepth 100000 in
set_option maxHeartbeats 0 in
theorem PySem.Challenge.cw_LID_holds : PySem.Challenge.rw_LID.Holds := by
  w_on; o_law; k_head; (case hw => w_witness2)
  k_fill
  refine L2.walk_of (l := PySem.Challenge.rw_LID) (n := 63) (k := 40) (x := "script") (CX := fun w => ..) (sp := fun _ => My.sp_law) rfl (by decide) rfl ⟨rfl, by decide, by decide⟩ (fun w h Y => PySem.W.kIn_of Y) ?F ?S ?C
  case F =>
    intro w mg fa h KX G hmg
    have T : ∃ t, My.Txt (L2.KOf KX) t := by
      dsimp only [L2.KOf]                          -- K must stand as «<heap const> w.params» for k_is
      refine' My.txt_mk ?e1 ?e2 ?e3 ..
      (case e1 => PySem.W.k_is)                    -- in the order: a name -> its address -> its object -> its parts
      (case e2 => PySem.W.k_is)
      ..
    obtain ⟨t, T⟩ := T
    have e0 := hmg.symm.trans (PySem.W.mg_of KX G T.law)
    cases e0                                       -- fa is the law's own address
    exact ⟨_, fun s u => .of_eq rfl, fun base kb nb => My.law_fn T kb nb⟩     -- if «.of_eq rfl» comes too early: refine' ⟨_, ?b, fun base kb nb => My.law_fn T kb nb⟩; exact fun s u => .of_eq rfl
  case S => exact fun w H a ns hl hO hS => ..
  case C => exact ..
(the tactic k_is has no namespace: write k_is) -/
namespace L2
open PySem PySem.Spec PyProof.Rows
def defArgs (s : Stmt) : Arguments := match s with
  | .FunctionDef _ a _ _ _ _ _ _ _ _ => a
  | _ => { posonlyargs := [], args := [], vararg := none, kwonlyargs := [], kw_defaults := [], kwarg := none, defaults := [] }
def defBody (s : Stmt) : List Stmt := match s with
  | .FunctionDef _ _ b _ _ _ _ _ _ _ => b
  | _ => []
def defScope (s : Stmt) : Scope := match s with
  | .FunctionDef _ _ _ _ _ _ sc _ _ _ => sc
  | _ => { kind := .function, names := [], isGenerator := false, isCoroutine := false }
abbrev CX0 : CXT := fun _ _ _ _ _ _ => False
abbrev E0 : XK := fun _ _ _ => False
theorem pass0 {X : Cx} : Passes CX0 X E0 := fun _ _ _ _ _ _ _ h => h.elim
structure Fun (K : PySem.W.Frag) (x qual : Str) (st : Stmt) (f : Addr) (fd : FuncData) : Prop where
  ex : ∃ (oc : Value) (od : Option Addr) (kV doc pm : Value) (an : Option Addr) (cdv ct : Value) (osl : Array (Option Value)),
    fd = PySem.W.fnOf x qual (defArgs st) (defBody st) (defScope st) .none kV doc pm an cdv ct ∧ K.lookup f = some ⟨oc, od, .func fd, osl⟩ ∧ PySem.W.codeIn K cdv qual = true
  kp : PySem.W.keepIn K (.ref f) = true
section
variable {P : Program} {w : World} {K : PySem.W.Frag} {mg : Str → Option Value} {base : Heap}
theorem Fun.ok {x qual : Str} {st : Stmt} {f : Addr} {fd : FuncData} {N ps : List Str} {k : Nat} {sp : Sp} (F : Fun K x qual st f fd) (S : FnScope N ps (defScope st)) (len : ∀ vs H Q E, sp vs H Q E → vs.length = ps.length)
    (hbody : ∀ (cdv : Value) (A : Around) (outer : List Env) (s : Shared) (H : Hp) (vs : List V) (Q : VK) (E : XK), Room k (A.deeper (envOfC qual (defScope st) s.heap.objs.size f cdv)) → sp vs H Q E →
      ∃ t, PSs (cxOf CX0 P w K mg base N qual (defScope st) f cdv A outer s H E).nox (defBody st) t ∧ t { nx := fun _ H' => Q .non H', rt := Q } (start N vs) H) : FnOk P w K mg base CX0 (k + 1) f fd ps sp := by
  obtain ⟨oc, od, kV, doc, pm, an, cdv, ct, osl, rfl, lk, hcd⟩ := F.ex
  refine fn_of lk hcd S len fun A outer s H vs Q E hr hsp => ?_
  obtain ⟨t, h, q⟩ := hbody cdv A outer s H vs Q E hr hsp
  exact ⟨t, h.nox, q⟩
theorem Fun.binds {x qual : Str} {st : Stmt} {f : Addr} {fd : FuncData} {ps : List Str} (F : Fun K x qual st f fd)
    (h : ∀ (kV doc pm : Value) (an : Option Addr) (cdv ct : Value) (us : List Value), us.length = ps.length → bindArgs (PySem.W.fnOf x qual (defArgs st) (defBody st) (defScope st) .none kV doc pm an cdv ct) ⟨us, []⟩ = pure (ps.zip us)) : Binds K fd ps [] := by
  obtain ⟨oc, od, kV, doc, pm, an, cdv, ct, osl, rfl, lk, hcd⟩ := F.ex
  exact .all (h kV doc pm an cdv ct)
theorem fun_mk {x qual : Str} {st : Stmt} {f : Addr} {oc : Value} {od an : Option Addr} {osl : Array (Option Value)} {kV doc pm cdv ct : Value} (l : K.lookup f = some ⟨oc, od, .func (PySem.W.fnOf x qual (defArgs st) (defBody st) (defScope st) .none kV doc pm an cdv ct), osl⟩)
    (c : PySem.W.codeIn K cdv qual = true) (k : PySem.W.keepIn K (.ref f) = true) : Fun K x qual st f (PySem.W.fnOf x qual (defArgs st) (defBody st) (defScope st) .none kV doc pm an cdv ct) := ⟨⟨oc, od, kV, doc, pm, an, cdv, ct, osl, rfl, l, c⟩, k⟩
end
section
variable {X : Cx}
end
theorem iteF {A B : Prop} (h : B) : if false = true then A else B := by
  rw [if_neg Bool.false_ne_true]
  exact h
theorem iteT {A B : Prop} (h : A) : if true = true then A else B := by
  rw [if_pos rfl]
  exact h
theorem ite2 {c A B : Prop} [Decidable c] (h1 : c → A) (h2 : ¬ c → B) : if c then A else B := by
  by_cases h : c
  · rw [if_pos h]
    exact h1 h
  · rw [if_neg h]
    exact h2 h
def Same (H H' : Hp) : Prop := ∀ b o, H b = some o → H' b = some o
theorem Same.refl (H : Hp) : Same H H := fun _ _ h => h
theorem Same.trans {H H1 H2 : Hp} (a : Same H H1) (b : Same H1 H2) : Same H H2 := fun c o h => b c o (a c o h)
theorem Same.free {H H' : Hp} (e : Same H H') {l : Addr} (h : H' l = Option.none) : H l = Option.none := by
  cases q : H l with
  | none => rfl
  | some o =>
    rw [e l o q] at h
    cases h
theorem Same.seq {K : PySem.W.Frag} {H H' : Hp} {a : Addr} {xs : List V} (e : Same H H') (h : SqL K H a xs) : SqL K H' a xs := by
  rcases h with (h | ⟨o, h⟩) | h
  · exact .inl (.inl (e _ _ h))
  · exact .inl (.inr ⟨o, e _ _ h⟩)
  · exact .inr h
section
variable {κ : Type} [DecidableEq κ]
end
end L2
set_option Elab.async false
set_option linter.all false
set_option maxRecDepth 100000
set_option maxHeartbeats 4000000
namespace L2
open PySem PySem.Spec PyProof.Rows
def closOf (env : Env) : List (Str × NameKind) → List (Str × Addr) → List (Str × Addr)
  | [], acc => acc
  | (n, k) :: r, acc => closOf env r (if k == .free then (n, (env.cells.lookup n).getD 0) :: acc else acc)
theorem clos_for {env : Env} (f : Str × NameKind → List (Str × Addr) → Sem (ForInStep (List (Str × Addr))))
    (hf : ∀ n k cs, f (n, k) cs = if k == .free then (do let a ← cellOf env n; pure (.yield ((n, a) :: cs))) else pure (.yield cs)) :
    ∀ (l : List (Str × NameKind)) (acc : List (Str × Addr)), (∀ n, (n, NameKind.free) ∈ l → ∃ c, env.cells.lookup n = some c) → forIn l acc f = pure (closOf env l acc)
  | [], acc, _ => by rw [List.forIn_nil]; rfl
  | (n, k) :: r, acc, h => by
    have ih := clos_for f hf r
    have hr : ∀ m, (m, NameKind.free) ∈ r → ∃ c, env.cells.lookup m = some c := fun m hm => h m (List.mem_cons_of_mem _ hm)
    rw [List.forIn_cons, hf]
    unfold closOf
    by_cases hk : (k == NameKind.free) = true
    · have hk' : k = NameKind.free := by simpa using hk
      subst hk'
      obtain ⟨c, hc⟩ := h n List.mem_cons_self
      have e : cellOf env n = pure c := by unfold cellOf; rw [hc]
      rw [if_pos hk, if_pos hk, e, hc]
      simp only [pure_bind, Option.getD_some]
      exact ih _ hr
    · rw [if_neg hk, if_neg hk]
      simp only [pure_bind]
      exact ih _ hr
theorem clos_eq {scope : Scope} {env : Env} (h : ∀ n, (n, NameKind.free) ∈ scope.names → ∃ c, env.cells.lookup n = some c) : closureFor scope env = pure (closOf env scope.names []) := by
  simp only [closureFor]
  rw [clos_for (env := env) _ (fun n k cs => by cases hk : (k == NameKind.free) <;> simp [hk]) scope.names [] h]
  simp
theorem closOf_sub {env : Env} : ∀ (l : List (Str × NameKind)) (acc : List (Str × Addr)), (∀ n, (n, NameKind.free) ∈ l → ∃ c, env.cells.lookup n = some c) → (∀ n c, (n, c) ∈ acc → env.cells.lookup n = some c) →
    ∀ n c, (n, c) ∈ closOf env l acc → env.cells.lookup n = some c
  | [], _, _, ha, n, c, hm => ha n c hm
  | (x, k) :: r, acc, h, ha, n, c, hm => by
    have hr : ∀ m, (m, NameKind.free) ∈ r → ∃ c, env.cells.lookup m = some c := fun m hm => h m (List.mem_cons_of_mem _ hm)
    unfold closOf at hm
    refine closOf_sub r _ hr (fun m d hd => ?_) n c hm
    by_cases hk : (k == NameKind.free) = true
    · have hk' : k = NameKind.free := by simpa using hk
      subst hk'
      rw [if_pos hk] at hd
      rcases List.mem_cons.mp hd with e | hd
      · obtain ⟨c', hc'⟩ := h x List.mem_cons_self
        cases e
        rw [hc']; rfl
      · exact ha m d hd
    · rw [if_neg hk] at hd
      exact ha m d hd
theorem closOf_has {env : Env} : ∀ (l : List (Str × NameKind)) (acc : List (Str × Addr)) (n : Str), ((n, NameKind.free) ∈ l ∨ (acc.lookup n).isSome = true) → ((closOf env l acc).lookup n).isSome = true
  | [], _, _, h => h.elim (fun z => nomatch z) id
  | (x, k) :: r, acc, n, h => by
    unfold closOf
    refine closOf_has r _ n ?_
    have up : (acc.lookup n).isSome = true → ((if (k == NameKind.free) = true then (x, (env.cells.lookup x).getD 0) :: acc else acc).lookup n).isSome = true := fun z => by
      by_cases hk : (k == NameKind.free) = true
      · rw [if_pos hk, List.lookup_cons]
        cases n == x <;> simp [z]
      · rw [if_neg hk]; exact z
    rcases h with h | h
    · rcases List.mem_cons.mp h with e | h
      · right
        cases e
        rw [if_pos (by rfl), List.lookup_cons]
        simp
      · exact .inl h
    · exact .inr (up h)
theorem cellsFrom_app : ∀ (names : List (Str × NameKind)) (n : Nat) (acc : List (Str × Addr)), cellsFrom n names acc = cellsFrom n names [] ++ acc
  | [], _, _ => rfl
  | (x, k) :: r, n, acc => by
    unfold cellsFrom
    by_cases hk : (k == NameKind.cell) = true
    · rw [if_pos hk, if_pos hk, cellsFrom_app r (n + 1) ((x, n) :: acc), cellsFrom_app r (n + 1) [(x, n)], List.append_assoc]
      rfl
    · rw [if_neg hk, if_neg hk]
      exact cellsFrom_app r n acc
theorem cellsFrom_kind : ∀ (names : List (Str × NameKind)) (n : Nat) (acc : List (Str × Addr)) (x : Str) (c : Addr), (x, c) ∈ cellsFrom n names acc → (x, c) ∈ acc ∨ (x, NameKind.cell) ∈ names
  | [], _, _, _, _, h => .inl h
  | (y, k) :: r, n, acc, x, c, h => by
    unfold cellsFrom at h
    by_cases hk : (k == NameKind.cell) = true
    · have hk' : k = NameKind.cell := by simpa using hk
      subst hk'
      rw [if_pos hk] at h
      rcases cellsFrom_kind r _ _ x c h with h | h
      · rcases List.mem_cons.mp h with e | h
        · cases e; exact .inr List.mem_cons_self
        · exact .inl h
      · exact .inr (List.mem_cons_of_mem _ h)
    · rw [if_neg hk] at h
      rcases cellsFrom_kind r _ _ x c h with h | h
      · exact .inl h
      · exact .inr (List.mem_cons_of_mem _ h)
def relabS (sc sup : Scope) : Scope :=
  { sc with names := sc.names.map fun (n, k) => if (k == .free && sup.kind == .function && sup.names.lookup n == some .cell) then (n, .cell) else (n, k) }
def cpOk (sup : Scope) (XN N : List Str) (k : Nat) (js : List Nat) (sc : Scope) : Bool :=
  sc.kind == .function && decide N.Nodup && decide (sc.names.map (·.1)).Nodup && (sc.names.all fun p => p.2 != .free || (sup.names.lookup p.1 == some .cell || sup.names.lookup p.1 == some .free)) &&
    N.length == k + js.length && ((N.drop k).zip js).all fun p => sc.names.lookup p.1 == some .free && XN[p.2]? == some p.1
structure CpScope (X : Cx) (N : List Str) (k : Nat) (js : List Nat) (sc : Scope) : Prop where
  kind : sc.kind = .function
  nd : N.Nodup
  nm : (sc.names.map (·.1)).Nodup
  fr : ∀ n, (n, NameKind.free) ∈ sc.names → X.env.kindOf n = some .cell ∨ X.env.kindOf n = some .free
  len : N.length = k + js.length
  at' : ∀ (i : Nat) (x : Str), N[k + i]? = some x → sc.names.lookup x = some .free ∧ ∃ j, js[i]? = some j ∧ X.N[j]? = some x
theorem cp_of {X : Cx} {sup : Scope} {XN N : List Str} {k : Nat} {js : List Nat} {sc : Scope} (hs : X.env.scope = sup) (hn : X.N = XN) (h : cpOk sup XN N k js sc = true) : CpScope X N k js sc := by
  subst hs hn
  unfold cpOk at h
  simp only [Bool.and_eq_true, decide_eq_true_eq, beq_iff_eq, List.all_eq_true] at h
  obtain ⟨⟨⟨⟨⟨h1, h2⟩, h3⟩, h4⟩, h5⟩, h6⟩ := h
  refine ⟨h1, h2, h3, fun n hn => ?_, h5, fun i x hi => ?_⟩
  · have q := h4 _ hn
    simp only [bne_self_eq_false, Bool.false_or, Bool.or_eq_true, beq_iff_eq] at q
    exact q
  · have hi' : (N.drop k)[i]? = some x := by rw [List.getElem?_drop]; exact hi
    have hl : k + i < N.length := (List.getElem?_eq_some_iff.mp hi).1
    have hj : i < js.length := by omega
    have hm : (x, js[i]) ∈ (N.drop k).zip js := by
      refine List.mem_iff_getElem?.mpr ⟨i, ?_⟩
      rw [List.getElem?_zip_eq_some]
      exact ⟨hi', by simp [hj]⟩
    have q := h6 _ hm
    exact ⟨q.1, js[i], by simp [hj], q.2⟩
theorem lookup_of_mem {α : Type} : ∀ {l : List (Str × α)} {x : Str} {v : α}, (l.map (·.1)).Nodup → (x, v) ∈ l → l.lookup x = some v
  | (y, u) :: r, x, v, nd, h => by
    rw [List.map_cons, List.nodup_cons] at nd
    rw [List.lookup_cons]
    rcases List.mem_cons.mp h with e | h
    · cases e; simp
    · have ne : x ≠ y := fun z => nd.1 (List.mem_map.mpr ⟨(x, v), h, z⟩)
      have hb : (x == y) = false := by simpa using ne
      rw [hb]
      exact lookup_of_mem nd.2 h
def blkSt (k : Nat) (js : List Nat) (σ : St) : St := List.replicate k none ++ js.map fun j => (σ[j]?).getD none
def cxB (X : Cx) (N : List Str) (sc : Scope) (C : Addr) (cells : List (Str × Addr)) (fp : List Addr) (s : Shared) (H : Hp) : Cx where
  prog := X.prog
  w := X.w
  K := X.K
  mg := X.mg
  base := X.base
  A := X.A
  N := N
  s₀ := s
  H₀ := H
  env := { scope := relabS sc X.env.scope, locals := C, globals := X.env.globals, cells := cells, qual := X.env.qual, func := none, code := X.env.code, frame := X.env.frame, builtins := X.env.builtins }
  outer := X.stack
  stack := X.stack
  ex := fp
  fn := fun x => sc.names.lookup x == some .cell
  calm := X.calm
  pn := []
  xe := fun _ _ => False
section
variable {X : Cx} {pins : List (Addr × Obj)} {σ : St} {H : Hp} {s : Shared}
theorem lookup_relabS {sc sup : Scope} {x : Str} {k : NameKind} (h : (relabS sc sup).names.lookup x = some k) : sc.names.lookup x = some k ∨ (sc.names.lookup x = some .free ∧ k = .cell) := by
  unfold relabS at h
  dsimp only at h
  generalize sc.names = l at h ⊢
  induction l with
  | nil => simp at h
  | cons p r ih =>
    obtain ⟨n, kd⟩ := p
    rw [List.map_cons, List.lookup_cons] at h
    rw [List.lookup_cons]
    dsimp only at h
    by_cases hc : (kd == NameKind.free && sup.kind == ScopeKind.function && sup.names.lookup n == some NameKind.cell) = true
    · rw [if_pos hc] at h
      dsimp only at h
      cases hx : x == n with
      | true =>
        rw [hx] at h
        simp only [Bool.and_eq_true, beq_iff_eq] at hc
        right
        exact ⟨by rw [hc.1.1], (Option.some.inj h).symm⟩
      | false => rw [hx] at h; exact ih h
    · rw [if_neg hc] at h
      dsimp only at h
      cases hx : x == n with
      | true => rw [hx] at h; left; exact h
      | false => rw [hx] at h; exact ih h
theorem lookup_relabS_free {sc sup : Scope} {x : Str} (h : sc.names.lookup x = some .free) : (relabS sc sup).names.lookup x = some .cell ∨ (relabS sc sup).names.lookup x = some .free := by
  unfold relabS
  dsimp only
  generalize sc.names = l at h ⊢
  induction l with
  | nil => simp at h
  | cons p r ih =>
    obtain ⟨n, kd⟩ := p
    rw [List.lookup_cons] at h
    rw [List.map_cons]
    dsimp only
    by_cases hc : (kd == NameKind.free && sup.kind == ScopeKind.function && sup.names.lookup n == some NameKind.cell) = true
    · rw [if_pos hc, List.lookup_cons]
      cases hx : x == n with
      | true => left; rfl
      | false => rw [hx] at h; exact ih h
    · rw [if_neg hc, List.lookup_cons]
      cases hx : x == n with
      | true => rw [hx] at h; right; exact h
      | false => rw [hx] at h; exact ih h
theorem Inv.block {N : List Str} {k : Nat} {js : List Nat} {sc : Scope} {fp : List Addr} (I : Inv X pins σ H s) (S : CpScope X N k js sc) (hf : ∀ b ∈ fp, FpOk X pins H b) (hfs : ∀ b ∈ fp, b < s.heap.objs.size) :
    Inv (cxB X N sc s.heap.objs.size (cellsFrom (s.heap.objs.size + 1) sc.names (closOf X.env sc.names [])) fp s H) [] (blkSt k js σ) H
      { s with heap := pushCells (s.heap.push { cls := .type "dict", data := .dict #[] }) sc.names } := by
  have hz : (s.heap.push { cls := .type "dict", data := .dict #[] }).objs.size = s.heap.objs.size + 1 := Heap.size_push ..
  have kp : ∀ b o, s.heap.get? b = some o → (pushCells (s.heap.push { cls := .type "dict", data := .dict #[] }) sc.names).get? b = some o := fun b o e => pushCells_keeps _ _ b o (Heap.get?_push_of_some _ e)
  have cok := cellsFrom_ok sc.names (s.heap.push { cls := .type "dict", data := .dict #[] }) (s.heap.objs.size + 1) [] ⟨fun _ _ hm => (nomatch hm), List.Pairwise.nil⟩ (by rw [hz]; exact Nat.le_refl _)
  rw [hz] at cok
  have frs' : ∀ n, (n, NameKind.free) ∈ sc.names → ∃ c, X.env.cells.lookup n = some c := fun n hn => I.ok.has n (S.fr n hn)
  have csub := closOf_sub (env := X.env) sc.names [] frs' (fun _ _ z => nomatch z)
  have cases_ : ∀ x c, (cellsFrom (s.heap.objs.size + 1) sc.names (closOf X.env sc.names [])).lookup x = some c →
      ((cellsFrom (s.heap.objs.size + 1) sc.names []).lookup x = some c) ∨ ((cellsFrom (s.heap.objs.size + 1) sc.names []).lookup x = none ∧ (closOf X.env sc.names []).lookup x = some c) := fun x c h => by
    rw [cellsFrom_app, List.lookup_append] at h
    cases q : (cellsFrom (s.heap.objs.size + 1) sc.names []).lookup x with
    | some d => rw [q] at h; left; simpa using h
    | none => rw [q] at h; right; exact ⟨rfl, by simpa using h⟩
  have old : ∀ x c, (closOf X.env sc.names []).lookup x = some c → X.env.cells.lookup x = some c := fun x c h => csub x c (PySem.mem_of_lookup h)
  have oldlt : ∀ x c, X.env.cells.lookup x = some c → c < s.heap.objs.size := fun x c h => let ⟨_, q⟩ := I.cell x c h; q.lt
  have ownge : ∀ x c, (cellsFrom (s.heap.objs.size + 1) sc.names []).lookup x = some c → s.heap.objs.size + 1 ≤ c := fun x c h => (cok.empty x c (PySem.mem_of_lookup h)).2
  refine ⟨⟨I.ok.mod, S.kind, I.ok.glob, I.ok.blt, Nat.le_refl _, ?inj, ?has, ?cab, I.ok.hd, I.ok.frames, .inl rfl, ?exf, I.bs, Nat.le_trans I.ok.bsz I.sz, ?noex, ?exfs, I.stack, I.stkFree⟩, rfl, I.bare, Un.kept kp, ?loc, ?cell, I.hok.fresh (Nat.le_refl _), ?freeC, fun p hp => absurd (show p ∈ ([] : List (Addr × Obj)) from hp) (by simp), I.hok.kept kp, ?len⟩
  case inj =>
    intro x y c hx hy
    rcases cases_ x c hx with h1 | ⟨_, h1⟩ <;> rcases cases_ y c hy with h2 | ⟨_, h2⟩
    · exact name_of_addr cok.apart (PySem.mem_of_lookup h1) (PySem.mem_of_lookup h2)
    · exact absurd (Nat.lt_of_lt_of_le (oldlt y c (old y c h2)) (Nat.le_of_succ_le (ownge x c h1))) (Nat.lt_irrefl _)
    · exact absurd (Nat.lt_of_lt_of_le (oldlt x c (old x c h1)) (Nat.le_of_succ_le (ownge y c h2))) (Nat.lt_irrefl _)
    · exact I.ok.inj x y c (old x c h1) (old y c h2)
  case has =>
    intro x hx
    have hx' : (relabS sc X.env.scope).names.lookup x = some .cell ∨ (relabS sc X.env.scope).names.lookup x = some .free := hx
    have q : sc.names.lookup x = some .cell ∨ sc.names.lookup x = some .free := by
      rcases hx' with h | h
      · rcases lookup_relabS h with h | ⟨h, _⟩
        · exact .inl h
        · exact .inr h
      · rcases lookup_relabS h with h | ⟨h, _⟩
        · exact .inr h
        · exact .inr h
    refine Option.isSome_iff_exists.mp (PySem.W.cellsFrom_some sc.names _ _ ?_)
    rcases q with q | q
    · exact .inl q
    · exact .inr (closOf_has _ _ _ (.inl (PySem.mem_of_lookup q)))
  case cab =>
    intro x c hfn hx
    have hc : sc.names.lookup x = some .cell := by simpa [cxB] using hfn
    rcases cases_ x c hx with h | ⟨h, _⟩
    · have := ownge x c h
      show s.heap.objs.size ≤ c
      omega
    · have q := PySem.W.cellsFrom_some sc.names (s.heap.objs.size + 1) [] (.inl hc)
      rw [h] at q; cases q
  case exf =>
    intro b hb
    have hlt := hfs b hb
    refine ⟨Nat.ne_of_lt hlt, fun x c hx => ?_⟩
    rcases cases_ x c hx with h | ⟨_, h⟩
    · exact fun z => absurd (Nat.lt_of_lt_of_le (show c < s.heap.objs.size by rw [z]; exact hlt) (Nat.le_of_succ_le (ownge x c h))) (Nat.lt_irrefl _)
    · exact (hf b hb).2.2.2.2.1 x c (old x c h)
  case noex =>
    intro b o e hb
    rcases (hf b hb).2.2.2.1 with z | z
    · exact I.ok.noex b o e z
    · exact absurd (Nat.lt_of_lt_of_le (Heap.lt_size (I.ok.bs b o e).1) z) (Nat.lt_irrefl _)
  case exfs =>
    intro b hb hbf
    rcases List.mem_cons.mp (I.stkSub b hbf) with z | z
    · exact (hf b hb).2.1 z
    · exact (hf b hb).2.2.1 z
  case loc =>
    refine ⟨_, (Heap.Ns.new s.heap (.type "dict")).keeps (pushCells_keeps _ _), fun i x v e1 e2 e3 => ?_⟩
    have hik : k ≤ i := by
      unfold blkSt at e2
      by_cases hik : k ≤ i
      · exact hik
      · rw [List.getElem?_append_left (by simp; omega), List.getElem?_replicate] at e2
        split at e2 <;> cases e2
    obtain ⟨i', rfl⟩ : ∃ i', i = k + i' := ⟨i - k, by omega⟩
    obtain ⟨hfree, j, hj, hX⟩ := S.at' i' x e1
    have e2' : (σ[j]?).getD none = some v := by
      unfold blkSt at e2
      rw [List.getElem?_append_right (by simp)] at e2
      rw [List.length_replicate, show k + i' - k = i' by omega, List.getElem?_map, hj] at e2
      exact Option.some.inj e2
    have hσ : σ[j]? = some (some v) := by
      cases q : σ[j]? with
      | none => rw [q] at e2'; cases e2'
      | some o => rw [q] at e2'; exact congrArg some e2'
    have hk := S.fr x (PySem.mem_of_lookup hfree)
    obtain ⟨m, hn, hl⟩ := I.loc
    obtain ⟨u, r, l⟩ := hl j x v hX hσ (by rcases hk with h | h; exact .inr (.inl h); exact .inr (.inr h))
    rcases l with ⟨hloc, _⟩ | ⟨_, c, hc, hcell⟩
    · rcases hk with h | h <;> (rw [h] at hloc; cases hloc)
    · refine ⟨u, r, .inr ⟨lookup_relabS_free hfree, c, ?_, hcell.keeps kp⟩⟩
      show (cellsFrom (s.heap.objs.size + 1) sc.names (closOf X.env sc.names [])).lookup x = some c
      have hno : (cellsFrom (s.heap.objs.size + 1) sc.names []).lookup x = none := by
        cases q : (cellsFrom (s.heap.objs.size + 1) sc.names []).lookup x with
        | none => rfl
        | some d =>
          rcases cellsFrom_kind _ _ _ x d (PySem.mem_of_lookup q) with z | z
          · cases z
          · have := lookup_of_mem S.nm z
            rw [hfree] at this; cases this
      obtain ⟨d, hd⟩ := Option.isSome_iff_exists.mp (closOf_has (env := X.env) sc.names [] x (.inl (PySem.mem_of_lookup hfree)))
      have hdc : d = c := by
        have := old x d hd
        rw [hc] at this
        exact (Option.some.inj this).symm
      rw [cellsFrom_app, List.lookup_append, hno, hd, hdc]
      rfl
  case cell =>
    intro x c hx
    rcases cases_ x c hx with h | ⟨_, h⟩
    · exact ⟨none, (cok.empty x c (PySem.mem_of_lookup h)).1⟩
    · obtain ⟨v, q⟩ := I.cell x c (old x c h)
      exact ⟨v, q.keeps kp⟩
  case freeC =>
    intro x c hx
    rcases cases_ x c hx with h | ⟨_, h⟩
    · exact I.hok.fresh (by have := ownge x c h; omega)
    · exact I.freeC x c (old x c h)
  case len =>
    show (blkSt k js σ).length = N.length
    unfold blkSt
    rw [List.length_append, List.length_replicate, List.length_map]
    exact S.len.symm
end
end L2
set_option Elab.async false
set_option linter.all false
set_option maxRecDepth 100000
set_option maxHeartbeats 4000000
namespace L2
open PySem PySem.Spec PyProof.Rows
theorem comp_loop {prog : Program} {w : World} {A : Around} {R : Result → Shared → Prop} {s : Shared} {elt tg iter : Expr} {ifs : List Expr} {scope : Scope} {pos : Pos} {it acc : Value} {env : Env} (J : Nat → Shared → Prop)
    (turn : ∀ n s, J n s → wpAny (model prog w) A (pyNext it) (fun r s1 => match r with
      | none => R (.ok .next) s1
      | some v => wpAny (model prog w) A (letOwnedTupleGo tg it v) (fun _ s2 => wpAny (model prog w) A (assign tg env v) (fun _ s3 =>
          wpAny (model prog w) A (forIn ifs true fun c r => if r = true then do let ok ← isTrue c env (eval c env); pure (ForInStep.yield ok) else pure (ForInStep.yield r)) (fun ok s4 =>
            if ok = true then wpAny (model prog w) A (eval elt env) (fun x s5 => wpAny (model prog w) A (call (.builtin "list.append") [acc, x]) (fun _ s6 => ∃ m, m < n ∧ J m s6) (fun _ _ => False) s5) (fun _ _ => False) s4
            else ∃ m, m < n ∧ J m s4) (fun _ _ => False) s3) (fun _ _ => False) s2) (fun _ _ => False) s1) (fun _ _ => False) s)
    (n : Nat) (h : J n s) : codeAny (model prog w) A (.compLoop (.ListComp elt [⟨tg, iter, ifs, 0⟩] scope pos) 0 it acc env) R s := by
  refine codeAny_loop rfl J (fun n s hI => wpAny_noted (wpAny_noRaise ?_)) n h
  rw [compTurn_list]
  refine wpAny_bind (wpAny_standAt (wpAny_bind (thn (turn n s hI) fun r s1 h1 => ?_)))
  cases r with
  | none => exact wpAny_pure h1
  | some v =>
    refine wpAny_bind (thn h1 fun _ s2 h2 => wpAny_bind (thn h2 fun _ s3 h3 => wpAny_bind (thn h3 fun ok s4 h4 => ?_)))
    cases ok with
    | false => exact wpAny_pure ⟨rfl, by simpa using h4⟩
    | true =>
      rw [if_pos rfl] at h4
      exact wpAny_bind (wpAny_bind (thn h4 fun x s5 h5 => wpAny_bind (thn h5 fun _ s6 h6 => wpAny_pure (wpAny_pure ⟨rfl, h6⟩))))
theorem block_env {M : Model} {A : Around} {E : Value → Shared → Prop} {s : Shared} {sc : Scope} {globals : Addr} {clo : List (Str × Addr)} {qual : Str} {out : Env} {Q : Env → Shared → Prop}
    (h : Q { scope := sc, locals := s.heap.objs.size, globals := globals, cells := cellsFrom (s.heap.objs.size + 1) sc.names clo, qual := qual, func := none, code := out.code, frame := out.frame, builtins := out.builtins }
      { s with heap := pushCells (s.heap.push { cls := .type "dict", data := .dict #[] }) sc.names }) :
    wpAny M A (newFunctionEnv sc globals clo [] qual none .none (some out)) Q E s := by
  unfold newFunctionEnv
  simp only [Option.isSome_some, if_true]
  refine wpAny_bind (wpAny_alloc (wpAny_bind (wpAny_layCells _ (fun name kind cells => by cases hkc : kind == NameKind.cell <;> simp [hkc]) _ _ _ _ ?_)))
  rw [show ({ s with heap := s.heap.push { cls := .type "dict", data := .dict #[] } } : Shared).heap.objs.size = s.heap.objs.size + 1 from Heap.size_push ..]
  simp only [List.forIn_nil]
  exact wpAny_bind (wpAny_pure (wpAny_pure h))
def PTs (X : Cx) (ifs : List Expr) (t : TT) : Prop :=
  ∀ (pins : List (Addr × Obj)) (s : Shared) (σ : St) (H : Hp) (Q : Bool → Hp → Prop), Inv X pins σ H s → t σ H Q →
    wpAny (model X.prog X.w) X.A (forIn ifs true fun c r => if r = true then do let ok ← isTrue c X.env (eval c X.env); pure (ForInStep.yield ok) else pure (ForInStep.yield r)) (TP X pins σ Q) X.xe s
def tNoTest : TT := fun _ H Q => Q true H
theorem pts_nil {X : Cx} : PTs X [] tNoTest := fun pins s σ H Q I h => wpAny_tests_nil ⟨H, I, h⟩
theorem pts_one {X : Cx} {c : Expr} {t : TT} (h : PT X c t) : PTs X [c] t := fun pins s σ H Q I q => wpAny_tests_one (h pins s σ H Q I q)
def tTurns (J : It) (g : TG) (tt : TT) (te : TE) (l : Addr) (σb : St) (H1 : Hp) (R : Hp → Prop) : Prop :=
  ∃ W : Nat → Nat → St → Hp → Prop, (∃ m, W 0 m σb (upd H1 l (.lst []))) ∧ ∀ i m σ' H', W i m σ' H' →
    (J.stop i H' ∧ R H') ∨ (J.go i H' ∧ ∀ x H2, J.yld i H' x H2 → g x σ' H2 fun σ2 H3 => tt σ2 H3 fun b H4 => if b = true
      then te σ2 H4 fun v H5 => ∃ ys, H5 l = some (.lst ys) ∧ ys.length < sizeLine ∧ ∃ m', m' < m ∧ W (i + 1) m' σ2 (upd H5 l (.lst (ys ++ [v])))
      else ∃ m', m' < m ∧ W (i + 1) m' σ2 H4)
def tComp (k : Nat) (js : List Nat) (wi : TI) (g : TG) (tt : TT) (te : TE) : TE := fun σ H Q => wi σ H fun J H1 => ∀ l, H1 l = none → tTurns J g tt te l (blkSt k js σ) H1 fun H' => Q (.ref l) H'
section
variable {X : Cx} {elt tg iter : Expr} {ifs : List Expr} {sc : Scope} {pos : Pos} {N : List Str} {k : Nat} {js : List Nat} {wi : TI} {g : TG} {tt : TT} {te : TE}
structure Blk (X : Cx) (N : List Str) (sc : Scope) (tg : Expr) (ifs : List Expr) (elt : Expr) (g : TG) (tt : TT) (te : TE) : Prop where
  tgt : ∀ C cells fp s H, PG (cxB X N sc C cells fp s H) tg g
  tst : ∀ C cells fp s H, PTs (cxB X N sc C cells fp s H) ifs tt
  val : ∀ C cells fp s H, PE (cxB X N sc C cells fp s H) elt te
def After (X : Cx) (pins : List (Addr × Obj)) (σ : St) (R : Addr → Hp → Prop) (acc : Value) (C : Addr) (s' : Shared) : Prop :=
  ∃ (l : Addr) (H' : Hp) (m : Str → Option Value), acc = .ref l ∧ Inv X pins σ H' s' ∧ s'.heap.Ns C m ∧ FpOk X pins H' C ∧ R l H'
theorem comp_run {pins : List (Addr × Obj)} {σ : St} {H : Hp} {s : Shared} {R : Addr → Hp → Prop} (hc : X.calm = true) (S : CpScope X N k js sc) (hi : PI X tg iter wi) (B : Blk X N sc tg ifs elt g tt te) (I : Inv X pins σ H s)
    (h : wi σ H fun J H1 => ∀ l, H1 l = none → tTurns J g tt te l (blkSt k js σ) H1 (R l)) :
    wpAny (model X.prog X.w) X.A (eval iter X.env) (fun x s1 => wpAny (model X.prog X.w) X.A (pyIter x) (fun it s2 => wpAny (model X.prog X.w) X.A (newList []) (fun acc s3 =>
      wpAny (model X.prog X.w) X.A (newFunctionEnv sc X.env.globals (closOf X.env sc.names []) [] X.env.qual none .none (some X.env)) (fun cenv s4 =>
        codeAny (model X.prog X.w) X.A (.compStart (.ListComp elt [⟨tg, iter, ifs, 0⟩] sc pos) 0 it acc { cenv with scope := relabel sc X.env })
          (fun r s' => match r with | .ok _ => After X pins σ R acc cenv.locals s' | .error _ => False) s4) X.xe s3) X.xe s2) X.xe s1) X.xe s := by
  refine thn (hi pins s σ H _ I h) fun v s1 h1 => thn h1 fun itv s2 h2 => ?_
  obtain ⟨it, fp, tn, J, H2, e, I2, T, st2, f2, hq⟩ := h2
  subst e
  have hl : H2 s2.heap.objs.size = none := I2.fresh
  have fplt : ∀ b ∈ fp, b < s2.heap.objs.size := fun b hb => by
    obtain ⟨o, e, _⟩ := T.obj 0 _ st2 b hb
    exact Heap.lt_size e
  obtain ⟨W, ⟨m0, w0⟩, turn⟩ := hq _ hl
  refine wpAny_newList ?_
  have I3 : Inv X pins σ (upd H2 s2.heap.objs.size (.lst [])) { s2 with heap := s2.heap.push { cls := .type "list", data := .seq ([] : List Value).toArray } } := I2.lnew (its := []) (t' := s2.toks) .nil (Nat.zero_le _)
  have u3 : Un (frs X.stack) fp H2 (upd H2 s2.heap.objs.size (.lst [])) s2.heap (s2.heap.push { cls := .type "list", data := .seq ([] : List Value).toArray }) := Un.laid (fun b o e => Heap.get?_push_of_some _ e) (Nat.le_refl _) hl
  have hz3 : (s2.heap.push { cls := .type "list", data := .seq ([] : List Value).toArray }).objs.size = s2.heap.objs.size + 1 := Heap.size_push ..
  have kp3 : ∀ b o, s2.heap.get? b = some o → (s2.heap.push { cls := .type "list", data := .seq ([] : List Value).toArray }).get? b = some o := fun b o e => Heap.get?_push_of_some _ e
  have fpn : ∀ b ∈ fp, upd H2 s2.heap.objs.size (.lst []) b = none := fun b hb => by
    rw [upd_ne (Nat.ne_of_lt (fplt b hb))]; exact (f2 b hb).1
  generalize hl0 : s2.heap.objs.size = l at hl I3 u3 hz3 kp3 fpn w0 turn ⊢
  rw [hl0] at fplt
  generalize s2.heap.push { cls := .type "list", data := .seq ([] : List Value).toArray } = h3 at I3 u3 hz3 kp3 ⊢
  generalize upd H2 l (.lst []) = H3 at I3 u3 fpn w0
  have f3 : ∀ b ∈ fp, FpOk X pins H3 b := fun b hb => ⟨fpn b hb, (f2 b hb).2⟩
  have I4 := I3.block S f3 (fun b hb => by show b < h3.objs.size; rw [hz3]; exact Nat.lt_succ_of_lt (fplt b hb))
  have kp4 : ∀ b o, s2.heap.get? b = some o → (pushCells (h3.push { cls := .type "dict", data := .dict #[] }) sc.names).get? b = some o := fun b o e => pushCells_keeps _ _ b o (Heap.get?_push_of_some _ (kp3 b o e))
  refine block_env ?_
  have st4 : tn 0 (pushCells (h3.push { cls := .type "dict", data := .dict #[] }) sc.names) := T.keep 0 _ _ st2 fun b _ o e => kp4 b o e
  have stat : ∀ {H' : Hp}, (∀ b ∈ fp, H' b = none) → ∀ b ∈ fp, FpOk (cxB X N sc h3.objs.size (cellsFrom (h3.objs.size + 1) sc.names (closOf X.env sc.names [])) fp { s2 with heap := h3 } H3) [] H' b := fun hn b hb =>
    ⟨hn b hb, (I4.ok.exf b hb).1, I4.ok.exfs b hb, .inl hb, (I4.ok.exf b hb).2, fun p hp => absurd (show p ∈ ([] : List (Addr × Obj)) from hp) (by simp)⟩
  generalize hY : cxB X N sc h3.objs.size (cellsFrom (h3.objs.size + 1) sc.names (closOf X.env sc.names [])) fp { s2 with heap := h3 } H3 = Y at I4 stat
  have loop : codeAny (model X.prog X.w) X.A (.compLoop (.ListComp elt [⟨tg, iter, ifs, 0⟩] sc pos) 0 (.ref it) (.ref l) Y.env)
      (fun r s' => match r with | .ok _ => After X pins σ R (.ref l) h3.objs.size s' | .error _ => False) { s2 with heap := pushCells (h3.push { cls := .type "dict", data := .dict #[] }) sc.names } := by
    subst hY
    refine comp_loop (fun n s' => ∃ i σ' H', Inv (cxB X N sc h3.objs.size (cellsFrom (h3.objs.size + 1) sc.names (closOf X.env sc.names [])) fp { s2 with heap := h3 } H3) [] σ' H' s' ∧ tn i s'.heap ∧ (∀ b ∈ fp, H' b = none) ∧ W i n σ' H') ?_ m0
      ⟨0, blkSt k js σ, H3, I4, st4, fpn, w0⟩
    rintro n s5 ⟨i, σ5, H5, I5, st5, fr5, w5⟩
    rcases turn i n σ5 H5 w5 with ⟨stop, qn⟩ | ⟨go, step⟩
    · refine thn (T.done (cxB X N sc h3.objs.size (cellsFrom (h3.objs.size + 1) sc.names (closOf X.env sc.names [])) fp { s2 with heap := h3 } H3) rfl rfl rfl hc i [] s5 σ5 H5 (fun _ _ => False) I5 (stat fr5) st5 stop) fun r s6 ⟨hr, I6⟩ => ?_
      subst hr
      obtain ⟨m6, hn6, _⟩ := id I6.loc
      have IX : Inv X pins σ H5 s6 := I2.call' (ch := fp) I6.os (u3.trans I6.base) I6.hok I6.bare fun b hb => ⟨(f2 b hb).2.2.2.1, (f2 b hb).2.1, (f2 b hb).2.2.2.2.1, (f2 b hb).2.2.2.2.2⟩
      exact ⟨l, H5, m6, rfl, IX, hn6, I2.fpOk (by show s2.heap.objs.size ≤ h3.objs.size; rw [hz3, hl0]; exact Nat.le_succ _) I6.free, qn⟩
    · refine thn (T.item (cxB X N sc h3.objs.size (cellsFrom (h3.objs.size + 1) sc.names (closOf X.env sc.names [])) fp { s2 with heap := h3 } H3) rfl rfl rfl hc i [] s5 σ5 H5 (fun _ _ => False) I5 (stat fr5) st5 go) fun r s6 ⟨u, hr, h6⟩ => ?_
      subst hr
      refine thn h6 fun _ s7 ⟨x, H7, I7, r7, y7, st7, fr7⟩ => ?_
      have I7' := I7.pinned (stat fr7) (T.obj _ _ st7)
      refine thn (B.tgt _ _ _ _ _ _ s7 σ5 H7 x u _ I7' r7 (step x H7 y7)) fun _ s8 ⟨σ8, H8, I8, q8⟩ => ?_
      refine thn (B.tst _ _ _ _ _ _ s8 σ8 H8 _ I8 q8) fun ok s9 ⟨H9, I9, q9⟩ => ?_
      have kept : ∀ {σ' : St} {H' : Hp} {s' : Shared}, Inv (cxB X N sc h3.objs.size (cellsFrom (h3.objs.size + 1) sc.names (closOf X.env sc.names [])) fp { s2 with heap := h3 } H3) ([] ++ pinsAt fp s7.heap) σ' H' s' → tn (i + 1) s'.heap ∧ ∀ b ∈ fp, H' b = none := fun {σ' H' s'} I' =>
        ⟨T.keep _ _ _ st7 fun b hb o e => (I'.pin (b, o) (List.mem_append_right _ (List.mem_append_right _ (mem_pinsAt hb e)))).1, fun b hb => by
          obtain ⟨o, e, _⟩ := T.obj _ _ st7 b hb
          exact (I'.pin (b, o) (List.mem_append_right _ (List.mem_append_right _ (mem_pinsAt hb e)))).2.1⟩
      cases ok with
      | false =>
        rw [if_neg Bool.false_ne_true] at q9
        rw [if_neg Bool.false_ne_true]
        obtain ⟨m', hm, w9⟩ := q9
        exact ⟨m', hm, i + 1, σ8, H9, I9.unpinned, (kept I9).1, (kept I9).2, w9⟩
      | true =>
        rw [if_pos rfl] at q9
        rw [if_pos rfl]
        refine thn (B.val _ _ _ _ _ _ s9 σ8 H9 _ I9 q9) fun u10 s10 ⟨y, H10, I10, r10, ys, hys, hlen, m', hm, w10⟩ => ?_
        refine thn (mt_append _ s10 σ8 H10 (.ref l) [y] (.ref l) [u10] (fun _ H' => H' = upd H10 l (.lst (ys ++ [y]))) I10 rfl (.cons r10 .nil) ⟨l, ys, y, rfl, rfl, hys, hlen, rfl⟩) fun _ s11 ⟨_, H11, I11, _, e11⟩ => ?_
        subst e11
        exact ⟨m', hm, i + 1, σ8, _, I11.unpinned, (kept I11).1, (kept I11).2, w10⟩
  subst hY
  exact codeAny_compStart_list loop (T.self X.A 0 _ _ _ st4 loop)
theorem comp_names {X : Cx} (S : CpScope X N k js sc) : ∀ x ∈ sc.names, x.2 = .local → sc.names.lookup x.1 = some .local := fun x hx hl => lookup_of_mem S.nm (by rw [← hl]; exact hx)
theorem pe_comp (hc : X.calm = true) (S : CpScope X N k js sc) (hi : PI X tg iter wi) (B : Blk X N sc tg ifs elt g tt te) (hs : ∀ x, foldedSetIterable iter X.env x = pure x := by intro _; rfl) :
    PE X (.ListComp elt [⟨tg, iter, ifs, 0⟩] sc pos) (tComp k js wi g tt te) := by
  intro pins s σ H Q I h
  rw [eval_ListComp]
  refine wpAny_comprehension_free (use := none) rfl hs (clos_eq fun n hn => I.ok.has n (S.fr n hn)) S.kind (comp_names S) ?_
  refine thn (comp_run (pos := pos) (R := fun l H' => Q (.ref l) H') hc S hi B I h) fun x s1 h1 => thn h1 fun it s2 h2 => thn h2 fun acc s3 h3 => thn h3 fun cenv s4 h4 => codeAny_mono h4 fun r s' hr => ?_
  cases r with
  | error e => exact False.elim hr
  | ok f =>
    obtain ⟨l, H', m, rfl, I', hn, ⟨f0, f1, f2, f3, f4, f5⟩, q⟩ := hr
    exact ⟨m, hn, fun h' sb => ⟨.ref l, H', I'.turned (t' := s'.toks) (fun b o hb e => sb.extBut b o hb e) f0 f1 f3 f4 f5, rfl, q⟩⟩
theorem ps_comp {i : Nat} {x : Str} {pos' pos2 : Pos} (hc : X.calm = true) (S : CpScope X N k js sc) (hi : PI X tg iter wi) (B : Blk X N sc tg ifs elt g tt te) (hN : X.N.Nodup) (hx : X.N[i]? = some x) (hk : X.env.scope.names.lookup x = some .local)
    (hsw : swapsWith (.ListComp elt [⟨tg, iter, ifs, 0⟩] sc pos) (some (.Name x pos')) pos2.line X.env = pure true := by rfl) (hs : ∀ x, foldedSetIterable iter X.env x = pure x := by intro _; rfl) :
    PS X (.Assign [.Name x pos'] (.ListComp elt [⟨tg, iter, ifs, 0⟩] sc pos) pos2) (tAsg (tComp k js wi g tt te) (gName i)) := by
  intro pins s σ H D I h
  rw [exec_Assign_Name_used _ _ _ _ hsw]
  refine wpAny_bind (wpAny_standAt (wpAny_bind ?_))
  show wpAny _ X.A (do let _ ← comprehension (.ListComp elt [⟨tg, iter, ifs, 0⟩] sc pos) sc X.env _ (newList []) false (eval iter X.env) (some (assign (.Name x pos') X.env))) _ _ s
  refine wpAny_bind (thn (wpAny_comprehension_free (use := some (assign (.Name x pos') X.env)) (Q := fun _ s' => SP X pins D .next s') rfl hs (clos_eq fun n hn => I.ok.has n (S.fr n hn)) S.kind (comp_names S) ?_) fun _ s' hq => wpAny_pure (wpAny_pure hq))
  refine thn (comp_run (pos := pos) (R := fun l H' => D.nx (σ.set i (some (.ref l))) H') hc S hi B I h) fun y s1 h1 => thn h1 fun it s2 h2 => thn h2 fun acc s3 h3 => thn h3 fun cenv s4 h4 => codeAny_mono h4 fun r s' hr => ?_
  cases r with
  | error e => exact False.elim hr
  | ok f =>
    obtain ⟨l, H', m, rfl, I', hn, ⟨f0, f1, f2, f3, f4, f5⟩, q⟩ := hr
    refine wpAny_assign_Name (store_ok2 I' hN hx (.inl hk) (show RelV (.ref l) (.ref l) from rfl) (fun s'' I'' ⟨a, sb, ha⟩ => ?_) (.inr hk))
    have ne : cenv.locals ≠ a := by
      rcases ha with z | z
      · rw [z]; exact f1
      · exact fun w => f4 x a z w.symm
    exact ⟨m, hn.sameBut sb ne, fun h' sb' => ⟨_, H', I''.turned (t' := s''.toks) (fun b o hb e => sb'.extBut b o hb e) f0 f1 f3 f4 f5, q⟩⟩
end
end L2
set_option Elab.async false
set_option linter.all false
set_option maxRecDepth 100000
set_option maxHeartbeats 4000000
namespace JS
open PySem
theorem erase_perm {α : Type} : ∀ {l : List α} {i : Nat} (h : i < l.length), (l[i] :: l.eraseIdx i).Perm l
  | _ :: _, 0, _ => List.Perm.refl _
  | x :: r, i + 1, h => by
    have ih := erase_perm (l := r) (i := i) (by simpa using h)
    rw [List.eraseIdx_cons_succ]
    exact (List.Perm.swap x _ _).trans (ih.cons x)
section
variable {M : Model} {A : Around} {E : Value → Shared → Prop} {s : Shared}
end
theorem pick_go {α : Type} (next : Nat → Nat) : ∀ (fuel k : Nat) (left : List α) (out : Array α), left.length = fuel → (pickOrder.go next fuel k left out).toList.Perm (out.toList ++ left)
  | 0, k, left, out, h => by
    have e : left = [] := List.length_eq_zero_iff.mp h
    subst e
    simp [pickOrder.go]
  | fuel + 1, k, left, out, h => by
    unfold pickOrder.go
    have hi : next k % left.length < left.length := Nat.mod_lt _ (by omega)
    have e : left[next k % left.length]? = some left[next k % left.length] := by simp [hi]
    rw [e]
    dsimp only
    refine (pick_go next fuel (k + 1) _ _ (by rw [List.length_eraseIdx_of_lt hi]; omega)).trans ?_
    rw [Array.toList_push, List.append_assoc]
    exact List.Perm.append_left _ (erase_perm hi)
theorem pick_perm {α : Type} (next : Nat → Nat) (xs : Array α) : (pickOrder next xs).toList.Perm xs.toList := by
  unfold pickOrder
  have h := pick_go next xs.size 0 xs.toList #[] (by simp)
  simpa using h
structure Rec (w : World) (h : Heap) (a : Addr) (es : Array (Int × Value)) (ep : Nat) (t : SetTable) : Prop where
  obj : ∃ o, h.get? a = some o ∧ o.ExactSet ∧ o.data = .set es ep t
  fits : t.fits es.size = true
  led : t.led = true ∨ w.params.followText "set-order" = true
  pl : es.size = 0 ∨ t.plain = false
  sz : es.size < scanBound
theorem Rec.keep {w : World} {h h' : Heap} {a : Addr} {es : Array (Int × Value)} {ep : Nat} {t : SetTable} (r : Rec w h a es ep t) (k : ∀ o, h.get? a = some o → h'.get? a = some o) : Rec w h' a es ep t :=
  ⟨let ⟨o, e, x⟩ := r.obj; ⟨o, k o e, x⟩, r.fits, r.led, r.pl, r.sz⟩
theorem Rec.type {w : World} {s : Shared} {a : Addr} {es : Array (Int × Value)} {ep : Nat} {t : SetTable} (r : Rec w s.heap a es ep t) : s.TypeIs (.ref a) "set" :=
  let ⟨o, e, x, _⟩ := r.obj; ⟨o, e, x.1⟩
namespace F
theorem slot_next : Slot "set_iterator" "__next__" "set_iterator.__next__" := .of (owner := "set_iterator") (n := "__next__") (by rw [typeLookup_type, builtinLookup_eq_fast]; kernel_rfl) (by decide +kernel) (by decide +kernel) (by decide +kernel) (by first | exact .inl (by decide +kernel) | exact .inr (by decide +kernel)) (by rw [isSubtype_type]; kernel_rfl)
theorem entry_next : entryFor table "set_iterator.__next__" = some Builtin.«set_iterator.__next__» := entryFor_of_tree (by kernel_rfl)
theorem args_next (a : Value) : argsOk "set_iterator.__next__" ⟨[a], []⟩ := by unfold argsOk; kernel_rfl
theorem slot_iter : Slot "set_iterator" "__iter__" "set_iterator.__iter__" := .of (owner := "set_iterator") (n := "__iter__") (by rw [typeLookup_type, builtinLookup_eq_fast]; kernel_rfl) (by decide +kernel) (by decide +kernel) (by decide +kernel) (by first | exact .inl (by decide +kernel) | exact .inr (by decide +kernel)) (by rw [isSubtype_type]; kernel_rfl)
theorem entry_iter : entryFor table "set_iterator.__iter__" = some Builtin.«dict_keyiterator.__iter__» := entryFor_alias (id' := "dict_keyiterator.__iter__") (by kernel_rfl) rfl (by decide +kernel) (by kernel_rfl)
theorem args_iter (a : Value) : argsOk "set_iterator.__iter__" ⟨[a], []⟩ := by unfold argsOk; kernel_rfl
end F
abbrev byText (w : World) : Bool := w.params.followText "set-order"
abbrev itObj (first : Value) (i n ep : Nat) (a : Addr) : Obj := { cls := .type "set_iterator", data := .fields #[first, .int i 0, .ref a, .int n 0, .int ep 0] }
inductive At (w : World) (h : Heap) (it a : Addr) (es : Array (Int × Value)) (ep : Nat) (t : SetTable) : List Addr → List Value → Nat → Prop where
  | drawn (tp : Addr) (ps : List Nat) (i : Nat) : (tp ≠ it) → h.get? it = some (itObj (.ref tp) i es.size ep a) → h.IsTuple tp (ps.map fun (p : Nat) => Value.int (p : Int) 0).toArray → ps.Perm (List.range es.size) → At w h it a es ep t [tp] (ps.map fun p => (es.getD p (0, .none)).2) i
  | text (slot i : Nat) : byText w = true → h.get? it = some (itObj (.int slot 0) i es.size ep a) → At w h it a es ep t [] ((pickOrder (w.params.setOrder a ep) es).toList.map (·.2)) i
  | one (slot i : Nat) : byText w = false → t.led = true → es.size ≤ 1 → h.get? it = some (itObj (.int slot 0) i es.size ep a) → (i = 0 → slot = 0) → (i = 1 → slot = t.place.getD 0 0 + 1) → At w h it a es ep t [] (es.toList.map (·.2)) i
section
variable {prog : Program} {w : World} {A : Around} {E : Value → Shared → Prop} {s : Shared} {a it : Addr} {es : Array (Int × Value)} {ep : Nat} {t : SetTable}
theorem state_of {Q : (Array (Int × Value) × Nat × SetTable) → Shared → Prop} (r : Rec w s.heap a es ep t) (h : Q (es, ep, t) s) : wpAny (model prog w) A (setState a) Q E s := by
  obtain ⟨o, e, _, d⟩ := r.obj
  exact wpAny_setState_of e d r.fits h
theorem below_one (j p : Nat) : SetTable.below #[p] j = if p < j then 1 else 0 := by
  unfold SetTable.below
  show SetTable.below.go #[p] j 1 0 1 = _
  unfold SetTable.below.go
  rw [if_pos (by decide)]
  show (if (#[p] : Array Nat).getD 0 j < j then SetTable.below.go #[p] j 0 1 1 else SetTable.below.go #[p] j 0 0 0) = _
  by_cases h : p < j
  · rw [if_pos h, if_pos (by simpa using h)]; rfl
  · rw [if_neg h, if_neg (by simpa using h)]; rfl
theorem next_int {slot i n : Nat} {P : PySem.Fin → Shared → Prop} {F : Value → Shared → Prop} (r : Rec w s.heap a es ep t) (ho : s.heap.get? it = some (itObj (.int slot 0) i es.size ep a))
    (h : wpAny (model prog w) A (setNext a slot i ep >>= fun m => match m with
          | some (x, next) => setField (.ref it) 0 (rawInt next) >>= fun _ => setField (.ref it) 1 (rawInt ((i : Int) + 1)) >>= fun _ => ret x
          | none => setField (.ref it) 2 .none >>= fun _ => newExc (.type "StopIteration") [] >>= fun e => raiseNew e) P F s) :
    wpAny (model prog w) A (Builtin.«set_iterator.__next__» ⟨[.ref it], []⟩) P F s := by
  unfold Builtin.«set_iterator.__next__» slotArgs
  simp only [List.isEmpty_nil, Bool.not_true, Bool.false_eq_true, if_false, List.length_nil, bne_self_eq_false]
  refine wpAny_bind (wpAny_pure (wpAny_bind (wpAny_fieldsOf ho rfl ?_)))
  dsimp only
  unfold setEntries
  refine wpAny_bind (wpAny_bind (state_of r (wpAny_pure ?_)))
  simp only [bne_self_eq_false, Bool.false_eq_true, if_false, Int.toNat_natCast]
  exact h
theorem next_ref {tp i n : Nat} {items : Array Value} {P : PySem.Fin → Shared → Prop} {F : Value → Shared → Prop} (r : Rec w s.heap a es ep t) (ho : s.heap.get? it = some (itObj (.ref tp) i es.size ep a)) (ht : s.heap.IsTuple tp items)
    (h : wpAny (model prog w) A (match items[i]? with
            | some (.int place _) => setNextDrawn a place.toNat ep >>= fun x => setField (.ref it) 1 (rawInt ((i : Int) + 1)) >>= fun _ => ret x
            | some _ => unsupported "internal:set_iterator"
            | none => setField (.ref it) 0 (rawInt 0) >>= fun _ => setField (.ref it) 2 .none >>= fun _ => newExc (.type "StopIteration") [] >>= fun e => raiseNew e) P F s) :
    wpAny (model prog w) A (Builtin.«set_iterator.__next__» ⟨[.ref it], []⟩) P F s := by
  unfold Builtin.«set_iterator.__next__» slotArgs
  simp only [List.isEmpty_nil, Bool.not_true, Bool.false_eq_true, if_false, List.length_nil, bne_self_eq_false]
  refine wpAny_bind (wpAny_pure (wpAny_bind (wpAny_fieldsOf ho rfl ?_)))
  dsimp only
  unfold setEntries
  refine wpAny_bind (wpAny_bind (state_of r (wpAny_pure ?_)))
  simp only [bne_self_eq_false, Bool.false_eq_true, if_false, Int.toNat_natCast]
  obtain ⟨o, ho', _, n', hd⟩ := ht
  exact wpAny_bind (wpAny_seqItems ho' hd h)
theorem setNext_text {i : Nat} {slot : Nat} {Q : Option (Value × Nat) → Shared → Prop} (r : Rec w s.heap a es ep t) (hb : byText w = true)
    (h : Q (((pickOrder (w.params.setOrder a ep) es)[i]?).map fun e => (e.2, slot)) s) : wpAny (model prog w) A (setNext a slot i ep) Q E s := by
  have hb' : w.params.followText "set-order" = true := hb
  unfold setNext setsByText
  refine wpAny_bind (state_of r ?_)
  refine wpAny_bind (wpAny_bind (wpAny_askSetting (wpAny_pure ?_)))
  simp only [model, hb', if_true, bne_self_eq_false, Bool.false_eq_true, if_false]
  unfold setWalk setsByText
  refine wpAny_bind (wpAny_bind (state_of r ?_))
  refine wpAny_bind (wpAny_bind (wpAny_askSetting (wpAny_pure ?_)))
  simp only [model, hb', if_true]
  exact wpAny_bind (wpAny_askSetting (wpAny_pure (wpAny_pure h)))
theorem setNext_one {i : Nat} {slot : Nat} {Q : Option (Value × Nat) → Shared → Prop} (r : Rec w s.heap a es ep t) (hb : byText w = false) (hl : t.led = true) (h1 : es.size ≤ 1)
    (h : Q (match es[SetTable.below t.place slot]?, t.place[SetTable.below t.place slot]? with | some (_, x), some j => some (x, j + 1) | _, _ => none) s) : wpAny (model prog w) A (setNext a slot i ep) Q E s := by
  have hb' : w.params.followText "set-order" = false := hb
  unfold setNext setsByText
  refine wpAny_bind (state_of r ?_)
  refine wpAny_bind (wpAny_bind (wpAny_askSetting (wpAny_pure ?_)))
  simp only [model, hb', Bool.false_eq_true, if_false]
  have hd : (!t.plain && decide (es.size > 1)) = false := by rw [decide_eq_false (by omega), Bool.and_false]
  have hm : (!t.led && !es.isEmpty) = false := by rw [hl]; rfl
  show wpAny (model prog w) A (if (!t.plain && decide (es.size > 1)) = true then _ else ((if (!t.led && !es.isEmpty) = true then unsupported "set:maker-not-led" else pure ()) >>= fun _ => pure _)) Q E s
  rw [hd, hm]
  exact wpAny_bind (wpAny_pure (wpAny_pure h))
theorem drawn_next {p : Nat} {x : Value} {hx : Int} {Q : Value → Shared → Prop} (r : Rec w s.heap a es ep t) (hp : es[p]? = some (hx, x)) (h : Q x s) : wpAny (model prog w) A (setNextDrawn a p ep) Q E s := by
  unfold setNextDrawn
  refine wpAny_bind (state_of r ?_)
  simp only [bne_self_eq_false, Bool.false_eq_true, if_false, hp]
  exact wpAny_pure h
theorem stop_it (hh : A.handled = none) {R : Option Value → Shared → Prop} (hR : ∀ h', (∀ b o, s.heap.get? b = some o → h'.get? b = some o) → R none { s with heap := h' }) :
    wpAny (model prog w) A.in1 (newExc (.type "StopIteration") [] >>= fun e => (raiseNew e : Sem PySem.Fin)) (fun _ _ => False)
      (fun e s' => wpAny (model prog w) A (isInstance e (.type "StopIteration") >>= fun b => if b = true then pure none else throw e) R E s') s := by
  refine wpAny_bind ?_
  simp only [newExc, newTuple]
  refine wpAny_bind (wpAny_newObj_type (wpAny_bind (m := firstArgMember _ _) (wpAny_of_eq (a := Value.none) (by first | rfl | (simp only [firstArgMember]; rfl)) (wpAny_newObj_type ?_ (by size_fits)))) (by size_fits))
  simp only [raiseNew]; refine wpAny_bind (wpAny_handled ?_); rw [show A.in1.handled = none from hh]
  refine wpAny_bind (wpAny_pure (wpAny_throw ?_)); refine wpAny_bind (wpAny_isInstance (T := "StopIteration") (b := true) ⟨_, Heap.get?_push_size _ rfl, rfl⟩ isSubtype_stop ?_)
  exact wpAny_pure (hR _ fun b o e => Heap.get?_push_of_some _ (Heap.get?_push_of_some _ e))
theorem call_next {first : Value} {i n : Nat} {Q : Option Value → Shared → Prop} (ho : s.heap.get? it = some (itObj first i n ep a))
    (h : wpAny (model prog w) A.in1 (Builtin.«set_iterator.__next__» ⟨[.ref it], []⟩) (fun fin s' => ∃ u, fin = .done (.ret u) ∧ Q (some u) s')
      (fun e s' => wpAny (model prog w) A (isInstance e (.type "StopIteration") >>= fun b => if b = true then pure none else throw e) Q E s') s) : wpAny (model prog w) A (pyNext (.ref it)) Q E s := by
  have hT : s.TypeIs (.ref it) "set_iterator" := ⟨_, ho, rfl⟩
  unfold pyNext
  refine wpAny_bind (wpAny_attempt (wpAny_callSpecial?_slot (name := Str.ofString "__next__") hT F.slot_next (wpAny_call_entry F.slot_next hT F.entry_next ?_ (F.args_next _))))
  exact wpAny_mono h (fun fin s' ⟨u, e, q⟩ => ⟨u, e, wpAny_pure q⟩) fun _ _ z => z
theorem next_item {tq : List Addr} {order : List Value} {i : Nat} {v : Value} {Q : Option Value → Shared → Prop} (r : Rec w s.heap a es ep t) (x : At w s.heap it a es ep t tq order i) (hv : order[i]? = some v)
    (hQ : ∀ h', At w h' it a es ep t tq order (i + 1) → Heap.SameBut it s.heap h' → Q (some v) { s with heap := h' }) : wpAny (model prog w) A (pyNext (.ref it)) Q E s := by
  have hc : ((i : Int) + 1) = ((i + 1 : Nat) : Int) := by omega
  cases x with
  | drawn tp ps _ hne ho ht hp =>
    refine call_next ho (next_ref (n := 0) r ho ht ?_)
    rw [List.getElem?_map] at hv
    cases hpi : ps[i]? with
    | none => rw [hpi] at hv; cases hv
    | some p =>
      rw [hpi] at hv
      have hlt : p < es.size := List.mem_range.mp (hp.mem_iff.mp (List.mem_of_getElem? hpi))
      have e1 : (ps.map fun (p : Nat) => Value.int (p : Int) 0).toArray[i]? = some (Value.int (p : Int) 0) := by simp [hpi]
      rw [e1]
      dsimp only
      have e2 : es[p]? = some (es[p].1, es[p].2) := by simp [hlt]
      have e3 : v = es[p].2 := by
        have q := Option.some.inj hv
        rw [← q]; simp [Array.getD, hlt]
      rw [Int.toNat_natCast]
      refine wpAny_bind (drawn_next r e2 (wpAny_bind (wpAny_setField ho rfl (by show 1 < 5; decide) (wpAny_pure ⟨_, rfl, ?_⟩))))
      rw [← e3]
      refine hQ _ (.drawn tp ps (i + 1) hne ?_ ?_ hp) (Heap.SameBut.update ..)
      · rw [hc]
        exact Heap.get?_update_self _ ho rfl
      · obtain ⟨o, q, c⟩ := ht
        exact ⟨o, (Heap.get?_update_other _ _ (Ne.symm hne)).trans q, c⟩
  | text slot _ hb ho =>
    refine call_next ho (next_int (n := 0) r ho (wpAny_bind (setNext_text r hb ?_)))
    rw [List.getElem?_map] at hv
    cases hpi : (pickOrder (w.params.setOrder a ep) es).toList[i]? with
    | none => rw [hpi] at hv; cases hv
    | some p =>
      rw [hpi] at hv
      have e1 : (pickOrder (w.params.setOrder a ep) es)[i]? = some p := by rw [← Array.getElem?_toList]; exact hpi
      have e3 : p.2 = v := Option.some.inj hv
      rw [e1]
      dsimp only [Option.map]
      rw [e3]
      have ho1 : (s.heap.update it (Obj.mapFields (·.setIfInBounds 0 (rawInt slot)))).get? it = some (itObj (.int slot 0) i es.size ep a) := Heap.get?_update_self _ ho rfl
      refine wpAny_bind (wpAny_setField ho rfl (by show 0 < 5; decide) (wpAny_bind (wpAny_setField ho1 rfl (by show 1 < 5; decide) (wpAny_pure ⟨_, rfl, ?_⟩))))
      refine hQ _ (.text slot (i + 1) hb ?_) ((Heap.SameBut.update ..).trans (Heap.SameBut.update ..))
      rw [hc]
      exact Heap.get?_update_self _ ho1 rfl
  | one slot _ hb hl h1 ho h0 h1' =>
    refine call_next ho (next_int (n := 0) r ho (wpAny_bind (setNext_one r hb hl h1 ?_)))
    have hi : i < es.size := by
      have q := (List.getElem?_eq_some_iff.mp hv).1
      simpa using q
    have hi0 : i = 0 := by omega
    subst hi0
    have hs0 := h0 rfl
    subst hs0
    have hsz : es.size = 1 := by omega
    have hps : t.place.size = 1 := by
      have q := r.fits
      simp only [SetTable.fits, Bool.and_eq_true, beq_iff_eq] at q
      omega
    obtain ⟨pl, hpl⟩ : ∃ pl, t.place = #[pl] := by
      rcases hq : t.place with ⟨l⟩
      rw [hq] at hps
      match l, hps with
      | [y], _ => exact ⟨y, rfl⟩
    have e0 : SetTable.below t.place 0 = 0 := by rw [hpl, below_one]; simp
    have e1 : es[0]? = some (es[0].1, es[0].2) := by simp [hi]
    have e3 : es[0].2 = v := by
      rw [List.getElem?_map] at hv
      have q : es.toList[0]? = some es[0] := by simp [hi]
      rw [q] at hv
      exact Option.some.inj hv
    have e2 : t.place[0]? = some pl := by rw [hpl]; rfl
    rw [e0, e1, e2]
    dsimp only
    rw [e3]
    have ho1 : (s.heap.update it (Obj.mapFields (·.setIfInBounds 0 (rawInt ((pl + 1 : Nat) : Int))))).get? it = some (itObj (.int ((pl + 1 : Nat) : Int) 0) 0 es.size ep a) := Heap.get?_update_self _ ho rfl
    refine wpAny_bind (wpAny_setField ho rfl (by show 0 < 5; decide) (wpAny_bind (wpAny_setField ho1 rfl (by show 1 < 5; decide) (wpAny_pure ⟨_, rfl, ?_⟩))))
    refine hQ _ (.one (pl + 1) 1 hb hl h1 ?_ (fun z => by cases z) fun _ => by rw [hpl]; rfl) ((Heap.SameBut.update ..).trans (Heap.SameBut.update ..))
    exact Heap.get?_update_self _ ho1 rfl
theorem next_done {tq : List Addr} {order : List Value} {Q : Option Value → Shared → Prop} (hh : A.handled = none) (r : Rec w s.heap a es ep t) (x : At w s.heap it a es ep t tq order es.size)
    (hQ : ∀ h', (∀ b o, b ≠ it → s.heap.get? b = some o → h'.get? b = some o) → Q none { s with heap := h' }) : wpAny (model prog w) A (pyNext (.ref it)) Q E s := by
  have up : ∀ (k : Nat) (y : Value) (h : Heap) (b : Addr) (o : Obj), b ≠ it → h.get? b = some o → (h.update it (Obj.mapFields (·.setIfInBounds k y))).get? b = some o := fun k y h b o hb e => (Heap.get?_update_other _ _ (Ne.symm hb)).trans e
  have two : ∀ (slot i : Nat), s.heap.get? it = some (itObj (.int slot 0) i es.size ep a) → wpAny (model prog w) A.in1 (setField (.ref it) 2 .none >>= fun _ => newExc (.type "StopIteration") [] >>= fun e => (raiseNew e : Sem PySem.Fin))
      (fun fin s' => ∃ u, fin = .done (.ret u) ∧ Q (some u) s') (fun e s' => wpAny (model prog w) A (isInstance e (.type "StopIteration") >>= fun b => if b = true then pure none else throw e) Q E s') s := fun slot i ho => by
    refine wpAny_bind (wpAny_setField ho rfl (by show 2 < 5; decide) ?_)
    exact wpAny_mono (stop_it (E := E) (R := Q) hh fun h' k => hQ h' fun b o hb e => k b o (up _ _ _ b o hb e)) (fun _ _ z => z.elim) fun _ _ z => z
  cases x with
  | drawn tp ps _ hne ho ht hp =>
    refine call_next ho (next_ref (n := 0) r ho ht ?_)
    have e1 : (ps.map fun (p : Nat) => Value.int (p : Int) 0).toArray[es.size]? = none := by
      have q := hp.length_eq
      rw [List.length_range] at q
      simp [q]
    rw [e1]
    dsimp only
    have ho1 : (s.heap.update it (Obj.mapFields (·.setIfInBounds 0 (rawInt 0)))).get? it = some (itObj (.int ((0 : Nat) : Int) 0) es.size es.size ep a) := Heap.get?_update_self _ ho rfl
    refine wpAny_bind (wpAny_setField ho rfl (by show 0 < 5; decide) (wpAny_bind (wpAny_setField ho1 rfl (by show 2 < 5; decide) ?_)))
    exact wpAny_mono (stop_it (E := E) (R := Q) hh fun h' k => hQ h' fun b o hb e => k b o (up _ _ _ b o hb (up _ _ _ b o hb e))) (fun _ _ z => z.elim) fun _ _ z => z
  | text slot _ hb ho =>
    refine call_next ho (next_int (n := 0) r ho (wpAny_bind (setNext_text r hb ?_)))
    have q := (pick_perm (w.params.setOrder a ep) es).length_eq
    have e1 : (pickOrder (w.params.setOrder a ep) es)[es.size]? = none := by
      simp only [Array.length_toList] at q
      simp [q]
    rw [e1]
    dsimp only [Option.map]
    exact two slot _ ho
  | one slot _ hb hl h1 ho h0 h1' =>
    refine call_next ho (next_int (n := 0) r ho (wpAny_bind (setNext_one r hb hl h1 ?_)))
    have hps : t.place.size = es.size := by
      have q := r.fits
      simp only [SetTable.fits, Bool.and_eq_true, beq_iff_eq] at q
      exact q.1
    have e0 : es[SetTable.below t.place slot]? = none := by
      by_cases hz : es.size = 0
      · simp [hz]
      · have hsz : es.size = 1 := by omega
        obtain ⟨pl, hpl⟩ : ∃ pl, t.place = #[pl] := by
          rcases hq : t.place with ⟨l⟩
          rw [hq] at hps
          match l, (by simpa [hsz] using hps : l.length = 1) with
          | [y], _ => exact ⟨y, rfl⟩
        have hs1 := h1' hsz
        rw [hpl] at hs1
        have hs2 : slot = pl + 1 := hs1
        rw [hpl, below_one, hs2, if_pos (by omega)]
        simp [hsz]
    rw [e0]
    dsimp only
    exact two slot _ ho
theorem At.keep {h h' : Heap} {tq : List Addr} {order : List Value} {i : Nat} (x : At w h it a es ep t tq order i) (k : ∀ b ∈ it :: tq, ∀ o, h.get? b = some o → h'.get? b = some o) : At w h' it a es ep t tq order i := by
  cases x with
  | drawn tp ps _ hne ho ht hp =>
    obtain ⟨o, q, c⟩ := ht
    exact .drawn tp ps i hne (k it (by simp) _ ho) ⟨o, k tp (by simp) o q, c⟩ hp
  | text slot _ hb ho => exact .text slot i hb (k it (by simp) _ ho)
  | one slot _ hb hl h1 ho h0 h1' => exact .one slot i hb hl h1 (k it (by simp) _ ho) h0 h1'
theorem At.len {h : Heap} {tq : List Addr} {order : List Value} {i : Nat} (x : At w h it a es ep t tq order i) : order.Perm (es.toList.map (·.2)) := by
  cases x with
  | drawn tp ps _ hne ho ht hp =>
    have e : (List.range es.size).map (fun p => (es.getD p (0, Value.none)).2) = es.toList.map (·.2) := by
      apply List.ext_getElem
      · simp
      · intro j h1 h2
        simp at h1
        simp [Array.getD, h1]
    rw [← e]
    exact hp.map _
  | text slot _ hb ho => exact (pick_perm _ _).map _
  | one slot _ hb hl h1 ho h0 h1' => exact List.Perm.refl _
theorem walks {tq : List Addr} {order : List Value} (hh : A.handled = none) (hta : a ∉ it :: tq) (h0 : order.length = es.size) :
    WalksS prog w A it (it :: a :: tq) [it] (fun x y => y = x) es.size (fun i v => order[i]? = some v) (fun i s => Rec w s.heap a es ep t ∧ At w s.heap it a es ep t tq order i) where
  sub := fun b hb => by
    have e : b = it := by simpa using hb
    subst e
    exact List.mem_cons_self
  grefl := fun _ => rfl
  gtrans := fun _ _ _ h1 h2 => h2.trans h1
  frame := fun i s h' tk st _ k => ⟨st.1.keep fun o e => k a (by simp) o e, st.2.keep fun b hb o e => k b (by
    rcases List.mem_cons.mp hb with z | z
    · subst z; exact List.mem_cons_self
    · exact List.mem_cons_of_mem _ (List.mem_cons_of_mem _ z)) o e⟩
  item := fun i s Q E hi st hQ => by
    have hv : order[i]? = some (order[i]'(by omega)) := by simp
    refine next_item st.1 st.2 hv fun h' x sb => ?_
    have ne : a ≠ it := fun z => hta (by rw [z]; exact List.mem_cons_self)
    exact hQ _ _ hv ⟨st.1.keep fun o e => (sb.2 a ne).trans e, x⟩ ⟨fun b o hb e => (sb.2 b (fun z => hb (by simp [z]))).trans e, rfl, rfl, rfl, Nat.le_refl _⟩
  done := fun s Q E st hQ => next_done hh st.1 st.2 fun h' k => hQ _ ⟨fun b o hb e => k b o (fun z => hb (by simp [z])) e, rfl, rfl, rfl, Nat.le_refl _⟩
  self := fun i s Q E st hQ => by
    have hT : s.TypeIs (.ref it) "set_iterator" := by
      rcases st.2 with ⟨tp, ps, _, _, ho, _⟩ | ⟨slot, _, _, ho⟩ | ⟨slot, _, _, _, _, ho, _⟩
      · exact ⟨_, ho, rfl⟩
      · exact ⟨_, ho, rfl⟩
      · exact ⟨_, ho, rfl⟩
    refine wpAny_pyIter_slot hT F.slot_iter (wpAny_call_entry F.slot_iter hT F.entry_iter ?_ (F.args_iter _))
    show wpAny _ _ (ret (.ref it)) _ _ s
    exact wpAny_pure ⟨_, rfl, "set_iterator", _, hT, F.slot_next.lookup, hQ⟩
end
end JS
set_option Elab.async false
set_option linter.all false
set_option maxRecDepth 100000
set_option maxHeartbeats 4000000
namespace JS
open PySem PySem.Spec PyProof.Rows
def sOf : Value → Str
  | .str x _ => x
  | _ => Str.empty
def StrSet (prog : Program) (w : World) (h : Heap) (a : Addr) (xs : List Str) : Prop :=
  ∃ es ep t, Rec w h a es ep t ∧ ElemsOf (PySem.strKind prog w) es.toList ∧ (es.toList.map fun e => sOf e.2).Perm xs ∧ xs.Nodup
section
variable {prog : Program} {w : World} {A : Around} {E : Value → Shared → Prop} {s : Shared} {a : Addr}
theorem StrSet.keep {h h' : Heap} {xs : List Str} (S : StrSet prog w h a xs) (k : ∀ o, h.get? a = some o → h'.get? a = some o) : StrSet prog w h' a xs :=
  let ⟨es, ep, t, r, q⟩ := S; ⟨es, ep, t, r.keep k, q⟩
end
end JS
set_option Elab.async false
set_option linter.all false
set_option maxRecDepth 100000
set_option maxHeartbeats 4000000
namespace JS
open PySem PySem.Spec PyProof.Rows
section
variable {prog : Program} {w : World} {A : Around} {R : Result → Shared → Prop} {I : Addr} {fp wr : List Addr} {G : Array GenState → Array GenState → Prop} {n : Nat} {P : Nat → Value → Prop} {St : Nat → Shared → Prop}
end
end JS
set_option Elab.async false
set_option linter.all false
set_option maxRecDepth 100000
set_option maxHeartbeats 4000000
namespace JS
open PySem PySem.Spec PyProof.Rows
section
variable {prog : Program} {w : World} {A : Around} {E : Value → Shared → Prop} {s : Shared}
end
end JS
set_option Elab.async false
set_option linter.all false
set_option maxRecDepth 100000
set_option maxHeartbeats 4000000
namespace JS
open PySem PySem.Spec PyProof.Rows
section
variable {prog : Program} {w : World} {A : Around} {E : Value → Shared → Prop} {s : Shared} {a : Addr}
end
end JS
set_option Elab.async false
set_option linter.all false
set_option maxRecDepth 100000
set_option maxHeartbeats 4000000
namespace L2
open PySem PySem.Spec PyProof.Rows
inductive D where
  | non | int (i : Int) | str (x : Str) | tup (ds : List D)
noncomputable instance : DecidableEq D := fun _ _ => Classical.propDecidable _
mutual
def Den (H : Hp) : D → V → Prop
  | .non, v => v = .non
  | .int i, v => v = .int i
  | .str x, v => v = .str x
  | .tup ds, v => ∃ a xs, v = .ref a ∧ H a = some (.tup xs) ∧ DenL H ds xs
def DenL (H : Hp) : List D → List V → Prop
  | [], xs => xs = []
  | d :: ds, xs => ∃ v r, xs = v :: r ∧ Den H d v ∧ DenL H ds r
end
def SameT (H H' : Hp) : Prop := ∀ b xs, H b = some (.tup xs) → H' b = some (.tup xs)
theorem SameT.refl (H : Hp) : SameT H H := fun _ _ h => h
theorem SameT.trans {H H1 H2 : Hp} (a : SameT H H1) (b : SameT H1 H2) : SameT H H2 := fun c xs h => b c xs (a c xs h)
theorem Same.t {H H' : Hp} (h : Same H H') : SameT H H' := fun b xs e => h b _ e
theorem SameT.updL {H : Hp} {l : Addr} {o : HO} (h : ∀ xs, H l ≠ some (.tup xs)) : SameT H (upd H l o) := fun b xs e => by
  rw [upd_ne (fun z => h xs (by rw [← z]; exact e))]; exact e
theorem SameT.new {H : Hp} {l : Addr} {o : HO} (h : H l = none) : SameT H (upd H l o) := SameT.updL fun xs z => by rw [h] at z; cases z
theorem SameT.lst {H : Hp} {l : Addr} {xs : List V} {o : HO} (h : H l = some (.lst xs)) : SameT H (upd H l o) := SameT.updL fun ys z => by rw [h] at z; cases z
mutual
theorem Den.mono {H H' : Hp} (s : SameT H H') : ∀ (d : D) (v : V), Den H d v → Den H' d v
  | .non, v, h => by unfold Den at h ⊢; exact h
  | .int i, v, h => by unfold Den at h ⊢; exact h
  | .str x, v, h => by unfold Den at h ⊢; exact h
  | .tup ds, v, h => by
    unfold Den at h ⊢
    obtain ⟨a, xs, e, h1, h2⟩ := h
    exact ⟨a, xs, e, s a xs h1, DenL.mono s ds xs h2⟩
theorem DenL.mono {H H' : Hp} (s : SameT H H') : ∀ (ds : List D) (xs : List V), DenL H ds xs → DenL H' ds xs
  | [], xs, h => by unfold DenL at h ⊢; exact h
  | d :: ds, xs, h => by
    unfold DenL at h ⊢
    obtain ⟨v, r, e, h1, h2⟩ := h
    exact ⟨v, r, e, Den.mono s d v h1, DenL.mono s ds r h2⟩
end
mutual
theorem Den.inj {H : Hp} : ∀ (d e : D) (v : V), Den H d v → Den H e v → d = e
  | .non, e, v, h, g => by
    unfold Den at h; subst h
    cases e <;> unfold Den at g
    · rfl
    · cases g
    · cases g
    · obtain ⟨a, xs, z, _⟩ := g; cases z
  | .int i, e, v, h, g => by
    unfold Den at h; subst h
    cases e <;> unfold Den at g
    · cases g
    · injection g with g; rw [g]
    · cases g
    · obtain ⟨a, xs, z, _⟩ := g; cases z
  | .str x, e, v, h, g => by
    unfold Den at h; subst h
    cases e <;> unfold Den at g
    · cases g
    · cases g
    · injection g with g; rw [g]
    · obtain ⟨a, xs, z, _⟩ := g; cases z
  | .tup ds, e, v, h, g => by
    unfold Den at h
    obtain ⟨a, xs, z, h1, h2⟩ := h
    subst z
    cases e <;> unfold Den at g
    · cases g
    · cases g
    · cases g
    · obtain ⟨b, ys, z, g1, g2⟩ := g
      cases z
      rw [h1] at g1
      cases g1
      rw [DenL.inj ds _ xs h2 g2]
theorem DenL.inj {H : Hp} : ∀ (ds es : List D) (xs : List V), DenL H ds xs → DenL H es xs → ds = es
  | [], es, xs, h, g => by
    unfold DenL at h; subst h
    cases es with
    | nil => rfl
    | cons e es => unfold DenL at g; obtain ⟨v, r, z, _⟩ := g; cases z
  | d :: ds, es, xs, h, g => by
    unfold DenL at h
    obtain ⟨v, r, z, h1, h2⟩ := h
    subst z
    cases es with
    | nil => unfold DenL at g; cases g
    | cons e es =>
      unfold DenL at g
      obtain ⟨v', r', z, g1, g2⟩ := g
      cases z
      rw [Den.inj d e v h1 g1, DenL.inj ds es r h2 g2]
end
theorem DenL.length {H : Hp} : ∀ (ds : List D) (xs : List V), DenL H ds xs → ds.length = xs.length
  | [], xs, h => by unfold DenL at h; subst h; rfl
  | d :: ds, xs, h => by
    unfold DenL at h
    obtain ⟨v, r, z, _, h2⟩ := h
    subst z
    rw [List.length_cons, List.length_cons, DenL.length ds r h2]
theorem DenL.get {H : Hp} : ∀ {ds : List D} {xs : List V} {i : Nat} {d : D} {v : V}, DenL H ds xs → ds[i]? = some d → xs[i]? = some v → Den H d v
  | [], xs, i, d, v, h, e, _ => by simp at e
  | d0 :: ds, xs, i, d, v, h, e, e' => by
    unfold DenL at h
    obtain ⟨v0, r, z, h1, h2⟩ := h
    subst z
    cases i with
    | zero => simp at e e'; subst e e'; exact h1
    | succ i => exact DenL.get h2 (by simpa using e) (by simpa using e')
theorem DenL.snoc {H : Hp} : ∀ {ds : List D} {xs : List V} {d : D} {v : V}, DenL H ds xs → Den H d v → DenL H (ds ++ [d]) (xs ++ [v])
  | [], xs, d, v, h, g => by
    unfold DenL at h; subst h
    unfold DenL
    exact ⟨v, [], rfl, g, by unfold DenL; rfl⟩
  | d0 :: ds, xs, d, v, h, g => by
    unfold DenL at h
    obtain ⟨v0, r, z, h1, h2⟩ := h
    subst z
    rw [List.cons_append, List.cons_append]
    unfold DenL
    exact ⟨v0, _, rfl, h1, DenL.snoc h2 g⟩
theorem DenL.nil {H : Hp} : DenL H [] [] := by unfold DenL; rfl
theorem DenL.append {H : Hp} : ∀ {ds es : List D} {xs ys : List V}, DenL H ds xs → DenL H es ys → DenL H (ds ++ es) (xs ++ ys)
  | [], es, xs, ys, h, g => by unfold DenL at h; subst h; exact g
  | d :: ds, es, xs, ys, h, g => by
    unfold DenL at h
    obtain ⟨v, r, z, h1, h2⟩ := h
    subst z
    rw [List.cons_append, List.cons_append]
    unfold DenL
    exact ⟨v, _, rfl, h1, DenL.append h2 g⟩
theorem DenL.reverse {H : Hp} : ∀ {ds : List D} {xs : List V}, DenL H ds xs → DenL H ds.reverse xs.reverse
  | [], xs, h => by unfold DenL at h; subst h; exact DenL.nil
  | d :: ds, xs, h => by
    unfold DenL at h
    obtain ⟨v, r, z, h1, h2⟩ := h
    subst z
    rw [List.reverse_cons, List.reverse_cons]
    exact DenL.snoc (DenL.reverse h2) h1
theorem DenL.strs {H : Hp} : ∀ (ss : List Str), DenL H (ss.map D.str) (ss.map V.str)
  | [] => DenL.nil
  | s :: r => by
    rw [List.map_cons, List.map_cons]
    unfold DenL
    exact ⟨_, _, rfl, by unfold Den; rfl, DenL.strs r⟩
mutual
def Cmp : D → D → Prop
  | .non, e => e = .non
  | .int _, e => ∃ j, e = .int j
  | .str _, e => ∃ y, e = .str y
  | .tup ds, e => ∃ es, e = .tup es ∧ CmpL ds es
def CmpL : List D → List D → Prop
  | [], _ => True
  | d :: ds, es => ∀ e r, es = e :: r → Cmp d e ∧ CmpL ds r
end
mutual
def dep : D → Nat
  | .tup ds => depL ds + 1
  | _ => 0
def depL : List D → Nat
  | [] => 0
  | d :: ds => max (dep d) (depL ds)
end
theorem CmpL.get : ∀ {ds es : List D} {i : Nat} {d e : D}, CmpL ds es → ds[i]? = some d → es[i]? = some e → Cmp d e
  | [], _, _, _, _, _, h, _ => by simp at h
  | _ :: _, [], _, _, _, _, _, h => by simp at h
  | d0 :: ds, e0 :: es, 0, d, e, h, h1, h2 => by
    unfold CmpL at h
    simp at h1 h2
    subst h1 h2
    exact (h _ _ rfl).1
  | d0 :: ds, e0 :: es, i + 1, d, e, h, h1, h2 => by
    unfold CmpL at h
    exact CmpL.get (h _ _ rfl).2 (by simpa using h1) (by simpa using h2)
end L2
set_option Elab.async false
set_option linter.all false
set_option maxRecDepth 100000
set_option maxHeartbeats 4000000
namespace L2
open PySem PySem.Spec PyProof.Rows
section
variable {X : Cx}
end
def rTupOf (K : PySem.W.Frag) : List V → Hp → VK → Prop := fun xs H Q => ∃ p ys, xs = [.ref p] ∧ ((SqL K H p ys ∧ ∀ l, H l = none → Q (.ref l) (upd H l (.tup ys))) ∨ (SqT K H p ys ∧ Q (.ref p) H))
def rListOf (K : PySem.W.Frag) : List V → Hp → VK → Prop := fun xs H Q => ∃ p ys, xs = [.ref p] ∧ (SqL K H p ys ∨ SqT K H p ys) ∧ ∀ l, H l = none → Q (.ref l) (upd H l (.lst ys))
section
variable {X : Cx} {K : PySem.W.Frag}
end
end L2
set_option Elab.async false
set_option linter.all false
set_option maxRecDepth 100000
set_option maxHeartbeats 4000000
namespace PL
open PySem PySem.Spec L2
open PyProof.Rows hiding St
inductive PV where
  | non | bl (b : Bool) | int (i : Int) | str (x : Str) | ty (n : String)
  | tup (ds : List PV) | lst (ds : List PV) | dK (ks : List Key) (ds : List PV) | dT (ks : List (List Key)) (ds : List PV)
noncomputable instance : DecidableEq PV := fun _ _ => Classical.propDecidable _
abbrev FZ := Addr → Prop
def KX (K : PySem.W.Frag) (a : Addr) (xs : List V) : Prop := ∃ (its : Array Value) (n : Nat), K.lookup a = some { cls := .type "list", data := .seq its n } ∧ its.size ≤ sizeLine ∧ Vals xs its.toList
theorem KX.sq {K : PySem.W.Frag} {H : Hp} {a : Addr} {xs : List V} (h : KX K a xs) : SqL K H a xs := let ⟨its, n, h1, h2, h3⟩ := h; .inr ⟨_, its, n, h1, rfl, rfl, rfl, h2, h3⟩
mutual
def Den (K : PySem.W.Frag) (Fz : FZ) (H : Hp) : PV → V → Prop
  | .non, v => v = .non
  | .bl b, v => v = .bl b
  | .int i, v => v = .int i
  | .str x, v => v = .str x
  | .ty n, v => v = .ty n
  | .tup ds, v => ∃ a xs, v = .ref a ∧ SqT K H a xs ∧ DenL K Fz H ds xs
  | .lst ds, v => ∃ a xs, v = .ref a ∧ ((Fz a ∧ Rd H a (.lst xs)) ∨ KX K a xs) ∧ DenL K Fz H ds xs
  | .dK ks ds, v => ∃ a xs, v = .ref a ∧ Fz a ∧ Rd H a (.dK (ks.zip xs)) ∧ ks.length = xs.length ∧ DenL K Fz H ds xs
  | .dT ks ds, v => ∃ a xs, v = .ref a ∧ Fz a ∧ Rd H a (.dT (ks.zip xs)) ∧ ks.length = xs.length ∧ DenL K Fz H ds xs
def DenL (K : PySem.W.Frag) (Fz : FZ) (H : Hp) : List PV → List V → Prop
  | [], xs => xs = []
  | d :: ds, xs => ∃ v r, xs = v :: r ∧ Den K Fz H d v ∧ DenL K Fz H ds r
end
def Root (K : PySem.W.Frag) (Fz : FZ) (H : Hp) : PV → V → Prop
  | .lst ds, v => ∃ a xs, v = .ref a ∧ (Rd H a (.lst xs) ∨ KX K a xs) ∧ DenL K Fz H ds xs
  | .dK ks ds, v => ∃ a xs, v = .ref a ∧ Rd H a (.dK (ks.zip xs)) ∧ ks.length = xs.length ∧ DenL K Fz H ds xs
  | .dT ks ds, v => ∃ a xs, v = .ref a ∧ Rd H a (.dT (ks.zip xs)) ∧ ks.length = xs.length ∧ DenL K Fz H ds xs
  | d, v => Den K Fz H d v
def Own (K : PySem.W.Frag) (Fz : FZ) (H : Hp) : PV → Addr → Prop
  | .lst ds, a => ∃ xs, H a = some (.lst xs) ∧ DenL K Fz H ds xs
  | .dK ks ds, a => ∃ xs, H a = some (.dK (ks.zip xs)) ∧ ks.length = xs.length ∧ DenL K Fz H ds xs
  | .dT ks ds, a => ∃ xs, H a = some (.dT (ks.zip xs)) ∧ ks.length = xs.length ∧ DenL K Fz H ds xs
  | _, _ => False
def Imm : HO → Prop
  | .tup _ => True
  | .frz _ _ => True
  | _ => False
def Pl : HO → Prop
  | .lst _ => True
  | .tup _ => True
  | .dK _ => True
  | .dT _ => True
  | _ => False
structure Keep (Fz : FZ) (H H' : Hp) : Prop where
  rd' : ∀ b u, Pl u → Fz b → Rd H b u → Rd H' b u
  tup : ∀ b xs, Rd H b (.tup xs) → Rd H' b (.tup xs)
def KeepX (Fz : FZ) (H H' : Hp) : Prop := ∀ b o, H b = some o → (Fz b ∨ Imm o) → H' b = some o
theorem Keep.mk' {Fz : FZ} {H H' : Hp} (h : KeepX Fz H H') : Keep Fz H H' :=
  ⟨fun b u _ f r => by
    rcases r with r | ⟨o, r⟩
    · exact .inl (h b _ r (.inl f))
    · exact .inr ⟨o, h b _ r (.inl f)⟩, fun b xs r => by
    rcases r with r | ⟨o, r⟩
    · exact .inl (h b _ r (.inr trivial))
    · exact .inr ⟨o, h b _ r (.inr trivial)⟩⟩
theorem Keep.of {Fz : FZ} {H H' : Hp} (h : Same H H') : Keep Fz H H' := .mk' fun b o e _ => h b o e
theorem Keep.rd {Fz : FZ} {H H' : Hp} (k : Keep Fz H H') {a : Addr} {u : HO} (pl : Pl u) (hf : Fz a) (h : Rd H a u) : Rd H' a u := k.rd' a u pl hf h
theorem Keep.sqT {K : PySem.W.Frag} {Fz : FZ} {H H' : Hp} (k : Keep Fz H H') {a : Addr} {xs : List V} (h : SqT K H a xs) : SqT K H' a xs := by
  rcases h with h | h
  · exact .inl (k.tup a xs h)
  · exact .inr h
section
variable {K : PySem.W.Frag} {Fz Fz' : FZ} {H H' : Hp}
mutual
theorem Den.mono (k : Keep Fz H H') (s : ∀ b, Fz b → Fz' b) : ∀ (d : PV) (v : V), Den K Fz H d v → Den K Fz' H' d v
  | .non, v, h => by simpa only [Den] using h
  | .bl b, v, h => by simpa only [Den] using h
  | .int i, v, h => by simpa only [Den] using h
  | .str x, v, h => by simpa only [Den] using h
  | .ty n, v, h => by simpa only [Den] using h
  | .tup ds, v, h => by
    simp only [Den] at h ⊢
    obtain ⟨a, xs, e, h1, h2⟩ := h
    exact ⟨a, xs, e, k.sqT h1, DenL.mono k s ds xs h2⟩
  | .lst ds, v, h => by
    simp only [Den] at h ⊢
    obtain ⟨a, xs, e, h1, h2⟩ := h
    refine ⟨a, xs, e, ?_, DenL.mono k s ds xs h2⟩
    rcases h1 with ⟨f, h1⟩ | h1
    · exact .inl ⟨s a f, k.rd trivial f h1⟩
    · exact .inr h1
  | .dK ks ds, v, h => by
    simp only [Den] at h ⊢
    obtain ⟨a, xs, e, f, h1, h2, h3⟩ := h
    exact ⟨a, xs, e, s a f, k.rd trivial f h1, h2, DenL.mono k s ds xs h3⟩
  | .dT ks ds, v, h => by
    simp only [Den] at h ⊢
    obtain ⟨a, xs, e, f, h1, h2, h3⟩ := h
    exact ⟨a, xs, e, s a f, k.rd trivial f h1, h2, DenL.mono k s ds xs h3⟩
theorem DenL.mono (k : Keep Fz H H') (s : ∀ b, Fz b → Fz' b) : ∀ (ds : List PV) (xs : List V), DenL K Fz H ds xs → DenL K Fz' H' ds xs
  | [], xs, h => by simpa only [DenL] using h
  | d :: ds, xs, h => by
    simp only [DenL] at h ⊢
    obtain ⟨v, r, e, h1, h2⟩ := h
    exact ⟨v, r, e, Den.mono k s d v h1, DenL.mono k s ds r h2⟩
end
theorem Den.root {d : PV} {v : V} (h : Den K Fz H d v) : Root K Fz H d v := by
  cases d with
  | lst ds =>
    simp only [Den] at h
    obtain ⟨a, xs, e, h1, h2⟩ := h
    refine ⟨a, xs, e, ?_, h2⟩
    rcases h1 with ⟨f, h1⟩ | h1
    · exact .inl h1
    · exact .inr h1
  | dK ks ds =>
    simp only [Den] at h
    obtain ⟨a, xs, e, _, h1, h2⟩ := h
    exact ⟨a, xs, e, h1, h2⟩
  | dT ks ds =>
    simp only [Den] at h
    obtain ⟨a, xs, e, _, h1, h2⟩ := h
    exact ⟨a, xs, e, h1, h2⟩
  | non => exact h
  | bl b => exact h
  | int i => exact h
  | str x => exact h
  | ty n => exact h
  | tup ds => exact h
theorem Own.root {d : PV} {a : Addr} (h : Own K Fz H d a) : Root K Fz H d (.ref a) := by
  cases d with
  | lst ds => obtain ⟨xs, h1, h2⟩ := h; exact ⟨a, xs, rfl, .inl (.inl h1), h2⟩
  | dK ks ds => obtain ⟨xs, h1, h2⟩ := h; exact ⟨a, xs, rfl, .inl h1, h2⟩
  | dT ks ds => obtain ⟨xs, h1, h2⟩ := h; exact ⟨a, xs, rfl, .inl h1, h2⟩
  | non => exact h.elim
  | bl b => exact h.elim
  | int i => exact h.elim
  | str x => exact h.elim
  | ty n => exact h.elim
  | tup ds => exact h.elim
theorem Own.den {d : PV} {a : Addr} (h : Own K Fz H d a) (f : Fz a) : Den K Fz H d (.ref a) := by
  cases d with
  | lst ds => obtain ⟨xs, h1, h2⟩ := h; simp only [Den]; exact ⟨a, xs, rfl, .inl ⟨f, .inl h1⟩, h2⟩
  | dK ks ds => obtain ⟨xs, h1, h2⟩ := h; simp only [Den]; exact ⟨a, xs, rfl, f, .inl h1, h2⟩
  | dT ks ds => obtain ⟨xs, h1, h2⟩ := h; simp only [Den]; exact ⟨a, xs, rfl, f, .inl h1, h2⟩
  | non => exact h.elim
  | bl b => exact h.elim
  | int i => exact h.elim
  | str x => exact h.elim
  | ty n => exact h.elim
  | tup ds => exact h.elim
theorem Own.at {d : PV} {a : Addr} (h : Own K Fz H d a) : ∃ o, H a = some o ∧ ¬ Imm o := by
  cases d with
  | lst ds => obtain ⟨xs, h1, h2⟩ := h; exact ⟨_, h1, fun z => z⟩
  | dK ks ds => obtain ⟨xs, h1, h2⟩ := h; exact ⟨_, h1, fun z => z⟩
  | dT ks ds => obtain ⟨xs, h1, h2⟩ := h; exact ⟨_, h1, fun z => z⟩
  | non => exact h.elim
  | bl b => exact h.elim
  | int i => exact h.elim
  | str x => exact h.elim
  | ty n => exact h.elim
  | tup ds => exact h.elim
theorem Own.mono {d : PV} {a : Addr} (k : Keep Fz H H') (s : ∀ b, Fz b → Fz' b) (ha : ∀ o, H a = some o → H' a = some o) (h : Own K Fz H d a) : Own K Fz' H' d a := by
  cases d with
  | lst ds => obtain ⟨xs, h1, h2⟩ := h; exact ⟨xs, ha _ h1, DenL.mono k s _ _ h2⟩
  | dK ks ds => obtain ⟨xs, h1, h2, h3⟩ := h; exact ⟨xs, ha _ h1, h2, DenL.mono k s _ _ h3⟩
  | dT ks ds => obtain ⟨xs, h1, h2, h3⟩ := h; exact ⟨xs, ha _ h1, h2, DenL.mono k s _ _ h3⟩
  | non => exact h.elim
  | bl b => exact h.elim
  | int i => exact h.elim
  | str x => exact h.elim
  | ty n => exact h.elim
  | tup ds => exact h.elim
theorem Root.mono {d : PV} {v : V} (k : Same H H') (s : ∀ b, Fz b → Fz' b) (h : Root K Fz H d v) : Root K Fz' H' d v := by
  have rd : ∀ {a u}, Rd H a u → Rd H' a u := fun {a u} q => by
    rcases q with q | ⟨o, q⟩
    · exact .inl (k _ _ q)
    · exact .inr ⟨o, k _ _ q⟩
  cases d with
  | lst ds => obtain ⟨a, xs, e, h1, h2⟩ := h; exact ⟨a, xs, e, h1.imp rd id, DenL.mono (.of k) s _ _ h2⟩
  | dK ks ds => obtain ⟨a, xs, e, h1, h2, h3⟩ := h; exact ⟨a, xs, e, rd h1, h2, DenL.mono (.of k) s _ _ h3⟩
  | dT ks ds => obtain ⟨a, xs, e, h1, h2, h3⟩ := h; exact ⟨a, xs, e, rd h1, h2, DenL.mono (.of k) s _ _ h3⟩
  | non => exact Den.mono (.of k) s _ _ h
  | bl b => exact Den.mono (.of k) s _ _ h
  | int i => exact Den.mono (.of k) s _ _ h
  | str x => exact Den.mono (.of k) s _ _ h
  | ty n => exact Den.mono (.of k) s _ _ h
  | tup ds => exact Den.mono (.of k) s _ _ h
theorem DenL.length : ∀ (ds : List PV) (xs : List V), DenL K Fz H ds xs → ds.length = xs.length
  | [], xs, h => by simp only [DenL] at h; subst h; rfl
  | d :: ds, xs, h => by
    simp only [DenL] at h
    obtain ⟨v, r, z, _, h2⟩ := h
    subst z
    rw [List.length_cons, List.length_cons, DenL.length ds r h2]
theorem DenL.get : ∀ {ds : List PV} {xs : List V} {i : Nat} {d : PV}, DenL K Fz H ds xs → ds[i]? = some d → ∃ v, xs[i]? = some v ∧ Den K Fz H d v
  | [], xs, i, d, h, e => by simp at e
  | d0 :: ds, xs, i, d, h, e => by
    simp only [DenL] at h
    obtain ⟨v0, r, z, h1, h2⟩ := h
    subst z
    cases i with
    | zero => simp at e; subst e; exact ⟨v0, rfl, h1⟩
    | succ i =>
      obtain ⟨v, q, h⟩ := DenL.get h2 (i := i) (d := d) (by simpa using e)
      exact ⟨v, by simpa using q, h⟩
theorem DenL.nil : DenL K Fz H [] [] := by simp only [DenL]
theorem DenL.cons {d : PV} {v : V} {ds : List PV} {xs : List V} (h1 : Den K Fz H d v) (h2 : DenL K Fz H ds xs) : DenL K Fz H (d :: ds) (v :: xs) := by
  simp only [DenL]; exact ⟨v, xs, rfl, h1, h2⟩
theorem DenL.append : ∀ {ds es : List PV} {xs ys : List V}, DenL K Fz H ds xs → DenL K Fz H es ys → DenL K Fz H (ds ++ es) (xs ++ ys)
  | [], es, xs, ys, h, g => by simp only [DenL] at h; subst h; exact g
  | d :: ds, es, xs, ys, h, g => by
    simp only [DenL] at h
    obtain ⟨v, r, z, h1, h2⟩ := h
    subst z
    exact DenL.cons h1 (DenL.append h2 g)
theorem DenL.snoc {ds : List PV} {xs : List V} {d : PV} {v : V} (h : DenL K Fz H ds xs) (g : Den K Fz H d v) : DenL K Fz H (ds ++ [d]) (xs ++ [v]) := h.append (DenL.cons g DenL.nil)
theorem DenL.split : ∀ {ds es : List PV} {xs : List V}, DenL K Fz H (ds ++ es) xs → ∃ ys zs, xs = ys ++ zs ∧ DenL K Fz H ds ys ∧ DenL K Fz H es zs
  | [], es, xs, h => ⟨[], xs, rfl, DenL.nil, h⟩
  | d :: ds, es, xs, h => by
    rw [List.cons_append] at h
    simp only [DenL] at h
    obtain ⟨v, r, z, h1, h2⟩ := h
    subst z
    obtain ⟨ys, zs, e, g1, g2⟩ := DenL.split h2
    exact ⟨v :: ys, zs, by rw [e]; rfl, DenL.cons h1 g1, g2⟩
theorem DenL.take {ds : List PV} {xs : List V} (n : Nat) (h : DenL K Fz H ds xs) : DenL K Fz H (ds.take n) (xs.take n) := by
  have hl := h.length
  obtain ⟨ys, zs, e, g1, g2⟩ := DenL.split (ds := ds.take n) (es := ds.drop n) (by rw [List.take_append_drop]; exact h)
  have h1 := g1.length
  subst e
  by_cases hn : n ≤ ds.length
  · rw [List.length_take, Nat.min_eq_left hn] at h1
    rw [List.take_append_of_le_length (by omega), List.take_of_length_le (i := n) (l := ys) (by omega)]
    exact g1
  · rw [List.take_of_length_le (i := n) (l := ds) (by omega), List.take_of_length_le (i := n) (l := ys ++ zs) (by omega)]
    exact h
theorem DenL.drop {ds : List PV} {xs : List V} (n : Nat) (h : DenL K Fz H ds xs) : DenL K Fz H (ds.drop n) (xs.drop n) := by
  have hl := h.length
  obtain ⟨ys, zs, e, g1, g2⟩ := DenL.split (ds := ds.take n) (es := ds.drop n) (by rw [List.take_append_drop]; exact h)
  have h1 := g1.length
  subst e
  by_cases hn : n ≤ ds.length
  · rw [List.length_take, Nat.min_eq_left hn] at h1
    rw [List.drop_append, List.drop_of_length_le (i := n) (l := ys) (by omega), show n - ys.length = 0 by omega]
    exact g2
  · rw [List.drop_of_length_le (i := n) (l := ds) (by omega), List.drop_of_length_le (i := n) (l := ys ++ zs) (by omega)]
    exact DenL.nil
theorem DenL.reverse : ∀ {ds : List PV} {xs : List V}, DenL K Fz H ds xs → DenL K Fz H ds.reverse xs.reverse
  | [], xs, h => by simp only [DenL] at h; subst h; exact DenL.nil
  | d :: ds, xs, h => by
    simp only [DenL] at h
    obtain ⟨v, r, z, h1, h2⟩ := h
    subst z
    rw [List.reverse_cons, List.reverse_cons]
    exact DenL.snoc (DenL.reverse h2) h1
theorem DenL.set : ∀ {ds : List PV} {xs : List V} {d : PV} {v : V} (i : Nat), DenL K Fz H ds xs → Den K Fz H d v → DenL K Fz H (ds.set i d) (xs.set i v)
  | [], xs, d, v, i, h, g => by simp only [DenL] at h; subst h; exact DenL.nil
  | d0 :: ds, xs, d, v, i, h, g => by
    simp only [DenL] at h
    obtain ⟨v0, r, z, h1, h2⟩ := h
    subst z
    cases i with
    | zero => exact DenL.cons g h2
    | succ i => exact DenL.cons h1 (DenL.set i h2 g)
theorem DenL.eraseIdx : ∀ {ds : List PV} {xs : List V} (i : Nat), DenL K Fz H ds xs → DenL K Fz H (ds.eraseIdx i) (xs.eraseIdx i)
  | [], xs, i, h => by simp only [DenL] at h; subst h; exact DenL.nil
  | d0 :: ds, xs, i, h => by
    simp only [DenL] at h
    obtain ⟨v0, r, z, h1, h2⟩ := h
    subst z
    cases i with
    | zero => exact h2
    | succ i => exact DenL.cons h1 (DenL.eraseIdx i h2)
end
abbrev PEnv := List (Option (PV × Bool))
structure Rel (K : PySem.W.Frag) (Fz : FZ) (ρ : PEnv) (σ : St) (H : Hp) : Prop where
  al : ∀ b, Fz b → H b ≠ none
  len : ρ.length = σ.length
  frz : ∀ (i : Nat) (d : PV), ρ[i]? = some (some (d, false)) → ∃ v, σ[i]? = some (some v) ∧ Den K Fz H d v
  own : ∀ (i : Nat) (d : PV), ρ[i]? = some (some (d, true)) → ∃ a, σ[i]? = some (some (.ref a)) ∧ ¬ Fz a ∧ Own K Fz H d a
  inj : ∀ (i j : Nat) (d e : PV) (a : Addr), ρ[i]? = some (some (d, true)) → ρ[j]? = some (some (e, true)) → σ[i]? = some (some (.ref a)) → σ[j]? = some (some (.ref a)) → i = j
def Owned (ρ : PEnv) (σ : St) (a : Addr) : Prop := ∃ (i : Nat) (d : PV), ρ[i]? = some (some (d, true)) ∧ σ[i]? = some (some (.ref a))
structure Ext (Fz : FZ) (H : Hp) (Fz' : FZ) (H' : Hp) : Prop where
  same : Same H H'
  sub : ∀ b, Fz b → Fz' b
  new : ∀ b, Fz' b → Fz b ∨ H b = none
  al : ∀ b, Fz' b → H' b ≠ none
theorem Ext.trans {F1 F2 F3 : FZ} {H1 H2 H3 : Hp} (a : Ext F1 H1 F2 H2) (b : Ext F2 H2 F3 H3) : Ext F1 H1 F3 H3 :=
  ⟨a.same.trans b.same, fun c h => b.sub c (a.sub c h), fun c h => by
    rcases b.new c h with h | h
    · exact a.new c h
    · exact .inr (a.same.free h), b.al⟩
theorem Ext.add {Fz Fz' : FZ} {H H' : Hp} {a : Addr} (x : Ext Fz H Fz' H') (h : H a = none) (h' : H' a ≠ none) : Ext Fz H (fun b => Fz' b ∨ b = a) H' :=
  ⟨x.same, fun b h => .inl (x.sub b h), fun b hb => by
    rcases hb with hb | rfl
    · exact x.new b hb
    · exact .inr h, fun b hb => by
    rcases hb with hb | rfl
    · exact x.al b hb
    · exact h'⟩
theorem Ext.laid {Fz Fz' : FZ} {H H' : Hp} {p : Addr} {o : HO} (x : Ext Fz H Fz' H') (h : H' p = none) : Ext Fz H Fz' (upd H' p o) :=
  ⟨x.same.trans (fun b u e => by rw [upd_ne (ne_of_none e h)]; exact e), x.sub, x.new, fun b hb => by
    by_cases e : b = p
    · subst e; rw [upd_same]; exact fun z => nomatch z
    · rw [upd_ne e]; exact x.al b hb⟩
theorem Rel.ext {K : PySem.W.Frag} {Fz Fz' : FZ} {ρ : PEnv} {σ : St} {H H' : Hp} (R : Rel K Fz ρ σ H) (x : Ext Fz H Fz' H') : Rel K Fz' ρ σ H' where
  al := x.al
  len := R.len
  frz i d h := by
    obtain ⟨v, e, q⟩ := R.frz i d h
    exact ⟨v, e, Den.mono (.of x.same) x.sub d v q⟩
  own i d h := by
    obtain ⟨a, e, n, q⟩ := R.own i d h
    refine ⟨a, e, fun z => ?_, q.mono (.of x.same) x.sub (fun o h => x.same _ _ h)⟩
    rcases x.new a z with z | z
    · exact n z
    · obtain ⟨o, h, _⟩ := q.at
      rw [h] at z; cases z
  inj := R.inj
inductive Kd where
  | frz | new | own (i : Nat)
def Opd (K : PySem.W.Frag) (Fz' : FZ) (H' : Hp) (ρ : PEnv) (σ : St) (H : Hp) (d : PV) : Kd → V → Prop
  | .frz, v => Den K Fz' H' d v
  | .new, v => ∃ a, v = .ref a ∧ H a = none ∧ ¬ Fz' a ∧ Own K Fz' H' d a
  | .own i, v => ρ[i]? = some (some (d, true)) ∧ σ[i]? = some (some v)
structure Post (K : PySem.W.Frag) (ρ : PEnv) (σ : St) (Fz : FZ) (H : Hp) (Fz' : FZ) (H' : Hp) (d : PV) (k : Kd) (v : V) : Prop where
  ext : Ext Fz H Fz' H'
  opd : Opd K Fz' H' ρ σ H d k v
theorem Post.root {K : PySem.W.Frag} {ρ : PEnv} {σ : St} {Fz Fz' : FZ} {H H' : Hp} {d : PV} {k : Kd} {v : V} (R : Rel K Fz ρ σ H) (p : Post K ρ σ Fz H Fz' H' d k v) : Root K Fz' H' d v := by
  cases k with
  | frz => exact Den.root p.opd
  | new => obtain ⟨a, e, _, _, h⟩ := p.opd; subst e; exact h.root
  | own i =>
    obtain ⟨h1, h2⟩ := p.opd
    obtain ⟨a, e, _, q⟩ := (R.ext p.ext).own i d h1
    rw [h2] at e; cases e
    exact q.root
theorem Post.frozen {K : PySem.W.Frag} {ρ : PEnv} {σ : St} {Fz Fz' : FZ} {H H' : Hp} {d : PV} {k : Kd} {v : V} (hk : k = .frz ∨ k = .new) (p : Post K ρ σ Fz H Fz' H' d k v) :
    ∃ Fz2, Ext Fz H Fz2 H' ∧ (∀ b, Fz' b → Fz2 b) ∧ Den K Fz2 H' d v := by
  rcases hk with rfl | rfl
  · exact ⟨Fz', p.ext, fun _ h => h, p.opd⟩
  · obtain ⟨a, e, hn, _, h⟩ := p.opd
    subst e
    exact ⟨fun b => Fz' b ∨ b = a, p.ext.add hn (by obtain ⟨o, e, _⟩ := h.at; rw [e]; exact fun z => nomatch z), fun _ h => .inl h, (h.mono (Fz' := fun b => Fz' b ∨ b = a) (Keep.of (Same.refl _)) (fun _ h => .inl h) (fun _ h => h)).den (.inr rfl)⟩
abbrev TPE := PEnv → (PV → Kd → Prop) → Prop
abbrev TPT := PEnv → (Bool → Prop) → Prop
abbrev TPA := PEnv → (List (PV × Kd) → Prop) → Prop
def lift (K : PySem.W.Frag) (t : TPE) : TE := fun σ H Q => ∃ ρ Fz, Rel K Fz ρ σ H ∧ t ρ fun d k => ∀ v Fz' H', Post K ρ σ Fz H Fz' H' d k v → Q v H'
def liftT (K : PySem.W.Frag) (t : TPT) : TT := fun σ H Q => ∃ ρ Fz, Rel K Fz ρ σ H ∧ t ρ fun b => ∀ Fz' H', Ext Fz H Fz' H' → Q b H'
structure PuE (X : Cx) (e : Expr) (t : TPE) : Prop where
  mono : ∀ ρ Q Q', (∀ d k, Q d k → Q' d k) → t ρ Q → t ρ Q'
  run : PE X e (lift X.K t)
structure PuT (X : Cx) (e : Expr) (t : TPT) : Prop where
  mono : ∀ ρ Q Q', (∀ b, Q b → Q' b) → t ρ Q → t ρ Q'
  run : PT X e (liftT X.K t)
theorem PE.weak {X : Cx} {e : Expr} {t t' : TE} (h : PE X e t) (w : ∀ σ H Q, t' σ H Q → t σ H Q) : PE X e t' := fun pins s σ H Q I q => h pins s σ H Q I (w σ H Q q)
theorem PT.weak {X : Cx} {e : Expr} {t t' : TT} (h : PT X e t) (w : ∀ σ H Q, t' σ H Q → t σ H Q) : PT X e t' := fun pins s σ H Q I q => h pins s σ H Q I (w σ H Q q)
theorem lift2 {X : Cx} {a b : Expr} {ta tb : TPE} (ha : PuE X a ta) (hb : PuE X b tb) {σ : St} {H : Hp} {R : V → V → Hp → Prop}
    (ρ : PEnv) (Fz : FZ) (Re : Rel X.K Fz ρ σ H)
    (h : ta ρ fun d kd => tb ρ fun e ke => ∀ x y Fz1 H1 Fz2 H2, Post X.K ρ σ Fz H Fz1 H1 d kd x → Post X.K ρ σ Fz1 H1 Fz2 H2 e ke y → R x y H2) :
    lift X.K ta σ H fun x H1 => lift X.K tb σ H1 fun y H2 => R x y H2 :=
  ⟨ρ, Fz, Re, ha.mono ρ _ _ (fun d kd q v Fz1 H1 p1 => ⟨ρ, Fz1, Re.ext p1.ext, hb.mono ρ _ _ (fun e ke q w Fz2 H2 p2 => q v w Fz1 H1 Fz2 H2 p1 p2) q⟩) h⟩
end PL
set_option Elab.async false
set_option linter.all false
set_option maxRecDepth 100000
set_option maxHeartbeats 4000000
namespace PL
open PySem PySem.Spec L2
open PyProof.Rows hiding St
section
variable {K : PySem.W.Frag} {ρ : PEnv} {σ : St} {Fz Fz1 Fz2 : FZ} {H H1 H2 : Hp} {d : PV} {k : Kd} {v : V}
theorem Opd.ext (x : Ext Fz1 H1 Fz2 H2) (h : Opd K Fz1 H1 ρ σ H d k v) : Opd K Fz2 H2 ρ σ H d k v := by
  cases k with
  | frz => exact Den.mono (.of x.same) x.sub _ _ h
  | new =>
    obtain ⟨a, e, hn, nf, o⟩ := h
    refine ⟨a, e, hn, fun z => ?_, o.mono (.of x.same) x.sub (fun o h => x.same _ _ h)⟩
    rcases x.new a z with z | z
    · exact nf z
    · obtain ⟨o', h, _⟩ := o.at
      rw [h] at z; cases z
  | own i => exact h
theorem Opd.back (s : Same H H1) (h : Opd K Fz2 H2 ρ σ H1 d k v) : Opd K Fz2 H2 ρ σ H d k v := by
  cases k with
  | frz => exact h
  | new => obtain ⟨a, e, hn, r⟩ := h; exact ⟨a, e, s.free hn, r⟩
  | own i => exact h
theorem Opd.up (h : Opd K Fz2 H2 [] [] H d k v) : Opd K Fz2 H2 ρ σ H d k v := by
  cases k with
  | frz => exact h
  | new => exact h
  | own i => obtain ⟨z, _⟩ := h; simp at z
theorem Post.behind (x : Ext Fz H Fz1 H1) (p : Post K [] [] Fz1 H1 Fz2 H2 d k v) : Post K ρ σ Fz H Fz2 H2 d k v :=
  ⟨x.trans p.ext, (p.opd.up (ρ := ρ) (σ := σ)).back x.same⟩
theorem Post.then (x : Ext Fz H Fz1 H1) (p : Post K ρ σ Fz1 H1 Fz2 H2 d k v) : Post K ρ σ Fz H Fz2 H2 d k v :=
  ⟨x.trans p.ext, p.opd.back x.same⟩
theorem Post.val (al : ∀ b, Fz b → H b ≠ none) (h : Den K Fz H d v) : Post K ρ σ Fz H Fz H d .frz v := ⟨⟨Same.refl H, fun _ h => h, fun _ h => .inl h, al⟩, h⟩
end
def pVar (i : Nat) : TPE := fun ρ Q => ∃ d b, ρ[i]? = some (some (d, b)) ∧ Q d (if b then .own i else .frz)
def pC (d : PV) : TPE := fun _ Q => Q d .frz
section
variable {X : Cx}
theorem pu_var (i : Nat) {x : Str} {pos : Pos} (hN : X.N[i]? = some x := by rfl) (hv : Vis X.env.scope x := by first | exact Or.inl rfl | exact Or.inr (Or.inl rfl) | exact Or.inr (Or.inr rfl)) (hd : (x == ("__debug__" : Str)) = false := by decide)
    (hcd : (x == ("__classdict__" : Str)) = false := by decide) : PuE X (.Name x pos) (pVar i) where
  mono ρ Q Q' m h := by obtain ⟨d, b, e, q⟩ := h; exact ⟨d, b, e, m _ _ q⟩
  run := PE.weak (pe_var hN hv hd hcd) fun σ H Q h => by
    obtain ⟨ρ, Fz, R, d, b, e, q⟩ := h
    cases b with
    | false =>
      obtain ⟨v, e1, h1⟩ := R.frz i d e
      exact ⟨v, e1, q v Fz H (.val R.al h1)⟩
    | true =>
      obtain ⟨a, e1, _, _⟩ := R.own i d e
      exact ⟨_, e1, q _ Fz H ⟨⟨Same.refl H, fun _ h => h, fun _ h => .inl h, R.al⟩, e, e1⟩⟩
theorem pu_const {e : Expr} {d : PV} {v : V} (h : PE X e (tC v)) (hd : ∀ Fz H, Den X.K Fz H d v) : PuE X e (pC d) where
  mono ρ Q Q' m h := m _ _ h
  run := PE.weak h fun σ H Q h => by
    obtain ⟨ρ, Fz, R, q⟩ := h
    exact q v Fz H (.val R.al (hd Fz H))
theorem pu_int {i j pos} : PuE X (.Constant (.int i) j pos) (pC (.int i)) := pu_const pe_int fun _ _ => by simp only [Den]
theorem pu_bl {b j pos} : PuE X (.Constant (.bool b) j pos) (pC (.bl b)) := pu_const pe_bl fun _ _ => by simp only [Den]
theorem pu_non {j pos} : PuE X (.Constant .none j pos) (pC .non) := pu_const pe_non fun _ _ => by simp only [Den]
theorem pu_str {x j pos} : PuE X (.Constant (.str x) j pos) (pC (.str x)) := pu_const pe_str fun _ _ => by simp only [Den]
theorem pu_ty {x : Str} {T : String} {pos : Pos} (hg : Gl X x) (hm : X.mg x = none) (hv : bootBuiltins x = some (.type T)) (hn : x ≠ "__name__" := by decide) (hd : (x == ("__debug__" : Str)) = false := by decide) : PuE X (.Name x pos) (pC (.ty T)) :=
  pu_const (pe_bltn (v := .ty T) hg hm hv rfl hn hd) fun _ _ => by simp only [Den]
end
abbrev P2 := PV → PV → (PV → Kd → Prop) → Prop
structure POp (K : PySem.W.Frag) (r : R2) (p : P2) : Prop where
  mono : ∀ d e Q Q', (∀ z k, Q z k → Q' z k) → p d e Q → p d e Q'
  run : ∀ Fz H x y d e Q, (∀ b, Fz b → H b ≠ none) → Root K Fz H d x → Root K Fz H e y → p d e (fun z k => ∀ v Fz' H', Post K [] [] Fz H Fz' H' z k v → Q v H') → r x y H Q
def t2 (p : P2) (ta tb : TPE) : TPE := fun ρ Q => ta ρ fun d _ => tb ρ fun e _ => p d e Q
section
variable {X : Cx} {a b : Expr} {ta tb : TPE} {pos : Pos} {r : R2} {p : P2}
theorem t2_mono (hp : POp X.K r p) (ha : PuE X a ta) (hb : PuE X b tb) : ∀ ρ Q Q', (∀ d k, Q d k → Q' d k) → t2 p ta tb ρ Q → t2 p ta tb ρ Q' :=
  fun ρ Q Q' m h => ha.mono ρ _ _ (fun d _ h => hb.mono ρ _ _ (fun e _ h => hp.mono d e _ _ m h) h) h
theorem t2_run (hp : POp X.K r p) (ha : PuE X a ta) (hb : PuE X b tb) {σ : St} {H : Hp} {Q : VK} (h : lift X.K (t2 p ta tb) σ H Q) : tOp r (lift X.K ta) (lift X.K tb) σ H Q := by
  obtain ⟨ρ, Fz, R, h⟩ := h
  refine lift2 ha hb ρ Fz R (ha.mono ρ _ _ (fun d kd h => hb.mono ρ _ _ (fun e ke h => ?_) h) h)
  intro x y Fz1 H1 Fz2 H2 p1 p2
  have R1 := R.ext p1.ext
  refine hp.run Fz2 H2 x y d e Q p2.ext.al ((p1.root R).mono p2.ext.same p2.ext.sub) (p2.root R1) (hp.mono d e _ _ (fun z k q v Fz' H' p3 => ?_) h)
  exact q v Fz' H' (p3.behind (p1.ext.trans p2.ext))
theorem pu_op {op : Operator} (ho : OpR X (binaryOp op) r) (hp : POp X.K r p) (ha : PuE X a ta) (hb : PuE X b tb) : PuE X (.BinOp a op b pos) (t2 p ta tb) :=
  ⟨t2_mono hp ha hb, PE.weak (pe_op ho ha.run hb.run) fun _ _ _ h => t2_run hp ha hb h⟩
theorem pu_cmp {op : CmpOp} (ho : OpR X (compareOp op) r) (hp : POp X.K r p) (ha : PuE X a ta) (hb : PuE X b tb) (hm : behindInMarks op b = false := by first | exact nomark _ | rfl) : PuE X (.Compare a [op] [b] pos) (t2 p ta tb) :=
  ⟨t2_mono hp ha hb, PE.weak (pe_cmpR ho ha.run hb.run hm) fun _ _ _ h => t2_run hp ha hb h⟩
def tBl (te : TPE) : TPT := fun ρ Q => te ρ fun d _ => ∃ b, d = .bl b ∧ Q b
theorem put_cmp {op : CmpOp} (ho : OpR X (compareOp op) r) (hp : POp X.K r p) (ha : PuE X a ta) (hb : PuE X b tb) (hm : behindInMarks op b = false := by first | exact nomark _ | rfl) : PuT X (.Compare a [op] [b] pos) (tBl (t2 p ta tb)) where
  mono ρ Q Q' m h := t2_mono hp ha hb ρ _ _ (fun d _ ⟨b, e, q⟩ => ⟨b, e, m b q⟩) h
  run := PT.weak (pt_cmpR ho ha.run hb.run hm) fun σ H Q h => by
    obtain ⟨ρ, Fz, R, h⟩ := h
    refine t2_run hp ha hb ⟨ρ, Fz, R, t2_mono hp ha hb ρ _ _ (fun d k ⟨b, e, q⟩ v Fz' H' p => ⟨b, ?_, q Fz' H' p.ext⟩) h⟩
    subst e
    have w := p.root R
    simpa only [Root, Den] using w
theorem pu_ix (ho : IxR X r) (hp : POp X.K r p) (ha : PuE X a ta) (hb : PuE X b tb) (hs : PlainIx b := by exact fun _ _ => rfl) : PuE X (.Subscript a b pos) (t2 p ta tb) :=
  ⟨t2_mono hp ha hb, PE.weak (pe_ix ho ha.run hb.run hs) fun _ _ _ h => t2_run hp ha hb h⟩
end
def i2 (C : Int → Int → Prop) (g : Int → Int → PV) : P2 := fun d e Q => ∃ i j, d = .int i ∧ e = .int j ∧ C i j ∧ Q (g i j) .frz
def i0 (g : Int → Int → PV) : P2 := fun d e Q => ∃ i j, d = .int i ∧ e = .int j ∧ Q (g i j) .frz
section
variable {K : PySem.W.Frag}
theorem po_int {C : Int → Int → Prop} {g : Int → Int → Int} : POp K (rI C fun i j => .int (g i j)) (i2 C fun i j => .int (g i j)) where
  mono d e Q Q' m h := by obtain ⟨i, j, e1, e2, c, q⟩ := h; exact ⟨i, j, e1, e2, c, m _ _ q⟩
  run Fz H x y d e Q al rx ry h := by
    obtain ⟨i, j, rfl, rfl, c, q⟩ := h
    simp only [Root, Den] at rx ry
    exact ⟨i, j, rx, ry, c, q _ Fz H (.val al (by simp only [Den]))⟩
theorem po_int0 {g : Int → Int → Int} : POp K (rI0 fun i j => .int (g i j)) (i0 fun i j => .int (g i j)) where
  mono d e Q Q' m h := by obtain ⟨i, j, e1, e2, q⟩ := h; exact ⟨i, j, e1, e2, m _ _ q⟩
  run Fz H x y d e Q al rx ry h := by
    obtain ⟨i, j, rfl, rfl, q⟩ := h
    simp only [Root, Den] at rx ry
    exact ⟨i, j, rx, ry, q _ Fz H (.val al (by simp only [Den]))⟩
theorem po_bool0 {g : Int → Int → Bool} : POp K (rI0 fun i j => .bl (g i j)) (i0 fun i j => .bl (g i j)) where
  mono d e Q Q' m h := by obtain ⟨i, j, e1, e2, q⟩ := h; exact ⟨i, j, e1, e2, m _ _ q⟩
  run Fz H x y d e Q al rx ry h := by
    obtain ⟨i, j, rfl, rfl, q⟩ := h
    simp only [Root, Den] at rx ry
    exact ⟨i, j, rx, ry, q _ Fz H (.val al (by simp only [Den]))⟩
end
section
variable {X : Cx} {a b : Expr} {ta tb : TPE} {pos : Pos}
abbrev pAdd := t2 (i0 fun i j => .int (i + j))
abbrev pSub := t2 (i0 fun i j => .int (i - j))
abbrev pMul := t2 (i2 CMul fun i j => .int (i * j))
abbrev pMod := t2 (i2 (fun _ j => 0 < j) fun i j => .int (i % j))
abbrev pDiv := t2 (i2 CDiv fun i j => .int (i / j))
abbrev pPow := t2 (i2 CPow fun i j => .int (i ^ j.toNat))
abbrev pLt := t2 (i0 fun i j => .bl (decide (i < j)))
abbrev pGt := t2 (i0 fun i j => .bl (decide (j < i)))
theorem pu_add (ha : PuE X a ta) (hb : PuE X b tb) : PuE X (.BinOp a .Add b pos) (pAdd ta tb) := pu_op op_add po_int0 ha hb
theorem pu_sub (ha : PuE X a ta) (hb : PuE X b tb) : PuE X (.BinOp a .Sub b pos) (pSub ta tb) := pu_op op_sub po_int0 ha hb
theorem pu_mul (ha : PuE X a ta) (hb : PuE X b tb) : PuE X (.BinOp a .Mult b pos) (pMul ta tb) := pu_op op_mul po_int ha hb
theorem pu_mod (ha : PuE X a ta) (hb : PuE X b tb) : PuE X (.BinOp a .Mod b pos) (pMod ta tb) := pu_op op_mod po_int ha hb
theorem pu_div (ha : PuE X a ta) (hb : PuE X b tb) : PuE X (.BinOp a .FloorDiv b pos) (pDiv ta tb) := pu_op op_fdiv po_int ha hb
theorem pu_pow (ha : PuE X a ta) (hb : PuE X b tb) : PuE X (.BinOp a .Pow b pos) (pPow ta tb) := pu_op op_pow po_int ha hb
end
end PL
set_option Elab.async false
set_option linter.all false
set_option maxRecDepth 100000
set_option maxHeartbeats 4000000
namespace PL
open PySem PySem.Spec L2
open PyProof.Rows hiding St
def plain : Nat → PV → Bool
  | _, .non => true
  | _, .int _ => true
  | _, .str _ => true
  | n + 1, .tup ds => ds.all (plain n)
  | n + 1, .lst ds => ds.all (plain n)
  | _, _ => false
theorem RootL.get {K : PySem.W.Frag} {Fz : FZ} {H : Hp} {ds : List PV} {xs : List V} {j : Nat} (h : DenL K Fz H ds xs) (hj : j < ds.length) (hx : j < xs.length) : Den K Fz H ds[j] xs[j] := by
  obtain ⟨v, e, q⟩ := h.get (i := j) (d := ds[j]) (List.getElem?_eq_getElem hj)
  rw [List.getElem?_eq_getElem hx] at e
  cases e
  exact q
theorem root_non {K : PySem.W.Frag} {Fz : FZ} {H : Hp} {x : V} (h : Root K Fz H .non x) : x = .non := by simpa only [Root, Den] using h
theorem root_int {K : PySem.W.Frag} {Fz : FZ} {H : Hp} {x : V} {i : Int} (h : Root K Fz H (.int i) x) : x = .int i := by simpa only [Root, Den] using h
theorem root_bl {K : PySem.W.Frag} {Fz : FZ} {H : Hp} {x : V} {i : Bool} (h : Root K Fz H (.bl i) x) : x = .bl i := by simpa only [Root, Den] using h
theorem root_str {K : PySem.W.Frag} {Fz : FZ} {H : Hp} {x : V} {i : Str} (h : Root K Fz H (.str i) x) : x = .str i := by simpa only [Root, Den] using h
theorem root_tup {K : PySem.W.Frag} {Fz : FZ} {H : Hp} {x : V} {ds : List PV} (h : Root K Fz H (.tup ds) x) : ∃ a xs, x = .ref a ∧ SqT K H a xs ∧ DenL K Fz H ds xs := by simpa only [Root, Den] using h
theorem root_lst {K : PySem.W.Frag} {Fz : FZ} {H : Hp} {x : V} {ds : List PV} (h : Root K Fz H (.lst ds) x) : ∃ a xs, x = .ref a ∧ SqL K H a xs ∧ DenL K Fz H ds xs := by
  simp only [Root] at h
  obtain ⟨a, xs, e, h1, h2⟩ := h
  exact ⟨a, xs, e, h1.elim (fun h => .inl h) KX.sq, h2⟩
theorem root_lstR {K : PySem.W.Frag} {Fz : FZ} {H : Hp} {x : V} {ds : List PV} (h : Root K Fz H (.lst ds) x) : ∃ a xs, x = .ref a ∧ (Rd H a (.lst xs) ∨ KX K a xs) ∧ DenL K Fz H ds xs := by simpa only [Root] using h
theorem df {p : Prop} [Decidable p] (h : ¬ p) {Y : Bool → Prop} (y : Y false) : Y (decide p) := by rw [decide_eq_false h]; exact y
theorem dn {p : Prop} [Decidable p] (h : ¬ p) {Y : Bool → Prop} (y : Y true) : Y (!decide p) := by rw [decide_eq_false h]; exact y
section
variable {X : Cx} {pins : List (Addr × Obj)} {σ : St} {H : Hp} {s : Shared} {Fz Fz' : FZ}
theorem seq_apart (I : Inv X pins σ H s) {a : Addr} {xs ys : List V} (h1 : SqL X.K H a xs) (h2 : SqT X.K H a ys) : False := by
  obtain ⟨its, r, p, _⟩ := I.list h1
  obtain ⟨its2, r2, p2, _⟩ := I.tuple h2
  exact SeqAt.ne_of_list_tuple p.isList (show s.heap.IsTuple a its2.toArray from p2) rfl
theorem root_inj (I : Inv X pins σ H s) : ∀ (n : Nat) (d e : PV) (x : V), plain n d = true → plain n e = true → Root X.K Fz H d x → Root X.K Fz' H e x → d = e := by
  intro n
  induction n with
  | zero =>
    intro d e x pd pe h g
    cases d <;> first
      | (simp only [plain] at pd; exact absurd pd (by decide))
      | (cases e <;> first
          | (simp only [plain] at pe; exact absurd pe (by decide))
          | (simp only [Root, Den] at h g; subst h; first | (cases g; rfl) | cases g))
  | succ n ih =>
    have all : ∀ (ds es : List PV) (xs : List V), ds.all (plain n) = true → es.all (plain n) = true → DenL X.K Fz H ds xs → DenL X.K Fz' H es xs → ds = es := by
      intro ds
      induction ds with
      | nil =>
        intro es xs _ _ h g
        simp only [DenL] at h
        subst h
        cases es with
        | nil => rfl
        | cons e es => simp only [DenL] at g; obtain ⟨_, _, z, _⟩ := g; cases z
      | cons d ds ihd =>
        intro es xs pd pe h g
        simp only [DenL] at h
        obtain ⟨v, r, z, h1, h2⟩ := h
        subst z
        cases es with
        | nil => simp only [DenL] at g; cases g
        | cons e es =>
          simp only [DenL] at g
          obtain ⟨v', r', z, g1, g2⟩ := g
          cases z
          rw [List.all_cons, Bool.and_eq_true] at pd pe
          rw [ih d e v pd.1 pe.1 h1.root g1.root, ihd es r pd.2 pe.2 h2 g2]
    intro d e x pd pe h g
    cases d with
    | tup ds =>
      simp only [plain] at pd
      simp only [Root, Den] at h
      obtain ⟨a, xs, rfl, h1, h2⟩ := h
      cases e with
      | tup es =>
        simp only [plain] at pe
        simp only [Root, Den] at g
        obtain ⟨b, ys, z, g1, g2⟩ := g
        cases z
        have e1 := I.tuple_inj h1 g1
        subst e1
        rw [all ds es xs pd pe h2 g2]
      | lst es =>
        obtain ⟨b, ys, z, g1, g2⟩ := root_lst g
        cases z
        exact (seq_apart I g1 h1).elim
      | non => simp only [Root, Den] at g; cases g
      | int i => simp only [Root, Den] at g; cases g
      | str i => simp only [Root, Den] at g; cases g
      | bl _ => simp only [plain] at pe; exact absurd pe (by decide)
      | ty _ => simp only [plain] at pe; exact absurd pe (by decide)
      | dK _ _ => simp only [plain] at pe; exact absurd pe (by decide)
      | dT _ _ => simp only [plain] at pe; exact absurd pe (by decide)
    | lst ds =>
      simp only [plain] at pd
      obtain ⟨a, xs, rfl, h1, h2⟩ := root_lst h
      cases e with
      | lst es =>
        simp only [plain] at pe
        obtain ⟨b, ys, z, g1, g2⟩ := root_lst g
        cases z
        have e1 := I.list_inj h1 g1
        subst e1
        rw [all ds es xs pd pe h2 g2]
      | tup es =>
        simp only [Root, Den] at g
        obtain ⟨b, ys, z, g1, g2⟩ := g
        cases z
        exact (seq_apart I h1 g1).elim
      | non => simp only [Root, Den] at g; cases g
      | int i => simp only [Root, Den] at g; cases g
      | str i => simp only [Root, Den] at g; cases g
      | bl _ => simp only [plain] at pe; exact absurd pe (by decide)
      | ty _ => simp only [plain] at pe; exact absurd pe (by decide)
      | dK _ _ => simp only [plain] at pe; exact absurd pe (by decide)
      | dT _ _ => simp only [plain] at pe; exact absurd pe (by decide)
    | bl _ => simp only [plain] at pd; exact absurd pd (by decide)
    | ty _ => simp only [plain] at pd; exact absurd pd (by decide)
    | dK _ _ => simp only [plain] at pd; exact absurd pd (by decide)
    | dT _ _ => simp only [plain] at pd; exact absurd pd (by decide)
    | non =>
      have h' := root_non h
      subst h'
      cases e with
      | non => rfl
      | int i => exact nomatch root_int g
      | str i => exact nomatch root_str g
      | tup ds => obtain ⟨_, _, z, _⟩ := root_tup g; exact nomatch z
      | lst ds => obtain ⟨_, _, z, _⟩ := root_lst g; exact nomatch z
      | _ => simp only [plain] at pe; exact absurd pe (by decide)
    | int i =>
      have h' := root_int h
      subst h'
      cases e with
      | non => exact nomatch root_non g
      | int j => have := root_int g; injection this with this; rw [this]
      | str i => exact nomatch root_str g
      | tup ds => obtain ⟨_, _, z, _⟩ := root_tup g; exact nomatch z
      | lst ds => obtain ⟨_, _, z, _⟩ := root_lst g; exact nomatch z
      | _ => simp only [plain] at pe; exact absurd pe (by decide)
    | str i =>
      have h' := root_str h
      subst h'
      cases e with
      | non => exact nomatch root_non g
      | int j => exact nomatch root_int g
      | str j => have := root_str g; injection this with this; rw [this]
      | tup ds => obtain ⟨_, _, z, _⟩ := root_tup g; exact nomatch z
      | lst ds => obtain ⟨_, _, z, _⟩ := root_lst g; exact nomatch z
      | _ => simp only [plain] at pe; exact absurd pe (by decide)
theorem all_dec {ds es : List PV} {n : Nat} (hn : n = min ds.length es.length) : ((List.range n).all fun j => decide (ds[j]? = es[j]?)) = true ↔ ∀ j, j < ds.length → j < es.length → ds[j]? = es[j]? := by
  rw [List.all_eq_true]
  constructor
  · intro h j h1 h2
    exact of_decide_eq_true (h j (List.mem_range.mpr (by omega)))
  · intro h j hj
    have := List.mem_range.mp hj
    exact decide_eq_true (h j (by omega) (by omega))
theorem eq_of_get {ds es : List PV} (hl : ds.length = es.length) : (∀ j, j < ds.length → j < es.length → ds[j]? = es[j]?) ↔ ds = es := by
  constructor
  · intro h
    apply List.ext_getElem?
    intro j
    by_cases hj : j < ds.length
    · exact h j hj (by omega)
    · rw [List.getElem?_eq_none (by omega), List.getElem?_eq_none (by omega)]
  · rintro rfl _ _ _; rfl
theorem all_dec_tup (ds es : List PV) : ((List.range (min ds.length es.length)).all (fun j => decide (ds[j]? = es[j]?)) && ds.length == es.length) = decide (ds = es) := by
  by_cases hlen : ds.length = es.length
  · have hb' : (ds.length == es.length) = true := by simp; omega
    rw [hb', Bool.and_true]
    by_cases h : ds = es
    · rw [(all_dec rfl).mpr ((eq_of_get hlen).mpr h), decide_eq_true h]
    · rw [decide_eq_false h]
      cases hq : (List.range (min ds.length es.length)).all (fun j => decide (ds[j]? = es[j]?)) with
      | false => rfl
      | true => exact absurd ((eq_of_get hlen).mp ((all_dec rfl).mp hq)) h
  · have hb' : (ds.length == es.length) = false := by rw [beq_eq_false_iff_ne]; exact hlen
    rw [hb', Bool.and_false, decide_eq_false (fun z => hlen (by rw [z]))]
theorem all_dec_lst {ds es : List PV} (hlen : ds.length = es.length) : ((List.range ds.length).all (fun j => decide (ds[j]? = es[j]?))) = decide (ds = es) := by
  have q := all_dec_tup ds es
  rw [hlen, Nat.min_self] at q
  rw [hlen]
  simpa using q
theorem dec_pint {i j : Int} : decide (PV.int i = PV.int j) = (i == j) := by
  rw [Bool.eq_iff_iff]; simp
theorem dec_pstr {i j : Str} : decide (PV.str i = PV.str j) = (i == j) := by
  rw [Bool.eq_iff_iff]; simp
theorem dec_ptup {i j : List PV} : decide (PV.tup i = PV.tup j) = decide (i = j) := by
  rw [Bool.eq_iff_iff]; simp
theorem dec_plst {i j : List PV} : decide (PV.lst i = PV.lst j) = decide (i = j) := by
  rw [Bool.eq_iff_iff]; simp
theorem items_at {A : Around} {n : Nat} {ds es : List PV} {xs ys : List V} {its its2 : List Value} (I : Inv X pins σ H s) (r1 : Vals xs its) (r2 : Vals ys its2) (h1 : DenL X.K Fz H ds xs) (h2 : DenL X.K Fz' H es ys) (pd : ds.all (plain n) = true) (pe : es.all (plain n) = true)
    (ih : ∀ (d e : PV) (x y : V) (u v : Value), plain n d = true → plain n e = true → Den X.K Fz H d x → Den X.K Fz' H e y → RelV x u → RelV y v → SeqAt.EqAt A s u v (decide (d = e))) :
    ∀ j (h1 : j < its.toArray.size) (h2 : j < its2.toArray.size), SeqAt.EqAt A s its.toArray[j] its2.toArray[j] (decide (ds[j]? = es[j]?)) := fun j h1' h2' => by
  have l1 := r1.length
  have l2 := r2.length
  have l3 := h1.length
  have l4 := h2.length
  rw [List.size_toArray] at h1' h2'
  have e1 : ds[j]? = some ds[j] := List.getElem?_eq_getElem (by omega)
  have e2 : es[j]? = some es[j] := List.getElem?_eq_getElem (by omega)
  obtain ⟨x, e3, q3⟩ := h1.get e1
  obtain ⟨y, e4, q4⟩ := h2.get e2
  obtain ⟨u1, q1, r1'⟩ := r1.get e3
  obtain ⟨u2, q2, r2'⟩ := r2.get e4
  have f1 : its.toArray[j] = u1 := by
    have : its[j]? = some its[j] := List.getElem?_eq_getElem h1'
    rw [q1] at this
    simpa using (Option.some.inj this).symm
  have f2 : its2.toArray[j] = u2 := by
    have : its2[j]? = some its2[j] := List.getElem?_eq_getElem h2'
    rw [q2] at this
    simpa using (Option.some.inj this).symm
  rw [f1, f2]
  have w : decide (ds[j] = es[j]) = decide (ds[j]? = es[j]?) := by
    rw [e1, e2]
    by_cases h : ds[j] = es[j]
    · rw [decide_eq_true h, decide_eq_true (by rw [h])]
    · rw [decide_eq_false h, decide_eq_false (fun z => h (Option.some.inj z))]
  rw [← w]
  exact ih _ _ _ _ _ _ (List.all_eq_true.mp pd _ (List.getElem_mem _)) (List.all_eq_true.mp pe _ (List.getElem_mem _)) q3 q4 r1' r2'
theorem rc_eq (I : Inv X pins σ H s) : ∀ (n : Nat) (A : Around) (d e : PV) (x y : V) (u v : Value), plain n d = true → plain n e = true → A.units + n < cLine → Root X.K Fz H d x → Root X.K Fz' H e y → RelV x u → RelV y v →
    SeqAt.RcAt A s u v (decide (d = e)) ∧ SeqAt.RcNeAt A s u v (!decide (d = e)) ∧ SeqAt.EqAt A s u v (decide (d = e)) := by
  intro n
  induction n with
  | zero =>
    intro A d e x y u v pd pe hu hx hy rx ry
    cases d with
    | non =>
      have hx' := root_non hx
      subst hx'
      cases rx
      cases e with
      | non =>
        have hy' := root_non hy
        subst hy'
        cases ry
        rw [decide_eq_true rfl]; exact ⟨SeqAt.RcAt.none_none, SeqAt.RcNeAt.none_none, SeqAt.EqAt.same _⟩
      | int j =>
        have hy' := root_int hy
        subst hy'
        obtain ⟨t', rfl⟩ := ry
        rw [decide_eq_false (fun z => nomatch z)]; exact ⟨SeqAt.RcAt.none_int _ _, SeqAt.RcNeAt.none_int _ _, SeqAt.EqAt.none_int _ _⟩
      | str j =>
        have hy' := root_str hy
        subst hy'
        obtain ⟨t', rfl⟩ := ry
        rw [decide_eq_false (fun z => nomatch z)]; exact ⟨SeqAt.RcAt.none_str _ _, SeqAt.RcNeAt.none_str _ _, SeqAt.EqAt.none_str _ _⟩
      | _ => simp only [plain] at pe; exact absurd pe (by decide)
    | int i =>
      have hx' := root_int hx
      subst hx'
      obtain ⟨t, rfl⟩ := rx
      cases e with
      | non =>
        have hy' := root_non hy
        subst hy'
        cases ry
        rw [decide_eq_false (fun z => nomatch z)]; exact ⟨SeqAt.RcAt.int_none _ _, SeqAt.RcNeAt.int_none _ _, SeqAt.EqAt.int_none _ _⟩
      | int j =>
        have hy' := root_int hy
        subst hy'
        obtain ⟨t', rfl⟩ := ry
        rw [dec_pint]; exact ⟨SeqAt.RcAt.int_int _ _ _ _, SeqAt.RcNeAt.int_int _ _ _ _, SeqAt.EqAt.int_int _ _ _ _⟩
      | str j =>
        have hy' := root_str hy
        subst hy'
        obtain ⟨t', rfl⟩ := ry
        rw [decide_eq_false (fun z => nomatch z)]; exact ⟨SeqAt.RcAt.int_str _ _ _ _, SeqAt.RcNeAt.int_str _ _ _ _, SeqAt.EqAt.int_str _ _ _ _⟩
      | _ => simp only [plain] at pe; exact absurd pe (by decide)
    | str i =>
      have hx' := root_str hx
      subst hx'
      obtain ⟨t, rfl⟩ := rx
      cases e with
      | non =>
        have hy' := root_non hy
        subst hy'
        cases ry
        rw [decide_eq_false (fun z => nomatch z)]; exact ⟨SeqAt.RcAt.str_none _ _, SeqAt.RcNeAt.str_none _ _, SeqAt.EqAt.str_none _ _⟩
      | int j =>
        have hy' := root_int hy
        subst hy'
        obtain ⟨t', rfl⟩ := ry
        rw [decide_eq_false (fun z => nomatch z)]; exact ⟨SeqAt.RcAt.str_int _ _ _ _, SeqAt.RcNeAt.str_int _ _ _ _, SeqAt.EqAt.str_int _ _ _ _⟩
      | str j =>
        have hy' := root_str hy
        subst hy'
        obtain ⟨t', rfl⟩ := ry
        rw [dec_pstr]; exact ⟨SeqAt.RcAt.str_str _ _ _ _, SeqAt.RcNeAt.str_str _ _ _ _, SeqAt.EqAt.str_str _ _ _ _⟩
      | _ => simp only [plain] at pe; exact absurd pe (by decide)
    | _ => simp only [plain] at pd; exact absurd pd (by decide)
  | succ n ih =>
    intro A d e x y u v pd pe hu hx hy rx ry
    have hA : A.units < cLine := by omega
    have iha : ∀ (d e : PV) (x y : V) (u v : Value), plain n d = true → plain n e = true → Den X.K Fz H d x → Den X.K Fz' H e y → RelV x u → RelV y v → SeqAt.EqAt A.in1 s u v (decide (d = e)) :=
      fun d e x y u v pd pe h1 h2 r1 r2 => (ih A.in1 d e x y u v pd pe (by show A.units + 1 + n < cLine; omega) h1.root h2.root r1 r2).2.2
    have lower : ∀ c : PV, (∀ ds, c ≠ .tup ds) → (∀ ds, c ≠ .lst ds) → plain (n + 1) c = true → plain n c = true := fun c h1 h2 hc => by
      cases c with
      | tup ds => exact absurd rfl (h1 ds)
      | lst ds => exact absurd rfl (h2 ds)
      | non => cases n <;> rfl
      | int i => cases n <;> rfl
      | str i => cases n <;> rfl
      | bl _ => simp only [plain] at hc; exact absurd hc (by decide)
      | ty _ => simp only [plain] at hc; exact absurd hc (by decide)
      | dK _ _ => simp only [plain] at hc; exact absurd hc (by decide)
      | dT _ _ => simp only [plain] at hc; exact absurd hc (by decide)
    have low := fun (pd : plain n d = true) (pe : plain n e = true) => ih A d e x y u v pd pe (by omega) hx hy rx ry
    cases d with
    | tup ds =>
      have hx' := hx
      simp only [Root, Den] at hx
      obtain ⟨a, xs, rfl, ha, h1⟩ := hx
      cases rx
      obtain ⟨its, r1, p1, z1⟩ := I.tuple ha
      have p1' : s.heap.IsTuple a its.toArray := p1
      cases e with
      | tup es =>
        have hy' := hy
        simp only [Root, Den] at hy
        obtain ⟨b, ys, rfl, hb, h2⟩ := hy
        cases ry
        obtain ⟨its2, r2, p2, z2⟩ := I.tuple hb
        have p2' : s.heap.IsTuple b its2.toArray := p2
        have he := items_at I r1 r2 h1 h2 (by simpa only [plain] using pd) (by simpa only [plain] using pe) iha
        have w : ((List.range (min its.toArray.size its2.toArray.size)).all (fun j => decide (ds[j]? = es[j]?)) && its.toArray.size == its2.toArray.size) = decide (PV.tup ds = PV.tup es) := by
          rw [List.size_toArray, List.size_toArray, ← r1.length, ← r2.length, ← h1.length, ← h2.length, all_dec_tup, dec_ptup]
        have q := SeqAt.RcAt.tuples p1' p2' hA he
        have q' := SeqAt.RcNeAt.tuples p1' p2' hA he
        rw [w] at q q'
        refine ⟨q, q', ?_⟩
        by_cases hab : a = b
        · subst hab
          rw [root_inj I (n + 1) _ _ _ pd pe hx' hy', decide_eq_true rfl]
          exact SeqAt.EqAt.same _
        · exact SeqAt.EqAt.of_refs hab q
      | lst es =>
        obtain ⟨b, ys, rfl, hb, h2⟩ := root_lst hy
        cases ry
        obtain ⟨its2, r2, p2, z2⟩ := I.list hb
        exact ⟨df (fun z => nomatch z) (SeqAt.RcAt.tuple_list p1' p2.isList hA), dn (fun z => nomatch z) (SeqAt.RcNeAt.tuple_list p1' p2.isList hA), df (fun z => nomatch z) (SeqAt.EqAt.tuple_list p1' p2.isList hA)⟩
      | non => simp only [Root, Den] at hy; subst hy; cases ry; exact ⟨df (fun z => nomatch z) (SeqAt.RcAt.tuple_none p1' hA), dn (fun z => nomatch z) (SeqAt.RcNeAt.tuple_none p1' hA), df (fun z => nomatch z) (SeqAt.EqAt.tuple_none p1' hA)⟩
      | int i => simp only [Root, Den] at hy; subst hy; obtain ⟨t, rfl⟩ := ry; exact ⟨df (fun z => nomatch z) (SeqAt.RcAt.tuple_int i t p1' hA), dn (fun z => nomatch z) (SeqAt.RcNeAt.tuple_int i t p1' hA), df (fun z => nomatch z) (SeqAt.EqAt.tuple_int i t p1' hA)⟩
      | str i => simp only [Root, Den] at hy; subst hy; obtain ⟨t, rfl⟩ := ry; exact ⟨df (fun z => nomatch z) (SeqAt.RcAt.tuple_str i t p1' hA), dn (fun z => nomatch z) (SeqAt.RcNeAt.tuple_str i t p1' hA), df (fun z => nomatch z) (SeqAt.EqAt.tuple_str i t p1' hA)⟩
      | bl _ => simp only [plain] at pe; exact absurd pe (by decide)
      | ty _ => simp only [plain] at pe; exact absurd pe (by decide)
      | dK _ _ => simp only [plain] at pe; exact absurd pe (by decide)
      | dT _ _ => simp only [plain] at pe; exact absurd pe (by decide)
    | lst ds =>
      have hx' := hx
      obtain ⟨a, xs, rfl, ha, h1⟩ := root_lst hx
      cases rx
      obtain ⟨its, r1, p1, z1⟩ := I.list ha
      have p1' := p1.isList
      cases e with
      | lst es =>
        have hy' := hy
        obtain ⟨b, ys, rfl, hb, h2⟩ := root_lst hy
        cases ry
        obtain ⟨its2, r2, p2, z2⟩ := I.list hb
        have he := items_at I r1 r2 h1 h2 (by simpa only [plain] using pd) (by simpa only [plain] using pe) iha
        have l1 := r1.length
        have l2 := r2.length
        have l3 := h1.length
        have l4 := h2.length
        have key : SeqAt.RcAt A s (.ref a) (.ref b) (decide (PV.lst ds = PV.lst es)) ∧ SeqAt.RcNeAt A s (.ref a) (.ref b) (!decide (PV.lst ds = PV.lst es)) := by
          by_cases hlen : ds.length = es.length
          · have w : (List.range its.toArray.size).all (fun j => decide (ds[j]? = es[j]?)) = decide (PV.lst ds = PV.lst es) := by
              rw [List.size_toArray, ← l1, ← l3, all_dec_lst hlen, dec_plst]
            have q := SeqAt.RcAt.lists p1' p2.isList (by rw [List.size_toArray, List.size_toArray]; omega) hA he
            have q' := SeqAt.RcNeAt.lists p1' p2.isList (by rw [List.size_toArray, List.size_toArray]; omega) hA he
            rw [w] at q q'
            exact ⟨q, q'⟩
          · have hne : (its.toArray.size != its2.toArray.size) = true := by rw [List.size_toArray, List.size_toArray]; simp; omega
            rw [decide_eq_false (fun z => hlen (by rw [PV.lst.inj z]))]
            exact ⟨SeqAt.RcAt.lists_lengths p1' p2.isList hne hA, SeqAt.RcNeAt.lists_lengths p1' p2.isList hne hA⟩
        refine ⟨key.1, key.2, ?_⟩
        by_cases hab : a = b
        · subst hab
          rw [root_inj I (n + 1) _ _ _ pd pe hx' hy', decide_eq_true rfl]
          exact SeqAt.EqAt.same _
        · exact SeqAt.EqAt.of_refs hab key.1
      | tup es =>
        simp only [Root, Den] at hy
        obtain ⟨b, ys, rfl, hb, h2⟩ := hy
        cases ry
        obtain ⟨its2, r2, p2, z2⟩ := I.tuple hb
        have p2' : s.heap.IsTuple b its2.toArray := p2
        exact ⟨df (fun z => nomatch z) (SeqAt.RcAt.list_tuple p1' p2' hA), dn (fun z => nomatch z) (SeqAt.RcNeAt.list_tuple p1' p2' hA), df (fun z => nomatch z) (SeqAt.EqAt.list_tuple p1' p2' hA)⟩
      | non => simp only [Root, Den] at hy; subst hy; cases ry; exact ⟨df (fun z => nomatch z) (SeqAt.RcAt.list_none p1' hA), dn (fun z => nomatch z) (SeqAt.RcNeAt.list_none p1' hA), df (fun z => nomatch z) (SeqAt.EqAt.list_none p1' hA)⟩
      | int i => simp only [Root, Den] at hy; subst hy; obtain ⟨t, rfl⟩ := ry; exact ⟨df (fun z => nomatch z) (SeqAt.RcAt.list_int i t p1' hA), dn (fun z => nomatch z) (SeqAt.RcNeAt.list_int i t p1' hA), df (fun z => nomatch z) (SeqAt.EqAt.list_int i t p1' hA)⟩
      | str i => simp only [Root, Den] at hy; subst hy; obtain ⟨t, rfl⟩ := ry; exact ⟨df (fun z => nomatch z) (SeqAt.RcAt.list_str i t p1' hA), dn (fun z => nomatch z) (SeqAt.RcNeAt.list_str i t p1' hA), df (fun z => nomatch z) (SeqAt.EqAt.list_str i t p1' hA)⟩
      | bl _ => simp only [plain] at pe; exact absurd pe (by decide)
      | ty _ => simp only [plain] at pe; exact absurd pe (by decide)
      | dK _ _ => simp only [plain] at pe; exact absurd pe (by decide)
      | dT _ _ => simp only [plain] at pe; exact absurd pe (by decide)
    | bl _ => simp only [plain] at pd; exact absurd pd (by decide)
    | ty _ => simp only [plain] at pd; exact absurd pd (by decide)
    | dK _ _ => simp only [plain] at pd; exact absurd pd (by decide)
    | dT _ _ => simp only [plain] at pd; exact absurd pd (by decide)
    | non =>
      cases e with
      | tup es =>
        simp only [Root, Den] at hx hy; subst hx; cases rx
        obtain ⟨b, ys, rfl, hb, h2⟩ := hy
        cases ry
        obtain ⟨its2, r2, p2, z2⟩ := I.tuple hb
        have p2' : s.heap.IsTuple b its2.toArray := p2
        exact ⟨df (fun z => nomatch z) (SeqAt.RcAt.none_tuple p2' hA), dn (fun z => nomatch z) (SeqAt.RcNeAt.none_tuple p2' hA), df (fun z => nomatch z) (SeqAt.EqAt.none_tuple p2' hA)⟩
      | lst es =>
        simp only [Root, Den] at hx; subst hx; cases rx
        obtain ⟨b, ys, rfl, hb, h2⟩ := root_lst hy
        cases ry
        obtain ⟨its2, r2, p2, z2⟩ := I.list hb
        exact ⟨df (fun z => nomatch z) (SeqAt.RcAt.none_list p2.isList hA), dn (fun z => nomatch z) (SeqAt.RcNeAt.none_list p2.isList hA), df (fun z => nomatch z) (SeqAt.EqAt.none_list p2.isList hA)⟩
      | _ => exact low (lower _ (fun _ z => nomatch z) (fun _ z => nomatch z) pd) (lower _ (fun _ z => nomatch z) (fun _ z => nomatch z) pe)
    | int i =>
      cases e with
      | tup es =>
        simp only [Root, Den] at hx hy; subst hx; obtain ⟨t, rfl⟩ := rx
        obtain ⟨b, ys, rfl, hb, h2⟩ := hy
        cases ry
        obtain ⟨its2, r2, p2, z2⟩ := I.tuple hb
        have p2' : s.heap.IsTuple b its2.toArray := p2
        exact ⟨df (fun z => nomatch z) (SeqAt.RcAt.int_tuple i t p2' hA), dn (fun z => nomatch z) (SeqAt.RcNeAt.int_tuple i t p2' hA), df (fun z => nomatch z) (SeqAt.EqAt.int_tuple i t p2' hA)⟩
      | lst es =>
        simp only [Root, Den] at hx; subst hx; obtain ⟨t, rfl⟩ := rx
        obtain ⟨b, ys, rfl, hb, h2⟩ := root_lst hy
        cases ry
        obtain ⟨its2, r2, p2, z2⟩ := I.list hb
        exact ⟨df (fun z => nomatch z) (SeqAt.RcAt.int_list i t p2.isList hA), dn (fun z => nomatch z) (SeqAt.RcNeAt.int_list i t p2.isList hA), df (fun z => nomatch z) (SeqAt.EqAt.int_list i t p2.isList hA)⟩
      | _ => exact low (lower _ (fun _ z => nomatch z) (fun _ z => nomatch z) pd) (lower _ (fun _ z => nomatch z) (fun _ z => nomatch z) pe)
    | str i =>
      cases e with
      | tup es =>
        simp only [Root, Den] at hx hy; subst hx; obtain ⟨t, rfl⟩ := rx
        obtain ⟨b, ys, rfl, hb, h2⟩ := hy
        cases ry
        obtain ⟨its2, r2, p2, z2⟩ := I.tuple hb
        have p2' : s.heap.IsTuple b its2.toArray := p2
        exact ⟨df (fun z => nomatch z) (SeqAt.RcAt.str_tuple i t p2' hA), dn (fun z => nomatch z) (SeqAt.RcNeAt.str_tuple i t p2' hA), df (fun z => nomatch z) (SeqAt.EqAt.str_tuple i t p2' hA)⟩
      | lst es =>
        simp only [Root, Den] at hx; subst hx; obtain ⟨t, rfl⟩ := rx
        obtain ⟨b, ys, rfl, hb, h2⟩ := root_lst hy
        cases ry
        obtain ⟨its2, r2, p2, z2⟩ := I.list hb
        exact ⟨df (fun z => nomatch z) (SeqAt.RcAt.str_list i t p2.isList hA), dn (fun z => nomatch z) (SeqAt.RcNeAt.str_list i t p2.isList hA), df (fun z => nomatch z) (SeqAt.EqAt.str_list i t p2.isList hA)⟩
      | _ => exact low (lower _ (fun _ z => nomatch z) (fun _ z => nomatch z) pd) (lower _ (fun _ z => nomatch z) (fun _ z => nomatch z) pe)
end
def rEqP (K : PySem.W.Frag) (neg : Bool) : R2 := fun x y H Q => ∃ Fz d e, Root K Fz H d x ∧ Root K Fz H e y ∧ plain 6 d = true ∧ plain 6 e = true ∧ Q (.bl (if neg then !decide (d = e) else decide (d = e))) H
def pEq (neg : Bool) : P2 := fun d e Q => plain 6 d = true ∧ plain 6 e = true ∧ Q (.bl (if neg then !decide (d = e) else decide (d = e))) .frz
section
variable {X : Cx}
theorem op_eqP (hu : X.A.units + 16 < cLine) : OpR X (compareOp .Eq) (rEqP X.K false) := by
  intro pins s σ H x y v u Q I rx ry h
  obtain ⟨Fz, d, e, hx, hy, pd, pe, q⟩ := h
  exact (rc_eq I 6 X.A d e x y v u pd pe (by omega) hx hy rx ry).1 X.prog X.w X.xe _ ⟨.bl _, H, I, rfl, q⟩
theorem op_neP (hu : X.A.units + 16 < cLine) : OpR X (compareOp .NotEq) (rEqP X.K true) := by
  intro pins s σ H x y v u Q I rx ry h
  obtain ⟨Fz, d, e, hx, hy, pd, pe, q⟩ := h
  exact (rc_eq I 6 X.A d e x y v u pd pe (by omega) hx hy rx ry).2.1 X.prog X.w X.xe _ ⟨.bl _, H, I, rfl, q⟩
theorem po_eqP {K : PySem.W.Frag} {neg : Bool} : POp K (rEqP K neg) (pEq neg) where
  mono d e Q Q' m h := ⟨h.1, h.2.1, m _ _ h.2.2⟩
  run Fz H x y d e Q al rx ry h := ⟨Fz, d, e, rx, ry, h.1, h.2.1, h.2.2 _ Fz H (.val al (by simp only [Den]))⟩
end
end PL
set_option Elab.async false
set_option linter.all false
set_option maxRecDepth 100000
set_option maxHeartbeats 4000000
namespace PL
open PySem PySem.Spec L2
open PyProof.Rows hiding St
section
variable {X : Cx} {a b c : Expr} {ta tb : TPE} {tA tB' : TPT} {pos : Pos} {rest : List Expr}
structure PuW (X : Cx) (e : Expr) (t : TPT) : Prop where
  mono : ∀ ρ Q Q', (∀ b, Q b → Q' b) → t ρ Q → t ρ Q'
  run : PW X e (liftT X.K t)
theorem PuW.t {e : Expr} {t : TPT} (h : PuW X e t) : PuT X e t := ⟨h.mono, h.run.pt⟩
def tAndP (t u : TPT) : TPT := fun ρ Q => t ρ fun c => if c = true then u ρ Q else Q false
def tOrP (t u : TPT) : TPT := fun ρ Q => t ρ fun c => if c = true then Q true else u ρ Q
def tNotP (t : TPT) : TPT := fun ρ Q => t ρ fun c => Q (!c)
theorem PW.weak {e : Expr} {t t' : TT} (h : PW X e t) (w : ∀ σ H Q, t' σ H Q → t σ H Q) : PW X e t' := fun whole pins s σ H Q I q => h whole pins s σ H Q I (w σ H Q q)
theorem puw_and1 (ha : PuT X a tA) : PuW X (.BoolOp .And [a] pos) tA := ⟨ha.mono, pw_and1 ha.run⟩
theorem puw_or1 (ha : PuT X a tA) : PuW X (.BoolOp .Or [a] pos) tA := ⟨ha.mono, pw_or1 ha.run⟩
theorem and_mono (m1 : ∀ ρ (Q Q' : Bool → Prop), (∀ b, Q b → Q' b) → tA ρ Q → tA ρ Q') (m2 : ∀ ρ (Q Q' : Bool → Prop), (∀ b, Q b → Q' b) → tB' ρ Q → tB' ρ Q') :
    ∀ ρ (Q Q' : Bool → Prop), (∀ b, Q b → Q' b) → tAndP tA tB' ρ Q → tAndP tA tB' ρ Q' := fun ρ Q Q' m h => m1 ρ _ _ (fun c q => by
  cases c with
  | true => rw [if_pos rfl] at q ⊢; exact m2 ρ _ _ m q
  | false => rw [if_neg Bool.false_ne_true] at q ⊢; exact m _ q) h
theorem or_mono (m1 : ∀ ρ (Q Q' : Bool → Prop), (∀ b, Q b → Q' b) → tA ρ Q → tA ρ Q') (m2 : ∀ ρ (Q Q' : Bool → Prop), (∀ b, Q b → Q' b) → tB' ρ Q → tB' ρ Q') :
    ∀ ρ (Q Q' : Bool → Prop), (∀ b, Q b → Q' b) → tOrP tA tB' ρ Q → tOrP tA tB' ρ Q' := fun ρ Q Q' m h => m1 ρ _ _ (fun c q => by
  cases c with
  | false => rw [if_neg Bool.false_ne_true] at q ⊢; exact m2 ρ _ _ m q
  | true => rw [if_pos rfl] at q ⊢; exact m _ q) h
theorem puw_and (ha : PuT X a tA) (hb : PuW X (.BoolOp .And (b :: rest) pos) tB') : PuW X (.BoolOp .And (a :: b :: rest) pos) (tAndP tA tB') where
  mono := and_mono ha.mono hb.mono
  run := PW.weak (pw_and ha.run hb.run) fun σ H Q h => by
    obtain ⟨ρ, Fz, R, h⟩ := h
    refine ⟨ρ, Fz, R, ha.mono ρ _ _ (fun c q Fz' H' x => ?_) h⟩
    cases c with
    | true =>
      rw [if_pos rfl] at q ⊢
      exact ⟨ρ, Fz', R.ext x, hb.mono ρ _ _ (fun b q Fz2 H2 x2 => q Fz2 H2 (x.trans x2)) q⟩
    | false => rw [if_neg Bool.false_ne_true] at q ⊢; exact q Fz' H' x
theorem puw_or (ha : PuT X a tA) (hb : PuW X (.BoolOp .Or (b :: rest) pos) tB') : PuW X (.BoolOp .Or (a :: b :: rest) pos) (tOrP tA tB') where
  mono := or_mono ha.mono hb.mono
  run := PW.weak (pw_or ha.run hb.run) fun σ H Q h => by
    obtain ⟨ρ, Fz, R, h⟩ := h
    refine ⟨ρ, Fz, R, ha.mono ρ _ _ (fun c q Fz' H' x => ?_) h⟩
    cases c with
    | false =>
      rw [if_neg Bool.false_ne_true] at q ⊢
      exact ⟨ρ, Fz', R.ext x, hb.mono ρ _ _ (fun b q Fz2 H2 x2 => q Fz2 H2 (x.trans x2)) q⟩
    | true => rw [if_pos rfl] at q ⊢; exact q Fz' H' x
theorem put_not (ha : PuT X a tA) : PuT X (.UnaryOp .Not a pos) (tNotP tA) where
  mono ρ Q Q' m h := ha.mono ρ _ _ (fun c q => m _ q) h
  run := PT.weak (pt_not ha.run) fun σ H Q h => h
def TruP : PV → Bool → Prop
  | .non, k => k = false
  | .bl b, k => k = b
  | .int i, k => k = (i != 0)
  | .str y, k => y.length ≤ sizeLine ∧ k = ((y.length : Int) != 0)
  | .tup ds, k => k = !ds.isEmpty
  | .lst ds, k => k = !ds.isEmpty
  | _, _ => False
def tTru (te : TPE) : TPT := fun ρ Q => te ρ fun d _ => ∃ k, TruP d k ∧ Q k
theorem TruP.v {K : PySem.W.Frag} {Fz : FZ} {H : Hp} {d : PV} {x : V} {k : Bool} (r : Root K Fz H d x) (t : TruP d k) : TruV K x H k := by
  cases d with
  | non => cases root_non r; exact t
  | bl b => cases root_bl r; exact t
  | int i => cases root_int r; exact t
  | str y => cases root_str r; exact t
  | tup ds =>
    obtain ⟨a, xs, rfl, h1, h2⟩ := root_tup r
    refine .inr (.inl ⟨xs, h1, ?_⟩)
    have hl := h2.length
    have t' : k = !ds.isEmpty := t
    rw [t']
    cases ds <;> cases xs <;> simp_all
  | lst ds =>
    obtain ⟨a, xs, rfl, h1, h2⟩ := root_lst r
    refine .inl ⟨xs, h1, ?_⟩
    have hl := h2.length
    have t' : k = !ds.isEmpty := t
    rw [t']
    cases ds <;> cases xs <;> simp_all
  | ty _ => exact t.elim
  | dK _ _ => exact t.elim
  | dT _ _ => exact t.elim
theorem put_tru (ha : PuE X a ta) (he : ∀ whole, isTrue a X.env whole = (do let v ← whole; standAt a.pos; holding [v] (truthy v)) := by intro _; rfl) : PuT X a (tTru ta) where
  mono ρ Q Q' m h := ha.mono ρ _ _ (fun d k ⟨b, e, q⟩ => ⟨b, e, m b q⟩) h
  run := PT.weak (pt_truth ha.run he) fun σ H Q h => by
    obtain ⟨ρ, Fz, R, h⟩ := h
    exact ⟨ρ, Fz, R, ha.mono ρ _ _ (fun d k ⟨b, e, q⟩ v Fz' H' p => ⟨b, TruP.v (p.root R) e, q Fz' H' p.ext⟩) h⟩
def tNotE (ta : TPE) : TPE := fun ρ Q => ta ρ fun d _ => ∃ c, d = .bl c ∧ Q (.bl (!c)) .frz
def tAndE (ta tb : TPE) : TPE := fun ρ Q => ta ρ fun d _ => ∃ c, d = .bl c ∧ if c = true then tb ρ Q else Q (.bl false) .frz
def tOrE (ta tb : TPE) : TPE := fun ρ Q => ta ρ fun d _ => ∃ c, d = .bl c ∧ if c = true then Q (.bl true) .frz else tb ρ Q
theorem pu_not (ha : PuE X a ta) : PuE X (.UnaryOp .Not a pos) (tNotE ta) where
  mono ρ Q Q' m h := ha.mono ρ _ _ (fun d k ⟨c, e, q⟩ => ⟨c, e, m _ _ q⟩) h
  run := PE.weak (pe_not ha.run) fun σ H Q h => by
    obtain ⟨ρ, Fz, R, h⟩ := h
    refine ⟨ρ, Fz, R, ha.mono ρ _ _ (fun d k ⟨c, e, q⟩ v Fz' H' p => ⟨c, ?_, q _ Fz' H' ⟨p.ext, by show Den _ _ _ _ _; simp only [Den]⟩⟩) h⟩
    subst e
    exact root_bl (p.root R)
theorem pu_one {op} {t : TPE} (h : PuE X a t) : PuE X (.BoolOp op [a] pos) t := ⟨h.mono, pe_one h.run⟩
theorem pu_and (ha : PuE X a ta) (hb : PuE X (.BoolOp .And (b :: rest) pos) tb) : PuE X (.BoolOp .And (a :: b :: rest) pos) (tAndE ta tb) where
  mono ρ Q Q' m h := ha.mono ρ _ _ (fun d k ⟨c, e, q⟩ => ⟨c, e, by
    cases c with
    | true => rw [if_pos rfl] at q ⊢; exact hb.mono ρ _ _ m q
    | false => rw [if_neg Bool.false_ne_true] at q ⊢; exact m _ _ q⟩) h
  run := PE.weak (pe_and ha.run hb.run) fun σ H Q h => by
    obtain ⟨ρ, Fz, R, h⟩ := h
    refine ⟨ρ, Fz, R, ha.mono ρ _ _ (fun d k ⟨c, e, q⟩ v Fz' H' p => ⟨c, ?_, ?_⟩) h⟩
    · subst e; exact root_bl (p.root R)
    · cases c with
      | true =>
        rw [if_pos rfl] at q ⊢
        exact ⟨ρ, Fz', R.ext p.ext, hb.mono ρ _ _ (fun d k q v Fz2 H2 p2 => q v Fz2 H2 (p2.then p.ext)) q⟩
      | false => rw [if_neg Bool.false_ne_true] at q ⊢; exact q _ Fz' H' ⟨p.ext, by show Den _ _ _ _ _; simp only [Den]⟩
def tIfE (t : TPT) (ta tb : TPE) : TPE := fun ρ Q => t ρ fun c => if c = true then ta ρ Q else tb ρ Q
end
abbrev OpdL (K : PySem.W.Frag) (Fz' : FZ) (H' : Hp) (ρ : PEnv) (σ : St) (H : Hp) : List (PV × Kd) → List V → Prop := Paired fun p v => Opd K Fz' H' ρ σ H p.1 p.2 v
def liftA (K : PySem.W.Frag) (t : TPA) : TA := fun σ H Q => ∃ ρ Fz, Rel K Fz ρ σ H ∧ t ρ fun ops => ∀ vs Fz' H', Ext Fz H Fz' H' → OpdL K Fz' H' ρ σ H ops vs → Q vs H'
structure PuA (X : Cx) (es : List Expr) (t : TPA) : Prop where
  mono : ∀ ρ Q Q', (∀ ops, Q ops → Q' ops) → t ρ Q → t ρ Q'
  run : PA X es (liftA X.K t)
theorem PA.weak {X : Cx} {es : List Expr} {t t' : TA} (h : PA X es t) (w : ∀ σ H Q, t' σ H Q → t σ H Q) : PA X es t' := fun pos pins s σ H Q I q => h pos pins s σ H Q I (w σ H Q q)
def pNil : TPA := fun _ Q => Q []
def pCons (te : TPE) (t : TPA) : TPA := fun ρ Q => te ρ fun d k => t ρ fun ops => Q ((d, k) :: ops)
theorem OpdL.ext {K : PySem.W.Frag} {ρ : PEnv} {σ : St} {Fz1 Fz2 : FZ} {H H1 H2 : Hp} (x : Ext Fz1 H1 Fz2 H2) : ∀ {ops : List (PV × Kd)} {vs : List V}, OpdL K Fz1 H1 ρ σ H ops vs → OpdL K Fz2 H2 ρ σ H ops vs
  | _, _, .nil => .nil
  | _, _, .cons h t => .cons (Opd.ext x h) (OpdL.ext x t)
theorem OpdL.back {K : PySem.W.Frag} {ρ : PEnv} {σ : St} {Fz2 : FZ} {H H1 H2 : Hp} (s : Same H H1) : ∀ {ops : List (PV × Kd)} {vs : List V}, OpdL K Fz2 H2 ρ σ H1 ops vs → OpdL K Fz2 H2 ρ σ H ops vs
  | _, _, .nil => .nil
  | _, _, .cons h t => .cons (Opd.back s h) (OpdL.back s t)
section
variable {X : Cx} {e : Expr} {es : List Expr} {te : TPE} {t : TPA} {pos : Pos}
theorem pua_nil : PuA X [] pNil where
  mono ρ Q Q' m h := m _ h
  run := PA.weak pa_nil fun σ H Q h => by
    obtain ⟨ρ, Fz, R, h⟩ := h
    exact h [] Fz H ⟨Same.refl H, fun _ h => h, fun _ h => .inl h, R.al⟩ .nil
theorem pua_cons (ha : PuE X e te) (hr : PuA X es t) (hs : starEach (e :: es) X.env = (false, eval e X.env) :: starEach es X.env := by rfl) : PuA X (e :: es) (pCons te t) where
  mono ρ Q Q' m h := ha.mono ρ _ _ (fun d k h => hr.mono ρ _ _ (fun ops h => m _ h) h) h
  run := PA.weak (pa_cons ha.run hr.run hs) fun σ H Q h => by
    obtain ⟨ρ, Fz, R, h⟩ := h
    refine ⟨ρ, Fz, R, ha.mono ρ _ _ (fun d k h v Fz1 H1 p => ?_) h⟩
    refine ⟨ρ, Fz1, R.ext p.ext, hr.mono ρ _ _ (fun ops h vs Fz2 H2 x o => ?_) h⟩
    exact h (v :: vs) Fz2 H2 (p.ext.trans x) (.cons (Opd.ext x p.opd) (OpdL.back p.ext.same o))
end
def RootL (K : PySem.W.Frag) (Fz : FZ) (H : Hp) : List PV → List V → Prop := Paired (Root K Fz H)
theorem OpdL.root {K : PySem.W.Frag} {ρ : PEnv} {σ : St} {Fz Fz' : FZ} {H H' : Hp} (R : Rel K Fz ρ σ H) (x : Ext Fz H Fz' H') : ∀ {ops : List (PV × Kd)} {vs : List V}, OpdL K Fz' H' ρ σ H ops vs → RootL K Fz' H' (ops.map (·.1)) vs
  | _, _, .nil => .nil
  | _, _, .cons h t => .cons (Post.root R ⟨x, h⟩) (OpdL.root R x t)
def noOwn : List (PV × Kd) → Bool
  | [] => true
  | (_, .own _) :: _ => false
  | _ :: r => noOwn r
theorem OpdL.frozen {K : PySem.W.Frag} {ρ : PEnv} {σ : St} {Fz Fz' : FZ} {H H' : Hp} (x : Ext Fz H Fz' H') : ∀ {ops : List (PV × Kd)} {vs : List V}, noOwn ops = true → OpdL K Fz' H' ρ σ H ops vs →
    ∃ Fz2, Ext Fz H Fz2 H' ∧ (∀ b, Fz' b → Fz2 b) ∧ DenL K Fz2 H' (ops.map (·.1)) vs
  | _, _, _, .nil => ⟨Fz', x, fun _ h => h, DenL.nil⟩
  | (d, k) :: ops, v :: vs, hn, .cons h t => by
    cases k with
    | own i => exact absurd hn Bool.false_ne_true
    | frz =>
      obtain ⟨F2, x2, s2, h2⟩ := OpdL.frozen x (ops := ops) hn t
      exact ⟨F2, x2, s2, DenL.cons (Den.mono (Keep.of (Same.refl _)) s2 _ _ h) h2⟩
    | new =>
      obtain ⟨F2, x2, s2, h2⟩ := OpdL.frozen x (ops := ops) hn t
      obtain ⟨a, e, hn', _, o⟩ := h
      subst e
      refine ⟨fun b => F2 b ∨ b = a, x2.add hn' (by obtain ⟨o', e, _⟩ := o.at; rw [e]; exact fun z => nomatch z), fun b h => .inl (s2 b h), DenL.cons ?_ (DenL.mono (Keep.of (Same.refl _)) (fun b h => .inl h) _ _ h2)⟩
      exact (o.mono (Fz' := fun b => F2 b ∨ b = a) (Keep.of (Same.refl _)) (fun b h => .inl (s2 b h)) (fun _ h => h)).den (.inr rfl)
def pTup (t : TPA) : TPE := fun ρ Q => t ρ fun ops => noOwn ops = true ∧ ops.length ≤ sizeLine ∧ Q (.tup (ops.map (·.1))) .frz
def pLst (t : TPA) : TPE := fun ρ Q => t ρ fun ops => noOwn ops = true ∧ ops.length ≤ sizeLine ∧ Q (.lst (ops.map (·.1))) .new
section
variable {X : Cx} {es : List Expr} {t : TPA} {pos : Pos}
theorem pu_tup {x1} (h : PuA X es t) : PuE X (.Tuple es x1 pos) (pTup t) where
  mono ρ Q Q' m q := h.mono ρ _ _ (fun ops q => ⟨q.1, q.2.1, m _ _ q.2.2⟩) q
  run := PE.weak (pe_tup h.run) fun σ H Q q => by
    obtain ⟨ρ, Fz, R, q⟩ := q
    refine ⟨ρ, Fz, R, h.mono ρ _ _ (fun ops q vs Fz' H' x o => ?_) q⟩
    obtain ⟨hn, hl, q⟩ := q
    obtain ⟨F2, x2, s2, h2⟩ := o.frozen x hn
    have len := h2.length
    rw [List.length_map] at len
    refine ⟨by omega, fun p hp => q _ F2 _ ⟨x2.laid hp, ?_⟩⟩
    show Den _ _ _ _ _
    simp only [Den]
    refine ⟨p, vs, rfl, SqT.of upd_same, DenL.mono (Keep.of (fun b u e => by rw [upd_ne (ne_of_none e hp)]; exact e)) (fun _ h => h) _ _ h2⟩
theorem pu_lst (h : PuA X es t) : PuE X (.List es pos) (pLst t) where
  mono ρ Q Q' m q := h.mono ρ _ _ (fun ops q => ⟨q.1, q.2.1, m _ _ q.2.2⟩) q
  run := PE.weak (pe_lst h.run) fun σ H Q q => by
    obtain ⟨ρ, Fz, R, q⟩ := q
    refine ⟨ρ, Fz, R, h.mono ρ _ _ (fun ops q vs Fz' H' x o => ?_) q⟩
    obtain ⟨hn, hl, q⟩ := q
    obtain ⟨F2, x2, s2, h2⟩ := o.frozen x hn
    have len := h2.length
    rw [List.length_map] at len
    refine ⟨by omega, fun p hp => q _ F2 _ ⟨x2.laid hp, p, rfl, x.same.free hp, fun z => x2.al p z hp, vs, upd_same, ?_⟩⟩
    exact DenL.mono (Keep.of (fun b u e => by rw [upd_ne (ne_of_none e hp)]; exact e)) (fun _ h => h) _ _ h2
end
end PL
set_option Elab.async false
set_option linter.all false
set_option maxRecDepth 100000
set_option maxHeartbeats 4000000
namespace PL
open PySem PySem.Spec L2
open PyProof.Rows hiding St
mutual
def noMut : PV → Bool
  | .tup ds => noMutL ds
  | .lst _ => false
  | .dK _ _ => false
  | .dT _ _ => false
  | _ => true
def noMutL : List PV → Bool
  | [] => true
  | d :: ds => noMut d && noMutL ds
end
section
variable {K : PySem.W.Frag} {Fz Fz' : FZ} {H : Hp}
mutual
theorem noMut_den : ∀ (d : PV) (v : V), noMut d = true → Den K Fz H d v → Den K Fz' H d v
  | .non, v, _, h => by simpa only [Den] using h
  | .bl b, v, _, h => by simpa only [Den] using h
  | .int i, v, _, h => by simpa only [Den] using h
  | .str x, v, _, h => by simpa only [Den] using h
  | .ty n, v, _, h => by simpa only [Den] using h
  | .tup ds, v, n, h => by
    simp only [noMut] at n
    simp only [Den] at h ⊢
    obtain ⟨a, xs, e, h1, h2⟩ := h
    exact ⟨a, xs, e, h1, noMutL_den ds xs n h2⟩
  | .lst ds, v, n, h => by simp only [noMut] at n; exact absurd n (by decide)
  | .dK ks ds, v, n, h => by simp only [noMut] at n; exact absurd n (by decide)
  | .dT ks ds, v, n, h => by simp only [noMut] at n; exact absurd n (by decide)
theorem noMutL_den : ∀ (ds : List PV) (xs : List V), noMutL ds = true → DenL K Fz H ds xs → DenL K Fz' H ds xs
  | [], xs, _, h => by simpa only [DenL] using h
  | d :: ds, xs, n, h => by
    simp only [noMutL, Bool.and_eq_true] at n
    simp only [DenL] at h ⊢
    obtain ⟨v, r, e, h1, h2⟩ := h
    exact ⟨v, r, e, noMut_den d v n.1 h1, noMutL_den ds r n.2 h2⟩
end
end
def noMutR : PV → Kd → Bool
  | .lst ds, .new => noMutL ds
  | .dK _ ds, .new => noMutL ds
  | .dT _ ds, .new => noMutL ds
  | d, _ => noMut d
theorem noMutR_opd {K : PySem.W.Frag} {Fz Fz' : FZ} {H H' : Hp} {d : PV} {k : Kd} {v : V} (n : noMutR d k = true) (hal : ∀ b, Fz' b → H b ≠ none) (h : Opd K Fz H' [] [] H d k v) : Opd K Fz' H' [] [] H d k v := by
  cases k with
  | frz =>
    have n' : noMut d = true := by cases d <;> exact n
    exact noMut_den d v n' h
  | own i => exact h
  | new =>
    obtain ⟨a, e, hn, _, o⟩ := h
    refine ⟨a, e, hn, fun z => hal a z hn, ?_⟩
    cases d with
    | lst ds => obtain ⟨xs, h1, h2⟩ := o; exact ⟨xs, h1, noMutL_den ds xs n h2⟩
    | dK ks ds => obtain ⟨xs, h1, h2, h3⟩ := o; exact ⟨xs, h1, h2, noMutL_den ds xs n h3⟩
    | dT ks ds => obtain ⟨xs, h1, h2, h3⟩ := o; exact ⟨xs, h1, h2, noMutL_den ds xs n h3⟩
    | non => exact o.elim
    | bl b => exact o.elim
    | int i => exact o.elim
    | str x => exact o.elim
    | ty n => exact o.elim
    | tup ds => exact o.elim
abbrev PF := List PV → (PV → Kd → Prop) → Prop
def MonoF (F : PF) : Prop := ∀ ds Q Q', (∀ d k, Q d k → Q' d k) → F ds Q → F ds Q'
def spP (K : PySem.W.Frag) (F : PF) : Sp := fun vs H Q _ => ∃ Fz ds, (∀ b, Fz b → H b ≠ none) ∧ DenL K Fz H ds vs ∧ F ds fun d k => ∀ v Fz' H', Post K [] [] Fz H Fz' H' d k v → Q v H'
theorem OpdL.all {K : PySem.W.Frag} {ρ : PEnv} {σ : St} {Fz Fz' : FZ} {H H' : Hp} (R : Rel K Fz ρ σ H) (x : Ext Fz H Fz' H') : ∀ {ops : List (PV × Kd)} {vs : List V}, OpdL K Fz' H' ρ σ H ops vs →
    ∃ Fz2, (∀ b, Fz' b → Fz2 b) ∧ (∀ b, Fz2 b → H' b ≠ none) ∧ DenL K Fz2 H' (ops.map (·.1)) vs
  | _, _, .nil => ⟨Fz', fun _ h => h, x.al, DenL.nil⟩
  | (d, k) :: ops, v :: vs, .cons h t => by
    obtain ⟨F2, s2, a2, h2⟩ := OpdL.all R x t
    have addr : ∀ a, v = .ref a → Own K Fz' H' d a → ∃ Fz2, (∀ b, Fz' b → Fz2 b) ∧ (∀ b, Fz2 b → H' b ≠ none) ∧ DenL K Fz2 H' ((d, k) :: ops |>.map (·.1)) (v :: vs) := fun a e o => by
      subst e
      refine ⟨fun b => F2 b ∨ b = a, fun b h => .inl (s2 b h), fun b hb => ?_, DenL.cons ?_ (DenL.mono (Keep.of (Same.refl _)) (fun b h => .inl h) _ _ h2)⟩
      · rcases hb with hb | rfl
        · exact a2 b hb
        · obtain ⟨o', e, _⟩ := o.at
          rw [e]; exact fun z => nomatch z
      · exact (o.mono (Fz' := fun b => F2 b ∨ b = a) (Keep.of (Same.refl _)) (fun b h => .inl (s2 b h)) (fun _ h => h)).den (.inr rfl)
    cases k with
    | frz => exact ⟨F2, s2, a2, DenL.cons (Den.mono (Keep.of (Same.refl _)) s2 _ _ h) h2⟩
    | new => obtain ⟨a, e, _, _, o⟩ := h; exact addr a e o
    | own i =>
      obtain ⟨h1, h2'⟩ := h
      obtain ⟨a, e, _, o⟩ := (R.ext x).own i d h1
      rw [h2'] at e; cases e
      exact addr a rfl o
def tCallP (F : PF) (t : TPA) : TPE := fun ρ Q => t ρ fun ops => F (ops.map (·.1)) fun d k => (noOwn ops = true ∨ noMutR d k = true) ∧ Q d k
section
variable {X : Cx} {k : Nat} {f : Addr} {fd : FuncData} {ps : List Str} {F : PF} {x : Str} {p pos : Pos} {e : Expr} {es : List Expr} {t : TPA}
theorem call_run {σ : St} {H : Hp} {Q : VK} (ha : PuA X es t) (m : MonoF F) (h : lift X.K (tCallP F t) σ H Q) : tCall (spP X.K F) [] E0 (liftA X.K t) σ H Q := by
  obtain ⟨ρ, Fz, R, h⟩ := h
  refine ⟨ρ, Fz, R, ha.mono ρ _ _ (fun ops h vs Fz' H' x o => ?_) h⟩
  show spP X.K F (vs ++ []) H' Q E0
  rw [List.append_nil]
  by_cases hn : noOwn ops = true
  · obtain ⟨F2, x2, s2, h2⟩ := o.frozen x hn
    refine ⟨F2, ops.map (·.1), x2.al, h2, m _ _ _ (fun d k q v Fz3 H3 p3 => ?_) h⟩
    exact q.2 v Fz3 H3 (p3.behind x2)
  · obtain ⟨F2, s2, a2, h2⟩ := o.all R x
    refine ⟨F2, ops.map (·.1), a2, h2, m _ _ _ (fun d k q v Fz3 H3 p3 => ?_) h⟩
    have nm : noMutR d k = true := q.1.resolve_left hn
    have al : ∀ b, Fz' b → H3 b ≠ none := fun b hb z => x.al b hb (p3.ext.same.free z)
    refine q.2 v Fz' H3 ⟨⟨x.same.trans p3.ext.same, x.sub, x.new, al⟩, ?_⟩
    exact ((noMutR_opd nm x.al p3.opd).up).back x.same
theorem pu_call (G : FnOk X.prog X.w X.K X.mg X.base CX0 k f fd ps (spP X.K F)) (m : MonoF F) (hr : Room k X.A) (hg : Gl X x) (hm : X.mg x = some (.ref f)) (hk : PySem.W.keepIn X.K (.ref f) = true) (hb : Binds X.K fd ps []) (ha : PuA X (e :: es) t)
    (hd : (x == ("__debug__" : Str)) = false := by decide) (he : starEach (e :: es) X.env = (false, eval e X.env) :: starEach es X.env := by rfl) (hpl : (backTo pos (starEach es X.env)).any (·.1) = false := by rfl) :
    PuE X (.Call (.Name x p) (e :: es) [] pos) (tCallP F t) where
  mono ρ Q Q' mm h := ha.mono ρ _ _ (fun ops h => m _ _ _ (fun d k q => ⟨q.1, mm _ _ q.2⟩) h) h
  run := PE.weak (pe_call G hr hg hm hk hb .nil pass0 ha.run hd he hpl) fun σ H Q h => call_run ha m h
end
structure PCall (K : PySem.W.Frag) (r : List V → Hp → VK → Prop) (p : PF) : Prop where
  mono : MonoF p
  run : ∀ Fz H ds vs Q, (∀ b, Fz b → H b ≠ none) → RootL K Fz H ds vs → p ds (fun z k => ∀ v Fz' H', Post K [] [] Fz H Fz' H' z k v → Q v H') → r vs H Q
def tB (p : PF) (t : TPA) : TPE := fun ρ Q => t ρ fun ops => p (ops.map (·.1)) Q
section
variable {X : Cx} {x : Str} {p pos : Pos} {e : Expr} {es : List Expr} {t : TPA} {id T : String} {r : List V → Hp → VK → Prop} {pf : PF}
theorem b_run {σ : St} {H : Hp} {Q : VK} (ha : PuA X es t) (m : PCall X.K r pf) (h : lift X.K (tB pf t) σ H Q) : tCB r (liftA X.K t) σ H Q := by
  obtain ⟨ρ, Fz, R, h⟩ := h
  refine ⟨ρ, Fz, R, ha.mono ρ _ _ (fun ops h vs Fz' H' x o => ?_) h⟩
  exact m.run Fz' H' _ vs Q x.al (o.root R x) (m.mono _ _ _ (fun d k q v Fz3 H3 p3 => q v Fz3 H3 (p3.behind x)) h)
theorem pu_callB (hc : CallR X (.builtin id) r) (m : PCall X.K r pf) (hg : Gl X x) (hm : X.mg x = none) (hv : bootBuiltins x = some (.builtin id)) (ha : PuA X (e :: es) t) (hn : x ≠ "__name__" := by decide) (hdb : (x == ("__debug__" : Str)) = false := by decide)
    (he : starEach (e :: es) X.env = (false, eval e X.env) :: starEach es X.env := by rfl) (hpl : (backTo pos (starEach es X.env)).any (·.1) = false := by rfl) : PuE X (.Call (.Name x p) (e :: es) [] pos) (tB pf t) where
  mono ρ Q Q' mm h := ha.mono ρ _ _ (fun ops h => m.mono _ _ _ mm h) h
  run := PE.weak (pe_callB hc hg hm hv ha.run hn hdb he hpl) fun σ H Q h => b_run ha m h
theorem pu_callTy (hc : CallR X (.type T) r) (m : PCall X.K r pf) (hg : Gl X x) (hm : X.mg x = none) (hv : bootBuiltins x = some (.type T)) (ha : PuA X (e :: es) t) (hn : x ≠ "__name__" := by decide) (hdb : (x == ("__debug__" : Str)) = false := by decide)
    (he : starEach (e :: es) X.env = (false, eval e X.env) :: starEach es X.env := by rfl) (hpl : (backTo pos (starEach es X.env)).any (·.1) = false := by rfl) : PuE X (.Call (.Name x p) (e :: es) [] pos) (tB pf t) where
  mono ρ Q Q' mm h := ha.mono ρ _ _ (fun ops h => m.mono _ _ _ mm h) h
  run := PE.weak (pe_callTy hc hg hm hv ha.run hn hdb he hpl) fun σ H Q h => b_run ha m h
end
end PL
set_option Elab.async false
set_option linter.all false
set_option maxRecDepth 100000
set_option maxHeartbeats 4000000
namespace PL
open PySem PySem.Spec L2
open PyProof.Rows hiding St
structure POut where
  nx : PEnv → Prop
  rt : PV → Kd → Prop
  bk : PEnv → Prop
  ct : PEnv → Prop
structure POut.le (O O' : POut) : Prop where
  nx : ∀ ρ, O.nx ρ → O'.nx ρ
  rt : ∀ d k, O.rt d k → O'.rt d k
  bk : ∀ ρ, O.bk ρ → O'.bk ρ
  ct : ∀ ρ, O.ct ρ → O'.ct ρ
abbrev TPS := PEnv → POut → Prop
def Hold (t : TPS) (O : POut) (ρ : PEnv) : Prop := t ρ O
def HoldT (c : TPT) (ρ : PEnv) (Q : Bool → Prop) : Prop := c ρ Q
theorem holdT {c : TPT} {ρ : PEnv} {Q : Bool → Prop} (h : c ρ Q) : HoldT c ρ Q := h
theorem hold {t : TPS} {O : POut} {ρ : PEnv} (h : t ρ O) : Hold t O ρ := h
structure Step (ρ : PEnv) (σ : St) (Fz : FZ) (H : Hp) (Fz' : FZ) (H' : Hp) : Prop where
  sub : ∀ b, Fz b → Fz' b
  new : ∀ b, Fz' b → Fz b ∨ H b = none ∨ Owned ρ σ b
  keep : ∀ b o, H b = some o → ¬ Owned ρ σ b → H' b = some o
def OwnIn (ρ : PEnv) (σ : St) (H : Hp) (ρ' : PEnv) (σ' : St) : Prop := ∀ b, Owned ρ' σ' b → Owned ρ σ b ∨ H b = none
theorem Step.of {ρ : PEnv} {σ : St} {Fz Fz' : FZ} {H H' : Hp} (x : Ext Fz H Fz' H') : Step ρ σ Fz H Fz' H' :=
  ⟨x.sub, fun b h => (x.new b h).elim .inl (fun h => .inr (.inl h)), fun b o e _ => x.same b o e⟩
theorem Step.none {ρ : PEnv} {σ : St} {Fz Fz' : FZ} {H H' : Hp} (s : Step ρ σ Fz H Fz' H') {b : Addr} (h : H' b = Option.none) : H b = Option.none ∨ Owned ρ σ b := by
  by_cases o : Owned ρ σ b
  · exact .inr o
  · cases e : H b with
    | none => exact .inl rfl
    | some u => rw [s.keep b u e o] at h; cases h
theorem Step.trans {ρ ρ' : PEnv} {σ σ' : St} {F1 F2 F3 : FZ} {H1 H2 H3 : Hp} (a : Step ρ σ F1 H1 F2 H2) (oi : OwnIn ρ σ H1 ρ' σ') (b : Step ρ' σ' F2 H2 F3 H3) : Step ρ σ F1 H1 F3 H3 :=
  ⟨fun c h => b.sub c (a.sub c h), fun c h => by
    rcases b.new c h with h | h | h
    · exact a.new c h
    · exact .inr (a.none h)
    · exact .inr ((oi c h).symm), fun c o e n => by
    refine b.keep c o (a.keep c o e n) fun z => ?_
    rcases oi c z with z | z
    · exact n z
    · rw [e] at z; cases z⟩
theorem OwnIn.trans {ρ ρ' ρ'' : PEnv} {σ σ' σ'' : St} {F1 F2 : FZ} {H1 H2 : Hp} (a : Step ρ σ F1 H1 F2 H2) (oi : OwnIn ρ σ H1 ρ' σ') (oj : OwnIn ρ' σ' H2 ρ'' σ'') : OwnIn ρ σ H1 ρ'' σ'' := fun c h => by
  rcases oj c h with h | h
  · exact oi c h
  · exact (a.none h).symm
theorem OwnIn.refl (ρ : PEnv) (σ : St) (H : Hp) : OwnIn ρ σ H ρ σ := fun _ h => .inl h
def Ret (K : PySem.W.Frag) (ρ : PEnv) (σ : St) (H : Hp) (Fz' : FZ) (H' : Hp) (d : PV) : Kd → V → Prop
  | .frz, v => Den K Fz' H' d v
  | .new, v => ∃ a, v = .ref a ∧ ¬ Fz' a ∧ Own K Fz' H' d a ∧ (Owned ρ σ a ∨ H a = none)
  | .own _, _ => False
def outOf (K : PySem.W.Frag) (D : Ends) (ρ : PEnv) (σ : St) (Fz : FZ) (H : Hp) : POut where
  nx := fun ρ' => ∀ σ' Fz' H', Step ρ σ Fz H Fz' H' → OwnIn ρ σ H ρ' σ' → Rel K Fz' ρ' σ' H' → D.nx σ' H'
  bk := fun ρ' => ∀ σ' Fz' H', Step ρ σ Fz H Fz' H' → OwnIn ρ σ H ρ' σ' → Rel K Fz' ρ' σ' H' → D.bk σ' H'
  ct := fun ρ' => ∀ σ' Fz' H', Step ρ σ Fz H Fz' H' → OwnIn ρ σ H ρ' σ' → Rel K Fz' ρ' σ' H' → D.ct σ' H'
  rt := fun d k => ∀ v Fz' H', Step ρ σ Fz H Fz' H' → (∀ b, Fz' b → H' b ≠ none) → Ret K ρ σ H Fz' H' d k v → D.rt v H'
def liftS (K : PySem.W.Frag) (t : TPS) : TS := fun D σ H => ∃ ρ Fz, Rel K Fz ρ σ H ∧ t ρ (outOf K D ρ σ Fz H)
structure PuS (X : Cx) (st : Stmt) (t : TPS) : Prop where
  mono : ∀ ρ O O', O.le O' → t ρ O → t ρ O'
  run : PS X st (liftS X.K t)
structure PuSs (X : Cx) (st : List Stmt) (t : TPS) : Prop where
  mono : ∀ ρ O O', O.le O' → t ρ O → t ρ O'
  run : PSs X st (liftS X.K t)
theorem PS.weak {X : Cx} {e : Stmt} {t t' : TS} (h : PS X e t) (w : ∀ D σ H, t' D σ H → t D σ H) : PS X e t' := fun pins s σ H D I q => h pins s σ H D I (w D σ H q)
theorem PSs.weak {X : Cx} {e : List Stmt} {t t' : TS} (h : PSs X e t) (w : ∀ D σ H, t' D σ H → t D σ H) : PSs X e t' := fun pins s σ H D I q => h pins s σ H D I (w D σ H q)
theorem outOf_le {K : PySem.W.Frag} {D D' : Ends} {ρ ρ' : PEnv} {σ σ' : St} {Fz Fz' : FZ} {H H' : Hp} (s : Step ρ σ Fz H Fz' H') (oi : OwnIn ρ σ H ρ' σ') (h1 : ∀ σ H, D.nx σ H → D'.nx σ H) (h2 : ∀ v H, D.rt v H → D'.rt v H) (h3 : ∀ σ H, D.bk σ H → D'.bk σ H) (h4 : ∀ σ H, D.ct σ H → D'.ct σ H) :
    (outOf K D ρ σ Fz H).le (outOf K D' ρ' σ' Fz' H') where
  nx ρ2 q σ2 F2 H2 s2 o2 R2 := h1 _ _ (q σ2 F2 H2 (s.trans oi s2) (OwnIn.trans s oi o2) R2)
  bk ρ2 q σ2 F2 H2 s2 o2 R2 := h3 _ _ (q σ2 F2 H2 (s.trans oi s2) (OwnIn.trans s oi o2) R2)
  ct ρ2 q σ2 F2 H2 s2 o2 R2 := h4 _ _ (q σ2 F2 H2 (s.trans oi s2) (OwnIn.trans s oi o2) R2)
  rt d k q v F2 H2 s2 al r := h2 _ _ (q v F2 H2 (s.trans oi s2) al (by
    cases k with
    | frz => exact r
    | own i => exact r
    | new =>
      obtain ⟨a, e, nf, o, w⟩ := r
      refine ⟨a, e, nf, o, ?_⟩
      rcases w with w | w
      · exact oi a w
      · exact (s.none w).symm))
theorem outOf_le' {K : PySem.W.Frag} {D : Ends} {ρ ρ' : PEnv} {σ σ' : St} {Fz Fz' : FZ} {H H' : Hp} (s : Step ρ σ Fz H Fz' H') (oi : OwnIn ρ σ H ρ' σ') : (outOf K D ρ σ Fz H).le (outOf K D ρ' σ' Fz' H') :=
  outOf_le s oi (fun _ _ h => h) (fun _ _ h => h) (fun _ _ h => h) (fun _ _ h => h)
section
variable {X : Cx} {st : Stmt} {rest : List Stmt} {t u : TPS} {e : Expr} {te : TPE} {pos : Pos}
def pNext : TPS := fun ρ O => O.nx ρ
def pSeq (t u : TPS) : TPS := fun ρ O => t ρ { O with nx := Hold u O }
theorem puss_nil : PuSs X [] pNext where
  mono ρ O O' m h := m.nx _ h
  run := PSs.weak pss_nil fun D σ H h => by
    obtain ⟨ρ, Fz, R, h⟩ := h
    exact h σ Fz H (.of ⟨Same.refl H, fun _ h => h, fun _ h => .inl h, R.al⟩) (OwnIn.refl ρ σ H) R
theorem puss_one (h1 : PuS X st t) : PuSs X [st] t := ⟨h1.mono, pss_one h1.run⟩
theorem puss_cons (h1 : PuS X st t) (h2 : PuSs X rest u) : PuSs X (st :: rest) (pSeq t u) where
  mono ρ O O' m h := h1.mono ρ { O with nx := fun ρ' => u ρ' O } _ ⟨fun ρ' q => h2.mono ρ' _ _ m q, m.rt, m.bk, m.ct⟩ h
  run := PSs.weak (pss_cons h1.run h2.run) fun D σ H h => by
    obtain ⟨ρ, Fz, R, h⟩ := h
    refine ⟨ρ, Fz, R, h1.mono ρ { outOf X.K D ρ σ Fz H with nx := fun ρ' => u ρ' (outOf X.K D ρ σ Fz H) } _ ⟨fun ρ' q => ?_, fun _ _ q => q, fun _ q => q, fun _ q => q⟩ h⟩
    intro σ' Fz' H' s oi R'
    exact ⟨ρ', Fz', R', h2.mono ρ' _ _ (outOf_le' s oi) q⟩
def pBreak : TPS := fun ρ O => O.bk ρ
def pCont : TPS := fun ρ O => O.ct ρ
def pDrop (te : TPE) : TPS := fun ρ O => te ρ fun _ _ => O.nx ρ
def pRet (te : TPE) : TPS := fun ρ O => te ρ fun d k => O.rt d (match k with | .frz => .frz | _ => .new)
theorem pus_ret (he : PuE X e te) : PuS X (.Return (some e) pos) (pRet te) where
  mono ρ O O' m h := he.mono ρ _ _ (fun _ _ q => m.rt _ _ q) h
  run := PS.weak (ps_ret he.run) fun D σ H h => by
    obtain ⟨ρ, Fz, R, h⟩ := h
    refine ⟨ρ, Fz, R, he.mono ρ _ _ (fun d k q v Fz' H' p => q v Fz' H' (.of p.ext) p.ext.al ?_) h⟩
    cases k with
    | frz => exact p.opd
    | new => obtain ⟨a, e, hn, nf, o⟩ := p.opd; exact ⟨a, e, nf, o, .inr hn⟩
    | own i =>
      obtain ⟨h1, h2⟩ := p.opd
      obtain ⟨a, e, nf, o⟩ := (R.ext p.ext).own i d h1
      rw [h2] at e; cases e
      exact ⟨a, rfl, nf, o, .inl ⟨i, d, h1, h2⟩⟩
def pRetN : TPS := fun ρ O => O.rt .non .frz
def pIf (c : TPT) (t u : TPS) : TPS := fun ρ O => c ρ fun b => if b = true then Hold t O ρ else Hold u O ρ
theorem pus_if {c : Expr} {a b : List Stmt} {tc : TPT} (hc : PuT X c tc) (ha : PuSs X a t) (hb : PuSs X b u) : PuS X (.If c a b pos) (pIf tc t u) where
  mono ρ O O' m h := hc.mono ρ _ _ (fun d q => by
    cases d with
    | true => rw [if_pos rfl] at q ⊢; exact ha.mono ρ _ _ m q
    | false => rw [if_neg Bool.false_ne_true] at q ⊢; exact hb.mono ρ _ _ m q) h
  run := PS.weak (ps_if hc.run ha.run hb.run) fun D σ H h => by
    obtain ⟨ρ, Fz, R, h⟩ := h
    refine ⟨ρ, Fz, R, hc.mono ρ _ _ (fun d q Fz' H' x => ?_) h⟩
    cases d with
    | true =>
      rw [if_pos rfl] at q ⊢
      exact ⟨ρ, Fz', R.ext x, ha.mono ρ _ _ (outOf_le' (.of x) (OwnIn.refl ρ σ H)) q⟩
    | false =>
      rw [if_neg Bool.false_ne_true] at q ⊢
      exact ⟨ρ, Fz', R.ext x, hb.mono ρ _ _ (outOf_le' (.of x) (OwnIn.refl ρ σ H)) q⟩
def frzAt (i : Nat) (ρ : PEnv) : PEnv := match ρ[i]? with
  | some (some (d, true)) => ρ.set i (some (d, false))
  | _ => ρ
def pFrz (i : Nat) (t : TPS) : TPS := fun ρ O => t (frzAt i ρ) O
end
section
variable {K : PySem.W.Frag} {Fz : FZ} {ρ : PEnv} {σ : St} {H : Hp}
theorem Rel.set {i : Nat} {d : PV} {v : V} (R : Rel K Fz ρ σ H) (h : Den K Fz H d v) : Rel K Fz (ρ.set i (some (d, false))) (σ.set i (some v)) H where
  al := R.al
  len := by rw [List.length_set, List.length_set]; exact R.len
  frz j e he := by
    by_cases hij : i = j
    · subst hij
      by_cases hi : i < ρ.length
      · rw [List.getElem?_set_self hi] at he
        cases he
        exact ⟨v, by rw [List.getElem?_set_self (by rw [← R.len]; exact hi)], h⟩
      · rw [List.set_eq_of_length_le (by omega), List.getElem?_eq_none (by omega)] at he; cases he
    · rw [List.getElem?_set_ne hij] at he ⊢
      exact R.frz j e he
  own j e he := by
    by_cases hij : i = j
    · subst hij
      by_cases hi : i < ρ.length
      · rw [List.getElem?_set_self hi] at he; cases he
      · rw [List.set_eq_of_length_le (by omega), List.getElem?_eq_none (by omega)] at he; cases he
    · rw [List.getElem?_set_ne hij] at he ⊢
      exact R.own j e he
  inj j k d' e a h1 h2 h3 h4 := by
    have nj : i ≠ j := fun z => by
      subst z
      by_cases hi : i < ρ.length
      · rw [List.getElem?_set_self hi] at h1; cases h1
      · rw [List.set_eq_of_length_le (by omega), List.getElem?_eq_none (by omega)] at h1; cases h1
    have nk : i ≠ k := fun z => by
      subst z
      by_cases hi : i < ρ.length
      · rw [List.getElem?_set_self hi] at h2; cases h2
      · rw [List.set_eq_of_length_le (by omega), List.getElem?_eq_none (by omega)] at h2; cases h2
    rw [List.getElem?_set_ne nj] at h1 h3
    rw [List.getElem?_set_ne nk] at h2 h4
    exact R.inj j k d' e a h1 h2 h3 h4
theorem own_set {i : Nat} {d : PV} {v : V} : ∀ b, Owned (ρ.set i (some (d, false))) (σ.set i (some v)) b → Owned ρ σ b := fun b ⟨j, e, h1, h2⟩ => by
  have nj : i ≠ j := fun z => by
    subst z
    by_cases hi : i < ρ.length
    · rw [List.getElem?_set_self hi] at h1; cases h1
    · rw [List.set_eq_of_length_le (by omega), List.getElem?_eq_none (by omega)] at h1; cases h1
  rw [List.getElem?_set_ne nj] at h1 h2
  exact ⟨j, e, h1, h2⟩
theorem Rel.setNew {i : Nat} {d : PV} {a : Addr} (R : Rel K Fz ρ σ H) (nf : ¬ Fz a) (h : Own K Fz H d a) (hno : ¬ Owned ρ σ a) : Rel K Fz (ρ.set i (some (d, true))) (σ.set i (some (.ref a))) H where
  al := R.al
  len := by rw [List.length_set, List.length_set]; exact R.len
  frz j e he := by
    by_cases hij : i = j
    · subst hij
      by_cases hi : i < ρ.length
      · rw [List.getElem?_set_self hi] at he; cases he
      · rw [List.set_eq_of_length_le (by omega), List.getElem?_eq_none (by omega)] at he; cases he
    · rw [List.getElem?_set_ne hij] at he ⊢
      exact R.frz j e he
  own j e he := by
    by_cases hij : i = j
    · subst hij
      by_cases hi : i < ρ.length
      · rw [List.getElem?_set_self hi] at he
        cases he
        exact ⟨a, by rw [List.getElem?_set_self (by rw [← R.len]; exact hi)], nf, h⟩
      · rw [List.set_eq_of_length_le (by omega), List.getElem?_eq_none (by omega)] at he; cases he
    · rw [List.getElem?_set_ne hij] at he ⊢
      exact R.own j e he
  inj j k d' e b h1 h2 h3 h4 := by
    by_cases hj : i = j
    · by_cases hk : i = k
      · rw [← hj, ← hk]
      · subst hj
        rw [List.getElem?_set_ne hk] at h2 h4
        by_cases hi : i < σ.length
        · rw [List.getElem?_set_self hi] at h3
          cases h3
          exact absurd ⟨k, e, h2, h4⟩ hno
        · rw [List.set_eq_of_length_le (by omega), List.getElem?_eq_none (by omega)] at h3; cases h3
    · by_cases hk : i = k
      · subst hk
        rw [List.getElem?_set_ne hj] at h1 h3
        by_cases hi : i < σ.length
        · rw [List.getElem?_set_self hi] at h4
          cases h4
          exact absurd ⟨j, d', h1, h3⟩ hno
        · rw [List.set_eq_of_length_le (by omega), List.getElem?_eq_none (by omega)] at h4; cases h4
      · rw [List.getElem?_set_ne hj] at h1 h3
        rw [List.getElem?_set_ne hk] at h2 h4
        exact R.inj j k d' e b h1 h2 h3 h4
theorem own_setNew {i : Nat} {d : PV} {a : Addr} : ∀ b, Owned (ρ.set i (some (d, true))) (σ.set i (some (.ref a))) b → b = a ∨ Owned ρ σ b := fun b ⟨j, e, h1, h2⟩ => by
  by_cases hij : i = j
  · subst hij
    by_cases hi : i < σ.length
    · rw [List.getElem?_set_self hi] at h2; cases h2; exact .inl rfl
    · rw [List.set_eq_of_length_le (by omega), List.getElem?_eq_none (by omega)] at h2; cases h2
  · rw [List.getElem?_set_ne hij] at h1 h2
    exact .inr ⟨j, e, h1, h2⟩
theorem Rel.frozen {i : Nat} (R : Rel K Fz ρ σ H) : ∃ Fz', Rel K Fz' (frzAt i ρ) σ H ∧ Step ρ σ Fz H Fz' H ∧ OwnIn ρ σ H (frzAt i ρ) σ := by
  unfold frzAt
  split
  · rename_i d he
    obtain ⟨a, e, nf, o⟩ := R.own i d he
    have R2 : Rel K (fun b => Fz b ∨ b = a) (ρ.set i (some (d, false))) (σ.set i (some (.ref a))) H := by
      have hno : ∀ j d', i ≠ j → ρ[j]? = some (some (d', true)) → σ[j]? ≠ some (some (.ref a)) := fun j d' hne h1 h2 => hne (R.inj i j d d' a he h1 e h2)
      have hal : ∀ b, (Fz b ∨ b = a) → H b ≠ none := fun b hb => by
        rcases hb with hb | rfl
        · exact R.al b hb
        · obtain ⟨o', q, _⟩ := o.at
          rw [q]; exact fun z => nomatch z
      refine ⟨hal, by rw [List.length_set, List.length_set]; exact R.len, fun j e' he' => ?_, fun j e' he' => ?_, fun j k d' e' b h1 h2 h3 h4 => ?_⟩
      · by_cases hij : i = j
        · subst hij
          have hi : i < ρ.length := (List.getElem?_eq_some_iff.mp he).1
          rw [List.getElem?_set_self hi] at he'
          cases he'
          exact ⟨_, by rw [List.getElem?_set_self (by rw [← R.len]; exact hi)], (o.mono (Fz' := fun b => Fz b ∨ b = a) (Keep.of (Same.refl _)) (fun _ h => .inl h) (fun _ h => h)).den (.inr rfl)⟩
        · rw [List.getElem?_set_ne hij] at he' ⊢
          obtain ⟨v, q1, q2⟩ := R.frz j e' he'
          exact ⟨v, q1, Den.mono (Keep.of (Same.refl _)) (fun _ h => .inl h) _ _ q2⟩
      · have hij : i ≠ j := fun z => by
          subst z
          have hi : i < ρ.length := (List.getElem?_eq_some_iff.mp he).1
          rw [List.getElem?_set_self hi] at he'; cases he'
        rw [List.getElem?_set_ne hij] at he' ⊢
        obtain ⟨b, q1, q2, q3⟩ := R.own j e' he'
        refine ⟨b, q1, fun z => ?_, q3.mono (Keep.of (Same.refl _)) (fun _ h => .inl h) (fun _ h => h)⟩
        rcases z with z | z
        · exact q2 z
        · subst z; exact hno j e' hij he' q1
      · have hi : i < ρ.length := (List.getElem?_eq_some_iff.mp he).1
        have nj : i ≠ j := fun z => by subst z; rw [List.getElem?_set_self hi] at h1; cases h1
        have nk : i ≠ k := fun z => by subst z; rw [List.getElem?_set_self hi] at h2; cases h2
        rw [List.getElem?_set_ne nj] at h1 h3
        rw [List.getElem?_set_ne nk] at h2 h4
        exact R.inj j k d' e' b h1 h2 h3 h4
    have es : σ.set i (some (.ref a)) = σ := List.ext_getElem? fun j => by
      by_cases hij : i = j
      · subst hij
        rw [List.getElem?_set_self (List.getElem?_eq_some_iff.mp e).1, e]
      · rw [List.getElem?_set_ne hij]
    refine ⟨fun b => Fz b ∨ b = a, by rw [es] at R2; exact R2, ⟨fun _ h => .inl h, fun b hb => ?_, fun b o e _ => e⟩, fun b hb => ?_⟩
    · rcases hb with hb | rfl
      · exact .inl hb
      · exact .inr (.inr ⟨i, d, he, e⟩)
    · have := own_set (ρ := ρ) (σ := σ) (i := i) (d := d) (v := .ref a) b (by rw [es]; exact hb)
      exact .inl this
  · exact ⟨Fz, R, .of ⟨Same.refl H, fun _ h => h, fun _ h => .inl h, R.al⟩, OwnIn.refl ρ σ H⟩
end
section
variable {X : Cx} {st : Stmt} {sts : List Stmt} {t : TPS}
theorem pus_frz (i : Nat) (h : PuS X st t) : PuS X st (pFrz i t) where
  mono ρ O O' m q := h.mono _ _ _ m q
  run := PS.weak h.run fun D σ H q => by
    obtain ⟨ρ, Fz, R, q⟩ := q
    obtain ⟨F2, R2, s2, o2⟩ := R.frozen (i := i)
    exact ⟨_, F2, R2, h.mono _ _ _ (outOf_le' s2 o2) q⟩
end
def pSet (i : Nat) (te : TPE) : TPS := fun ρ O => te ρ fun d k => match k with
  | .frz => O.nx (ρ.set i (some (d, false)))
  | .new => O.nx (ρ.set i (some (d, true)))
  | .own _ => False
theorem set_lift {X : Cx} {e : Expr} {te : TPE} {i : Nat} (he : PuE X e te) {D : Ends} {σ : St} {H : Hp} (h : liftS X.K (pSet i te) D σ H) : tAsg (lift X.K te) (gName i) D σ H := by
  obtain ⟨ρ, Fz, R, h⟩ := h
  refine ⟨ρ, Fz, R, he.mono ρ _ _ (fun d k q v Fz' H' p => ?_) h⟩
  show D.nx (σ.set i (some v)) H'
  have R' := R.ext p.ext
  cases k with
  | frz => exact (show (outOf X.K D ρ σ Fz H).nx (ρ.set i (some (d, false))) from q) _ Fz' H' (.of p.ext) (fun b hb => .inl (own_set b hb)) (R'.set p.opd)
  | own j => exact q.elim
  | new =>
    obtain ⟨a, e, hn, nf, o⟩ := p.opd
    subst e
    have hno : ¬ Owned ρ σ a := fun ⟨j, e, h1, h2⟩ => by
      obtain ⟨b, q1, _, q2⟩ := R.own j e h1
      rw [h2] at q1; cases q1
      obtain ⟨o', q3, _⟩ := q2.at
      rw [hn] at q3; cases q3
    refine (show (outOf X.K D ρ σ Fz H).nx (ρ.set i (some (d, true))) from q) _ Fz' H' (.of p.ext) (fun b hb => ?_) (R'.setNew nf o hno)
    rcases own_setNew b hb with rfl | hb
    · exact .inr hn
    · exact .inl hb
theorem pSet_mono {X : Cx} {e : Expr} {te : TPE} {i : Nat} (he : PuE X e te) : ∀ ρ O O', POut.le O O' → pSet i te ρ O → pSet i te ρ O' := fun ρ O O' m h => he.mono ρ _ _ (fun d k q => by
  cases k with
  | frz => exact m.nx _ q
  | new => exact m.nx _ q
  | own j => exact q) h
section
variable {X : Cx} {e : Expr} {te : TPE} {pos : Pos}
theorem pus_set {i : Nat} {x : Str} {pos' : Pos} (hN : X.N.Nodup) (hi : X.N[i]? = some x) (hx : Loc X.env.scope x) (he : PuE X e te) (hs : swapsWith e (some (.Name x pos')) pos.line X.env = pure false := by rfl) (hf : X.fn x = true ∨ X.env.scope.names.lookup x = some .local := by first | exact .inl rfl | exact .inr rfl | assumption) :
    PuS X (.Assign [.Name x pos'] e pos) (pSet i te) :=
  ⟨pSet_mono he, PS.weak (ps_set hN hi hx he.run hs hf) fun _ _ _ h => set_lift he h⟩
end
end PL
set_option Elab.async false
set_option linter.all false
set_option maxRecDepth 100000
set_option maxHeartbeats 4000000
namespace PL
open PySem PySem.Spec L2
open PyProof.Rows hiding St
abbrev TPG := PV → PEnv → (PEnv → Prop) → Prop
abbrev TPGs := List PV → PEnv → (PEnv → Prop) → Prop
def liftG (K : PySem.W.Frag) (t : TPG) : TG := fun v σ H Q => ∃ ρ Fz d, Rel K Fz ρ σ H ∧ Den K Fz H d v ∧ t d ρ fun ρ' => ∀ σ', Rel K Fz ρ' σ' H → (∀ b, Owned ρ' σ' b → Owned ρ σ b) → Q σ' H
def liftGs (K : PySem.W.Frag) (t : TPGs) : TGs := fun vs σ H Q => ∃ ρ Fz ds, Rel K Fz ρ σ H ∧ DenL K Fz H ds vs ∧ t ds ρ fun ρ' => ∀ σ', Rel K Fz ρ' σ' H → (∀ b, Owned ρ' σ' b → Owned ρ σ b) → Q σ' H
structure PuG (X : Cx) (tg : Expr) (t : TPG) : Prop where
  mono : ∀ d ρ Q Q', (∀ ρ, Q ρ → Q' ρ) → t d ρ Q → t d ρ Q'
  run : PG X tg (liftG X.K t)
structure PuGs (X : Cx) (tgs : List Expr) (t : TPGs) : Prop where
  mono : ∀ ds ρ Q Q', (∀ ρ, Q ρ → Q' ρ) → t ds ρ Q → t ds ρ Q'
  run : PGs X tgs (liftGs X.K t)
theorem PG.weak {X : Cx} {e : Expr} {t t' : TG} (h : PG X e t) (w : ∀ v σ H Q, t' v σ H Q → t v σ H Q) : PG X e t' := fun pins s σ H v u Q I r q => h pins s σ H v u Q I r (w v σ H Q q)
theorem PGs.weak {X : Cx} {e : List Expr} {t t' : TGs} (h : PGs X e t) (w : ∀ v σ H Q, t' v σ H Q → t v σ H Q) : PGs X e t' := fun pins s σ H v u Q I r q => h pins s σ H v u Q I r (w v σ H Q q)
def gNameP (i : Nat) : TPG := fun d ρ Q => Q (ρ.set i (some (d, false)))
def gNilP : TPGs := fun ds ρ Q => ds = [] ∧ Q ρ
def gConsP (t : TPG) (u : TPGs) : TPGs := fun ds ρ Q => ∃ d r, ds = d :: r ∧ t d ρ fun ρ' => u r ρ' Q
def gTupP (n : Nat) (t : TPGs) : TPG := fun d ρ Q => ∃ ds, d = .tup ds ∧ ds.length = n ∧ t ds ρ Q
section
variable {X : Cx} {pos : Pos}
theorem pug_name {i : Nat} {x : Str} (hN : X.N.Nodup) (hi : X.N[i]? = some x) (hx : Loc X.env.scope x) (hf : X.fn x = true ∨ X.env.scope.names.lookup x = some .local := by first | exact .inl rfl | exact .inr rfl | assumption) : PuG X (.Name x pos) (gNameP i) where
  mono d ρ Q Q' m h := m _ h
  run := PG.weak (pg_name hN hi hx hf) fun v σ H Q h => by
    obtain ⟨ρ, Fz, d, R, hd, h⟩ := h
    exact h _ (R.set hd) (fun b hb => own_set b hb)
theorem pugs_nil : PuGs X [] gNilP where
  mono d ρ Q Q' m h := ⟨h.1, m _ h.2⟩
  run := PGs.weak pgs_nil fun v σ H Q h => by
    obtain ⟨ρ, Fz, ds, R, hd, e, h⟩ := h
    subst e
    simp only [DenL] at hd
    exact ⟨hd, h σ R (fun _ h => h)⟩
theorem pugs_cons {e : Expr} {es : List Expr} {t : TPG} {u : TPGs} (h1 : PuG X e t) (h2 : PuGs X es u)
    (hs : (assignEach (e :: es) X.env).map (·.2) = assign e X.env :: (assignEach es X.env).map (·.2) := by rfl) : PuGs X (e :: es) (gConsP t u) where
  mono ds ρ Q Q' m h := by
    obtain ⟨d, r, e, h⟩ := h
    exact ⟨d, r, e, h1.mono d ρ _ _ (fun ρ' q => h2.mono r ρ' _ _ m q) h⟩
  run := PGs.weak (pgs_cons h1.run h2.run hs) fun vs σ H Q h => by
    obtain ⟨ρ, Fz, ds, R, hd, d, r, e, h⟩ := h
    subst e
    simp only [DenL] at hd
    obtain ⟨v, rs, e, d1, d2⟩ := hd
    subst e
    refine ⟨v, rs, rfl, ρ, Fz, d, R, d1, h1.mono d ρ _ _ (fun ρ' q σ' R' o' => ?_) h⟩
    exact ⟨ρ', Fz, r, R', d2, h2.mono r ρ' _ _ (fun ρ2 q σ2 R2 o2 => q σ2 R2 (fun b hb => o' b (o2 b hb))) q⟩
theorem pug_tup {es : List Expr} {k : Nat} {t : TPGs} {n : Nat} (hc : X.calm = true) (h : PuGs X es t)
    (hn : (assignEach es X.env).length = n := by rfl) (hst : (assignEach es X.env).findIdx? (·.1) = none := by rfl) : PuG X (.Tuple es k pos) (gTupP n t) where
  mono d ρ Q Q' m q := by
    obtain ⟨ds, e, l, q⟩ := q
    exact ⟨ds, e, l, h.mono ds ρ _ _ m q⟩
  run := PG.weak (pg_tup hc h.run hn hst) fun v σ H Q q => by
    obtain ⟨ρ, Fz, d, R, hd, ds, e, l, q⟩ := q
    subst e
    simp only [Den] at hd
    obtain ⟨a, xs, e, h1, h2⟩ := hd
    have hl := h2.length
    exact ⟨a, xs, e, h1, by omega, ρ, Fz, ds, R, h2, q⟩
end
def LocG (k : Nat) (t : TPG) : Prop := ∀ d ρ Q, t d ρ Q → t d ρ fun ρ' => Q ρ' ∧ ρ'.length = ρ.length ∧ ∀ j, k ≤ j → ρ'[j]? = ρ[j]?
def LocGs (k : Nat) (t : TPGs) : Prop := ∀ d ρ Q, t d ρ Q → t d ρ fun ρ' => Q ρ' ∧ ρ'.length = ρ.length ∧ ∀ j, k ≤ j → ρ'[j]? = ρ[j]?
theorem loc_name {k i : Nat} (h : i < k) : LocG k (gNameP i) := fun d ρ Q q => ⟨q, by rw [List.length_set], fun j hj => by rw [List.getElem?_set_ne (by omega)]⟩
theorem loc_tup {k n : Nat} {t : TPGs} (h : LocGs k t) : LocG k (gTupP n t) := fun d ρ Q q => by
  obtain ⟨ds, e, l, q⟩ := q
  exact ⟨ds, e, l, h ds ρ _ q⟩
def pUnp (te : TPE) (g : TPG) : TPS := fun ρ O => te ρ fun d k => k = .frz ∧ g d ρ fun ρ' => O.nx ρ'
abbrev TPI := PEnv → (List PV → Bool → Prop) → Prop
def Walk (K : PySem.W.Frag) (Fz : FZ) (o : Bool) (J : It) (its : List PV) (H : Hp) : Prop := ∀ H2, (Same H H2 ∨ (o = false ∧ KeepX Fz H H2)) → ∀ i : Nat,
  (∀ d, its[i]? = some d → J.go i H2 ∧ ∀ x H3, J.yld i H2 x H3 → Same H2 H3 ∧ Den K Fz H3 d x) ∧ (its.length ≤ i → J.stop i H2)
def liftI (K : PySem.W.Frag) (t : TPI) : TI := fun σ H R => ∃ ρ Fz, Rel K Fz ρ σ H ∧ t ρ fun its o => ∀ J Fz' H', Ext Fz H Fz' H' → Walk K Fz' o J its H' → R J H'
structure PuI (X : Cx) (tg iter : Expr) (t : TPI) : Prop where
  mono : ∀ ρ Q Q', (∀ its o, Q its o → Q' its o) → t ρ Q → t ρ Q'
  run : PI X tg iter (liftI X.K t)
theorem PI.weak {X : Cx} {tg e : Expr} {t t' : TI} (h : PI X tg e t) (w : ∀ σ H Q, t' σ H Q → t σ H Q) : PI X tg e t' := fun pins s σ H Q I q => h pins s σ H Q I (w σ H Q q)
def isOwn : Kd → Bool
  | .own _ => true
  | _ => false
def iLst (te : TPE) : TPI := fun ρ Q => te ρ fun d k => ∃ ds, d = .lst ds ∧ Q ds (isOwn k)
def iTupl (te : TPE) : TPI := fun ρ Q => te ρ fun d k => ∃ ds, d = .tup ds ∧ Q ds false
section
variable {X : Cx} {tg e : Expr} {te : TPE}
theorem pui_list (he : PuE X e te) : PuI X tg e (iLst te) where
  mono ρ Q Q' m h := he.mono ρ _ _ (fun d k ⟨ds, e, q⟩ => ⟨ds, e, m _ _ q⟩) h
  run := PI.weak (pi_list he.run) fun σ H Rr h => by
    obtain ⟨ρ, Fz, R, h⟩ := h
    refine ⟨ρ, Fz, R, he.mono ρ _ _ (fun d k q v Fz' H' p => ?_) h⟩
    obtain ⟨ds, e, q⟩ := q
    subst e
    have rt := p.root R
    obtain ⟨a, xs, rfl, h1, h2⟩ := root_lst rt
    refine ⟨a, rfl, ⟨xs, h1⟩, ?_⟩
    have walk : ∀ (F2 : FZ) (o : Bool), (∀ b, Fz' b → F2 b) → (∀ H2, (Same H' H2 ∨ (o = false ∧ KeepX F2 H' H2)) → SqL X.K H2 a xs ∧ Keep F2 H' H2) → Walk X.K F2 o (Itl X.K a) ds H' := fun F2 o s2 st H2 hH i => by
      obtain ⟨g1, g2⟩ := st H2 hH
      have g3 : DenL X.K F2 H2 ds xs := DenL.mono g2 (fun _ h => h) _ _ (DenL.mono (Keep.of (Same.refl _)) s2 _ _ h2)
      have hl := g3.length
      refine ⟨fun d hd => ?_, fun hi => ⟨xs, g1, by omega⟩⟩
      obtain ⟨v, q1, q2⟩ := g3.get hd
      exact ⟨⟨xs, v, g1, q1⟩, fun x H3 ⟨e, y⟩ => by
        subst e
        have := y xs g1
        rw [q1] at this; cases this
        exact ⟨Same.refl _, q2⟩⟩
    cases k with
    | own i => exact q _ Fz' H' p.ext (walk Fz' true (fun _ h => h) fun H2 hH => by
        rcases hH with hH | ⟨z, _⟩
        · exact ⟨hH.seq h1, .of hH⟩
        · cases z)
    | frz =>
      have pd : Den X.K Fz' H' (.lst ds) (.ref a) := p.opd
      simp only [Den] at pd
      obtain ⟨a', xs', e, h3, h4⟩ := pd
      cases e
      refine q _ Fz' H' p.ext ?_
      intro H2 hH i
      have kp : Keep Fz' H' H2 := hH.elim (fun z => .of z) (fun z => .mk' z.2)
      have g1 : SqL X.K H2 a xs' := h3.elim (fun h => .inl (kp.rd trivial h.1 h.2)) KX.sq
      have g3 : DenL X.K Fz' H2 ds xs' := DenL.mono kp (fun _ h => h) _ _ h4
      have hl := g3.length
      refine ⟨fun d hd => ?_, fun hi => ⟨xs', g1, by omega⟩⟩
      obtain ⟨v, q1, q2⟩ := g3.get hd
      exact ⟨⟨xs', v, g1, q1⟩, fun x H3 ⟨e, y⟩ => by
        subst e
        have := y xs' g1
        rw [q1] at this; cases this
        exact ⟨Same.refl _, q2⟩⟩
    | new =>
      obtain ⟨b, e, hn, nf, o⟩ := p.opd
      cases e
      obtain ⟨xs', o1, o2⟩ := o
      refine q _ (fun b => Fz' b ∨ b = a) H' (p.ext.add hn (by rw [o1]; exact fun z => nomatch z)) ?_
      intro H2 hH i
      have kp : Keep (fun b => Fz' b ∨ b = a) H' H2 := hH.elim (fun z => .of z) (fun z => .mk' z.2)
      have g1 : SqL X.K H2 a xs' := .inl (kp.rd trivial (.inr rfl) (.inl o1))
      have g3 : DenL X.K (fun b => Fz' b ∨ b = a) H2 ds xs' := DenL.mono kp (fun _ h => h) _ _ (DenL.mono (Keep.of (Same.refl _)) (fun _ h => .inl h) _ _ o2)
      have hl := g3.length
      refine ⟨fun d hd => ?_, fun hi => ⟨xs', g1, by omega⟩⟩
      obtain ⟨v, q1, q2⟩ := g3.get hd
      exact ⟨⟨xs', v, g1, q1⟩, fun x H3 ⟨e, y⟩ => by
        subst e
        have := y xs' g1
        rw [q1] at this; cases this
        exact ⟨Same.refl _, q2⟩⟩
theorem pui_tup (he : PuE X e te) : PuI X tg e (iTupl te) where
  mono ρ Q Q' m h := he.mono ρ _ _ (fun d k ⟨ds, e, q⟩ => ⟨ds, e, m _ _ q⟩) h
  run := PI.weak (pi_tup he.run) fun σ H Rr h => by
    obtain ⟨ρ, Fz, R, h⟩ := h
    refine ⟨ρ, Fz, R, he.mono ρ _ _ (fun d k q v Fz' H' p => ?_) h⟩
    obtain ⟨ds, e, q⟩ := q
    subst e
    obtain ⟨a, xs, rfl, h1, h2⟩ := root_tup (p.root R)
    refine ⟨a, rfl, ⟨xs, h1⟩, q _ Fz' H' p.ext ?_⟩
    intro H2 hH i
    have kp : Keep Fz' H' H2 := hH.elim (fun z => .of z) (fun z => .mk' z.2)
    have g1 : SqT X.K H2 a xs := kp.sqT h1
    have g3 : DenL X.K Fz' H2 ds xs := DenL.mono kp (fun _ h => h) _ _ h2
    have hl := g3.length
    refine ⟨fun d hd => ?_, fun hi => ⟨xs, g1, by omega⟩⟩
    obtain ⟨v, q1, q2⟩ := g3.get hd
    exact ⟨⟨xs, v, g1, q1⟩, fun x H3 ⟨e, y⟩ => by
      subst e
      have := y xs g1
      rw [q1] at this; cases this
      exact ⟨Same.refl _, q2⟩⟩
end
def rngP (lo : Int) (n : Nat) : List PV := (List.range n).map fun (i : Nat) => PV.int (lo + i)
theorem rngP_len (lo : Int) (n : Nat) : (rngP lo n).length = n := by simp [rngP]
theorem rngP_get {lo : Int} {n i : Nat} {d : PV} (h : (rngP lo n)[i]? = some d) : i < n ∧ d = .int (lo + i) := by
  have hi : i < n := by have := (List.getElem?_eq_some_iff.mp h).1; rw [rngP_len] at this; exact this
  refine ⟨hi, ?_⟩
  unfold rngP at h
  rw [List.getElem?_map, List.getElem?_range hi] at h
  exact (Option.some.inj h).symm
def iRange1 (t : TPA) : TPI := fun ρ Q => t ρ fun ops => ∃ j : Int, ops.map (·.1) = [.int j] ∧ -(2 ^ 62) ≤ j ∧ j < 2 ^ 62 ∧ Q (rngP 0 j.toNat) false
def iRange2 (t : TPA) : TPI := fun ρ Q => t ρ fun ops => ∃ i j : Int, ops.map (·.1) = [.int i, .int j] ∧ (-(2 ^ 62) ≤ i ∧ i < 2 ^ 62 ∧ -(2 ^ 62) ≤ j ∧ j < 2 ^ 62) ∧ Q (rngP i (j - i).toNat) false
theorem walk_rng {K : PySem.W.Frag} {Fz : FZ} {lo : Int} {n : Nat} {H : Hp} : Walk K Fz false (Itr lo n) (rngP lo n) H := fun H2 _ i => by
  refine ⟨fun d hd => ?_, fun hi => by rw [rngP_len] at hi; exact hi⟩
  obtain ⟨h1, rfl⟩ := rngP_get hd
  exact ⟨h1, fun x H3 ⟨e, y⟩ => by subst e y; exact ⟨Same.refl _, by simp only [Den]⟩⟩
section
variable {X : Cx} {tg a b : Expr} {t : TPA} {p pos : Pos}
theorem pui_range1 (hg : Gl X "range") (hm : X.mg "range" = none) (ha : PuA X [a] t) (hs : starEach [a] X.env = [(false, eval a X.env)] := by rfl) : PuI X tg (.Call (.Name "range" p) [a] [] pos) (iRange1 t) where
  mono ρ Q Q' m h := ha.mono ρ _ _ (fun ops ⟨j, e, h1, h2, q⟩ => ⟨j, e, h1, h2, m _ _ q⟩) h
  run := PI.weak (pi_range1 hg hm ha.run hs) fun σ H Rr h => by
    obtain ⟨ρ, Fz, R, h⟩ := h
    refine ⟨ρ, Fz, R, ha.mono ρ _ _ (fun ops q vs Fz' H' x o => ?_) h⟩
    obtain ⟨j, e, h1, h2, q⟩ := q
    have rl := o.root R x
    rw [e] at rl
    cases rl with
    | cons r1 r2 =>
      cases r2
      exact ⟨j, by rw [root_int r1], h1, h2, q _ Fz' H' x walk_rng⟩
end
def pFor (ti : TPI) (g : TPG) (tb : TPS) : TPS := fun ρ O => ti ρ fun its o => o = false ∧ ∃ Inv : Nat → PEnv → Prop, Inv 0 ρ ∧
  (∀ i d ρ', its[i]? = some d → Inv i ρ' → g d ρ' (Hold tb { O with nx := Inv (i + 1), ct := Inv (i + 1), bk := O.nx })) ∧ ∀ ρ', Inv its.length ρ' → O.nx ρ'
def pWhile (c : TPT) (tb : TPS) : TPS := fun ρ O => ∃ Inv : Nat → PEnv → Prop, (∃ m, Inv m ρ) ∧ ∀ m ρ', Inv m ρ' → HoldT c ρ' fun b => if b = true
  then Hold tb { O with nx := fun ρ2 => ∃ m', m' < m ∧ Inv m' ρ2, ct := fun ρ2 => ∃ m', m' < m ∧ Inv m' ρ2, bk := O.nx } ρ' else O.nx ρ'
theorem Step.kept {K : PySem.W.Frag} {ρ : PEnv} {σ : St} {Fz Fz' : FZ} {H H' : Hp} (R : Rel K Fz ρ σ H) (s : Step ρ σ Fz H Fz' H') : KeepX Fz H H' := fun b o e w => by
  refine s.keep b o e fun ⟨i, d, h1, h2⟩ => ?_
  obtain ⟨a, q1, q2, q3⟩ := R.own i d h1
  rw [h2] at q1; cases q1
  rcases w with w | w
  · exact q2 w
  · obtain ⟨o', q4, q5⟩ := q3.at
    rw [e] at q4; cases q4
    exact q5 w
section
variable {X : Cx} {tg iter c : Expr} {body : List Stmt} {ti : TPI} {g : TPG} {tb : TPS} {tc : TPT} {pos : Pos}
theorem for_core (hgm : ∀ d ρ Q Q', (∀ ρ, Q ρ → Q' ρ) → g d ρ Q → g d ρ Q') (hbm : ∀ ρ O O', POut.le O O' → tb ρ O → tb ρ O') {K : PySem.W.Frag} {ρ : PEnv} {σ : St} {Fz1 : FZ} {H1 : Hp} {D : Ends} {J : It} {its : List PV} {O : POut} (R1 : Rel K Fz1 ρ σ H1) (wk : Walk K Fz1 false J its H1) (Iv : Nat → PEnv → Prop) (h0 : Iv 0 ρ)
    (hstep : ∀ i d ρ', its[i]? = some d → Iv i ρ' → g d ρ' (Hold tb { O with nx := Iv (i + 1), ct := Iv (i + 1), bk := O.nx })) (hO : O.le (outOf K D ρ σ Fz1 H1)) (hdone : ∀ ρ', Iv its.length ρ' → O.nx ρ') :
    ∃ W : Nat → Nat → St → Hp → Prop, (∃ m, W 0 m σ H1) ∧ ∀ i m σ H, W i m σ H →
      (J.stop i H ∧ D.nx σ H) ∨ (J.go i H ∧ ∃ N : St → Hp → Prop, (∀ σ' H', N σ' H' → ∃ m', m' < m ∧ W (i + 1) m' σ' H') ∧ ∀ x H', J.yld i H x H' → liftG K g x σ H' fun σ2 H2 => liftS K tb { D with nx := N, ct := N, bk := D.nx } σ2 H2) := by
  refine ⟨fun i m σ' H' => m = its.length - i ∧ i ≤ its.length ∧ ∃ ρ' F', Rel K F' ρ' σ' H' ∧ Iv i ρ' ∧ Step ρ σ Fz1 H1 F' H' ∧ OwnIn ρ σ H1 ρ' σ',
    ⟨its.length, by omega, Nat.zero_le _, ρ, Fz1, R1, h0, .of ⟨Same.refl _, fun _ h => h, fun _ h => .inl h, R1.al⟩, OwnIn.refl ρ σ H1⟩, ?_⟩
  rintro i m σ' H' ⟨rfl, hle, ρ', F', R', hI, s', o'⟩
  have kp : KeepX Fz1 H1 H' := s'.kept R1
  obtain ⟨wgo, wstop⟩ := wk H' (.inr ⟨rfl, kp⟩) i
  by_cases hlt : i < its.length
  · obtain ⟨go, yl⟩ := wgo its[i] (List.getElem?_eq_getElem hlt)
    refine .inr ⟨go, fun σ2 H2 => ∃ ρ2 F2, Rel K F2 ρ2 σ2 H2 ∧ Iv (i + 1) ρ2 ∧ Step ρ σ Fz1 H1 F2 H2 ∧ OwnIn ρ σ H1 ρ2 σ2, fun σ2 H2 hN => ⟨its.length - (i + 1), by omega, rfl, hlt, hN⟩, fun xv H2 y => ?_⟩
    obtain ⟨sm, dn⟩ := yl xv H2 y
    have x2 : Ext F' H' F' H2 := ⟨sm, fun _ h => h, fun _ h => .inl h, fun b hb z => R'.al b hb (sm.free z)⟩
    refine ⟨ρ', F', its[i], R'.ext x2, Den.mono (Keep.of (Same.refl _)) s'.sub _ _ dn, hgm _ ρ' _ _ (fun ρ2 q σ2 R2 o2 => ?_) (hstep i its[i] ρ' (List.getElem?_eq_getElem hlt) hI)⟩
    have so : OwnIn ρ σ H1 ρ2 σ2 := fun b hb => o' b (o2 b hb)
    have st : Step ρ σ Fz1 H1 F' H2 := s'.trans o' (.of x2)
    refine ⟨ρ2, F', R2, hbm ρ2 { O with nx := Iv (i + 1), ct := Iv (i + 1), bk := O.nx } _ ⟨fun ρ3 q σ3 F3 H3 s3 o3 R3 => ?_, fun d k q v F3 H3 s3 al r => ?_, fun ρ3 q σ3 F3 H3 s3 o3 R3 => ?_, fun ρ3 q σ3 F3 H3 s3 o3 R3 => ?_⟩ q⟩
    · exact ⟨ρ3, F3, R3, q, st.trans so s3, OwnIn.trans st so o3⟩
    · refine hO.rt d k q v F3 H3 (st.trans so s3) al ?_
      cases k with
      | frz => exact r
      | own j => exact r
      | new =>
        obtain ⟨a, e, nf, ow, w⟩ := r
        refine ⟨a, e, nf, ow, ?_⟩
        rcases w with w | w
        · exact so a w
        · exact (st.none w).symm
    · exact hO.nx ρ3 q σ3 F3 H3 (st.trans so s3) (OwnIn.trans st so o3) R3
    · exact ⟨ρ3, F3, R3, q, st.trans so s3, OwnIn.trans st so o3⟩
  · have e : i = its.length := by omega
    subst e
    exact .inl ⟨wstop (Nat.le_refl _), hO.nx ρ' (hdone ρ' hI) σ' F' H' s' o' R'⟩
theorem pFor_mono (him : ∀ ρ Q Q', (∀ its o, Q its o → Q' its o) → ti ρ Q → ti ρ Q') (hgm : ∀ d ρ Q Q', (∀ ρ, Q ρ → Q' ρ) → g d ρ Q → g d ρ Q') (hbm : ∀ ρ O O', POut.le O O' → tb ρ O → tb ρ O') : ∀ ρ O O', POut.le O O' → pFor ti g tb ρ O → pFor ti g tb ρ O' := fun ρ O O' m h =>
  him ρ _ _ (fun its o ⟨e, I, h0, hs, hd⟩ => ⟨e, I, h0, fun i d ρ' hi hI => hgm d ρ' _ _ (fun ρ2 q => hbm ρ2 { O with nx := I (i + 1), ct := I (i + 1), bk := O.nx } _ ⟨fun _ q => q, m.rt, m.nx, fun _ q => q⟩ q) (hs i d ρ' hi hI), fun ρ' hI => m.nx _ (hd ρ' hI)⟩) h
theorem pus_for (hc : X.calm = true) (hp : PassesOwn (model X.prog X.w) X.A X.env X.xe) (hi : PuI X tg iter ti) (hg : PuG X tg g) (hb : PuSs X body tb) (hs : ∀ x, foldedSetIterable iter X.env x = pure x := by intro _; rfl) : PuS X (.For tg iter body [] pos) (pFor ti g tb) where
  mono := pFor_mono hi.mono hg.mono hb.mono
  run := PS.weak (ps_for hp hc hi.run hg.run hb.run hs) fun D σ H h => by
    obtain ⟨ρ, Fz, R, h⟩ := h
    refine ⟨ρ, Fz, R, hi.mono ρ _ _ (fun its o q J Fz1 H1 x wk => ?_) h⟩
    obtain ⟨rfl, Iv, h0, hstep, hdone⟩ := q
    exact for_core hg.mono hb.mono (R.ext x) wk Iv h0 hstep (outOf_le' (.of x) (OwnIn.refl ρ σ H)) hdone
theorem pus_while (hp : PassesOwn (model X.prog X.w) X.A X.env X.xe) (hc : PuT X c tc) (hb : PuSs X body tb) : PuS X (.While c body [] pos) (pWhile tc tb) where
  mono ρ O O' m h := by
    obtain ⟨Iv, h0, h⟩ := h
    refine ⟨Iv, h0, fun n ρ' hI => hc.mono ρ' _ _ (fun b q => ?_) (h n ρ' hI)⟩
    cases b with
    | true => rw [if_pos rfl] at q ⊢; exact hb.mono ρ' { O with nx := fun ρ2 => ∃ m', m' < n ∧ Iv m' ρ2, ct := fun ρ2 => ∃ m', m' < n ∧ Iv m' ρ2, bk := O.nx } _ ⟨fun _ q => q, m.rt, m.nx, fun _ q => q⟩ q
    | false => rw [if_neg Bool.false_ne_true] at q ⊢; exact m.nx _ q
  run := PS.weak (ps_while hp hc.run hb.run) fun D σ H h => by
    obtain ⟨ρ, Fz, R, Iv, ⟨m0, h0⟩, h⟩ := h
    refine ⟨fun m σ' H' => ∃ ρ' F', Rel X.K F' ρ' σ' H' ∧ Iv m ρ' ∧ Step ρ σ Fz H F' H' ∧ OwnIn ρ σ H ρ' σ',
      ⟨m0, ρ, Fz, R, h0, .of ⟨Same.refl _, fun _ h => h, fun _ h => .inl h, R.al⟩, OwnIn.refl ρ σ H⟩, ?_⟩
    rintro m σ' H' ⟨ρ', F', R', hI, s', o'⟩
    refine ⟨ρ', F', R', hc.mono ρ' _ _ (fun b q F2 H2 x2 => ?_) (h m ρ' hI)⟩
    have st : Step ρ σ Fz H F2 H2 := s'.trans o' (.of x2)
    cases b with
    | true =>
      rw [if_pos rfl] at q
      refine iteT ?_
      refine ⟨fun σ3 H3 => ∃ m', m' < m ∧ ∃ ρ3 F3, Rel X.K F3 ρ3 σ3 H3 ∧ Iv m' ρ3 ∧ Step ρ σ Fz H F3 H3 ∧ OwnIn ρ σ H ρ3 σ3, fun σ3 H3 hN => hN, ρ', F2, R'.ext x2, hb.mono ρ' _ _ ⟨fun ρ3 q σ3 F3 H3 s3 o3 R3 => ?_, fun d k q v F3 H3 s3 al r => ?_, fun ρ3 q σ3 F3 H3 s3 o3 R3 => ?_, fun ρ3 q σ3 F3 H3 s3 o3 R3 => ?_⟩ q⟩
      · obtain ⟨m', hm, hI'⟩ := q
        exact ⟨m', hm, ρ3, F3, R3, hI', st.trans o' s3, OwnIn.trans st o' o3⟩
      · refine q v F3 H3 (st.trans o' s3) al ?_
        cases k with
        | frz => exact r
        | own j => exact r
        | new =>
          obtain ⟨a, e, nf, ow, w⟩ := r
          refine ⟨a, e, nf, ow, ?_⟩
          rcases w with w | w
          · exact o' a w
          · exact (st.none w).symm
      · exact q σ3 F3 H3 (st.trans o' s3) (OwnIn.trans st o' o3) R3
      · obtain ⟨m', hm, hI'⟩ := q
        exact ⟨m', hm, ρ3, F3, R3, hI', st.trans o' s3, OwnIn.trans st o' o3⟩
    | false =>
      rw [if_neg Bool.false_ne_true] at q
      exact iteF (q σ' F2 H2 st o' (R'.ext x2))
end
end PL
set_option Elab.async false
set_option linter.all false
set_option maxRecDepth 100000
set_option maxHeartbeats 4000000
namespace PL
open PySem PySem.Spec L2
open PyProof.Rows hiding St
theorem _root_.L2.Same.upd' {H H' : Hp} {l : Addr} {o : HO} (s : Same H H') (h : H l = none) : Same H (L2.upd H' l o) := fun b u e => by
  rw [upd_ne (ne_of_none e h)]; exact s b u e
structure PuTs (X : Cx) (ifs : List Expr) (t : TPT) : Prop where
  mono : ∀ ρ Q Q', (∀ b, Q b → Q' b) → t ρ Q → t ρ Q'
  run : PTs X ifs (liftT X.K t)
def tTrue : TPT := fun _ Q => Q true
theorem PTs.weak {X : Cx} {e : List Expr} {t t' : TT} (h : PTs X e t) (w : ∀ σ H Q, t' σ H Q → t σ H Q) : PTs X e t' := fun pins s σ H Q I q => h pins s σ H Q I (w σ H Q q)
theorem puts_nil {X : Cx} : PuTs X [] tTrue where
  mono ρ Q Q' m h := m _ h
  run := PTs.weak pts_nil fun σ H Q h => by
    obtain ⟨ρ, Fz, R, h⟩ := h
    exact h Fz H ⟨Same.refl H, fun _ h => h, fun _ h => .inl h, R.al⟩
theorem puts_one {X : Cx} {c : Expr} {t : TPT} (h : PuT X c t) : PuTs X [c] t := ⟨h.mono, pts_one h.run⟩
def blkP (k : Nat) (js : List Nat) (ρ : PEnv) : PEnv := List.replicate k none ++ js.map fun j => (ρ[j]?).getD none
def pComp (k : Nat) (js : List Nat) (ti : TPI) (g : TPG) (tt : TPT) (te : TPE) : TPE := fun ρ Q => ti ρ fun its _ => its.length ≤ sizeLine ∧ ∃ Pv : Nat → List PV → Prop, Pv 0 [] ∧
  (∀ i d out, its[i]? = some d → out.length ≤ i → Pv i out → g d (blkP k js ρ) fun ρ2 => tt ρ2 fun b => if b = true then te ρ2 fun e ke => isOwn ke = false ∧ Pv (i + 1) (out ++ [e]) else Pv (i + 1) out) ∧
  ∀ out, out.length ≤ its.length → Pv its.length out → Q (.lst out) .new
structure PBlk (X : Cx) (N : List Str) (sc : Scope) (tg : Expr) (ifs : List Expr) (elt : Expr) (g : TPG) (tt : TPT) (te : TPE) : Prop where
  tgt : ∀ C cells fp s H, PuG (cxB X N sc C cells fp s H) tg g
  tst : ∀ C cells fp s H, PuTs (cxB X N sc C cells fp s H) ifs tt
  val : ∀ C cells fp s H, PuE (cxB X N sc C cells fp s H) elt te
theorem PBlk.blk {X : Cx} {N : List Str} {sc : Scope} {tg : Expr} {ifs : List Expr} {elt : Expr} {g : TPG} {tt : TPT} {te : TPE} (B : PBlk X N sc tg ifs elt g tt te) : Blk X N sc tg ifs elt (liftG X.K g) (liftT X.K tt) (lift X.K te) :=
  ⟨fun C cells fp s H => (B.tgt C cells fp s H).run, fun C cells fp s H => (B.tst C cells fp s H).run, fun C cells fp s H => (B.val C cells fp s H).run⟩
theorem blk_get {k : Nat} {js : List Nat} {ρ : PEnv} {i : Nat} {d : PV} {b : Bool} (h : (blkP k js ρ)[i]? = some (some (d, b))) : ∃ i' j, i = k + i' ∧ js[i']? = some j ∧ ρ[j]? = some (some (d, b)) := by
  unfold blkP at h
  have hik : k ≤ i := by
    by_cases hik : k ≤ i
    · exact hik
    · rw [List.getElem?_append_left (by simp; omega), List.getElem?_replicate] at h
      split at h <;> cases h
  obtain ⟨i', rfl⟩ : ∃ i', i = k + i' := ⟨i - k, by omega⟩
  rw [List.getElem?_append_right (by simp), List.length_replicate, show k + i' - k = i' by omega, List.getElem?_map] at h
  cases hj : js[i']? with
  | none => rw [hj] at h; cases h
  | some j =>
    rw [hj] at h
    refine ⟨i', j, rfl, hj, ?_⟩
    have h' : (ρ[j]?).getD none = some (d, b) := Option.some.inj h
    cases q : ρ[j]? with
    | none => rw [q] at h'; cases h'
    | some o => rw [q] at h'; exact congrArg some h'
theorem blkSt_get {k : Nat} {js : List Nat} {σ : St} {i' j : Nat} {o : Option V} (hj : js[i']? = some j) (h : σ[j]? = some o) : (blkSt k js σ)[k + i']? = some o := by
  unfold blkSt
  rw [List.getElem?_append_right (by simp), List.length_replicate, show k + i' - k = i' by omega, List.getElem?_map, hj]
  show some ((σ[j]?).getD none) = _
  rw [h]; rfl
theorem Rel.block {K : PySem.W.Frag} {Fz : FZ} {ρ : PEnv} {σ : St} {H : Hp} {k : Nat} {js : List Nat} (R : Rel K Fz ρ σ H) (nd : js.Nodup) : Rel K Fz (blkP k js ρ) (blkSt k js σ) H where
  al := R.al
  len := by unfold blkP blkSt; simp
  frz i d h := by
    obtain ⟨i', j, rfl, hj, h⟩ := blk_get h
    obtain ⟨v, e, q⟩ := R.frz j d h
    exact ⟨v, blkSt_get hj e, q⟩
  own i d h := by
    obtain ⟨i', j, rfl, hj, h⟩ := blk_get h
    obtain ⟨a, e, n, q⟩ := R.own j d h
    exact ⟨a, blkSt_get hj e, n, q⟩
  inj i1 i2 d e a h1 h2 h3 h4 := by
    obtain ⟨i', j, rfl, hj, h1⟩ := blk_get h1
    obtain ⟨i'', j', rfl, hj', h2⟩ := blk_get h2
    obtain ⟨a1, e1, _, _⟩ := R.own j d h1
    obtain ⟨a2, e2, _, _⟩ := R.own j' e h2
    rw [blkSt_get hj e1] at h3
    rw [blkSt_get hj' e2] at h4
    have ea1 : a1 = a := by have := Option.some.inj (Option.some.inj h3); injection this
    have ea2 : a2 = a := by have := Option.some.inj (Option.some.inj h4); injection this
    subst ea1
    subst ea2
    have ej := R.inj j j' d e _ h1 h2 e1 e2
    subst ej
    have l1 : i' < js.length := (List.getElem?_eq_some_iff.mp hj).1
    have e1' : i' = i'' := (List.getElem?_inj l1 nd).mp (hj.trans hj'.symm)
    rw [e1']
theorem own_blk {ρ : PEnv} {σ : St} {k : Nat} {js : List Nat} {Fz : FZ} {K : PySem.W.Frag} {H : Hp} (R : Rel K Fz ρ σ H) {b : Addr} (h : Owned (blkP k js ρ) (blkSt k js σ) b) : Owned ρ σ b := by
  obtain ⟨i, d, h1, h2⟩ := h
  obtain ⟨i', j, rfl, hj, h1⟩ := blk_get h1
  obtain ⟨a1, e1, _, _⟩ := R.own j d h1
  rw [blkSt_get hj e1] at h2
  cases h2
  exact ⟨j, d, h1, e1⟩
theorem Rel.unblock {K : PySem.W.Frag} {Fz : FZ} {ρ ρ' : PEnv} {σ : St} {H : Hp} {k : Nat} {js : List Nat} (R : Rel K Fz ρ' σ H) (hl : ρ'.length = (blkP k js ρ).length) (hs : ∀ j, k ≤ j → ρ'[j]? = (blkP k js ρ)[j]?) : Rel K Fz (blkP k js ρ) σ H := by
  have tr : ∀ i d b, (blkP k js ρ)[i]? = some (some (d, b)) → ρ'[i]? = some (some (d, b)) := fun i d b h => by
    obtain ⟨i', j, rfl, _⟩ := blk_get h
    rw [hs _ (by omega)]; exact h
  exact ⟨R.al, by rw [← hl]; exact R.len, fun i d h => R.frz i d (tr _ _ _ h), fun i d h => R.own i d (tr _ _ _ h), fun i j d e a h1 h2 => R.inj i j d e a (tr _ _ _ h1) (tr _ _ _ h2)⟩
theorem Rel.other {K : PySem.W.Frag} {Fz : FZ} {ρ : PEnv} {σ : St} {H : Hp} {l : Addr} {o u : HO} (R : Rel K Fz ρ σ H) (h : H l = some u) (hi : ¬ Imm u) (nf : ¬ Fz l) (no : ¬ Owned ρ σ l) : Rel K Fz ρ σ (upd H l o) := by
  have kp : Keep Fz H (upd H l o) := .mk' fun b w e hw => by
    have ne : b ≠ l := fun z => by
      subst z
      rcases hw with hw | hw
      · exact nf hw
      · rw [h] at e; cases e; exact hi hw
    rw [upd_ne ne]; exact e
  refine ⟨fun b hb => ?_, R.len, fun i d e => ?_, fun i d e => ?_, R.inj⟩
  · have ne : b ≠ l := fun z => by subst z; exact nf hb
    rw [upd_ne ne]; exact R.al b hb
  · obtain ⟨v, q1, q2⟩ := R.frz i d e
    exact ⟨v, q1, Den.mono kp (fun _ h => h) _ _ q2⟩
  · obtain ⟨a, q1, q2, q3⟩ := R.own i d e
    refine ⟨a, q1, q2, q3.mono kp (fun _ h => h) fun w hw => ?_⟩
    have ne : a ≠ l := fun z => by subst z; exact no ⟨i, d, e, q1⟩
    rw [upd_ne ne]; exact hw
section
variable {X : Cx} {elt tg iter : Expr} {ifs : List Expr} {sc : Scope} {pos : Pos} {N : List Str} {k : Nat} {js : List Nat} {ti : TPI} {g : TPG} {tt : TPT} {te : TPE}
theorem comp_mono (hi : PuI X tg iter ti) (B : PBlk X N sc tg ifs elt g tt te) : ∀ ρ Q Q', (∀ d k, Q d k → Q' d k) → pComp k js ti g tt te ρ Q → pComp k js ti g tt te ρ Q' :=
  fun ρ Q Q' m h => hi.mono ρ _ _ (fun its o ⟨hz, Pv, h0, hs, hd⟩ => ⟨hz, Pv, h0, hs, fun out hl hp => m _ _ (hd out hl hp)⟩) h
theorem comp_core (nd : js.Nodup) (hloc : LocG k g) (B : PBlk X N sc tg ifs elt g tt te) {ρ : PEnv} {σ : St} {H H1 : Hp} {Fz1 : FZ} {o : Bool} {J : It} {its : List PV} {l : Addr} {Rr : Hp → Prop} (R1 : Rel X.K Fz1 ρ σ H1) (wk : Walk X.K Fz1 o J its H1) (hl : H1 l = none) (hz : its.length ≤ sizeLine) (Pv : Nat → List PV → Prop) (h0 : Pv 0 [])
    (hstep : ∀ i d out, its[i]? = some d → out.length ≤ i → Pv i out → g d (blkP k js ρ) fun ρ2 => tt ρ2 fun b => if b = true then te ρ2 fun e ke => isOwn ke = false ∧ Pv (i + 1) (out ++ [e]) else Pv (i + 1) out)
    (hdone : ∀ F' out xs H', Ext Fz1 H1 F' H' → H' l = some (.lst xs) → DenL X.K F' H' out xs → ¬ F' l → out.length ≤ its.length → Pv its.length out → Rr H') :
    tTurns J (liftG X.K g) (liftT X.K tt) (lift X.K te) l (blkSt k js σ) H1 Rr := by
  have mg := (B.tgt 0 [] [] X.s₀ H).mono
  have mt := (B.tst 0 [] [] X.s₀ H).mono
  have me := (B.val 0 [] [] X.s₀ H).mono
  have nf1 : ¬ Fz1 l := fun z => R1.al l z hl
  have no1 : ¬ Owned ρ σ l := fun ⟨i, d, h1, h2⟩ => by
    obtain ⟨a, q1, _, q3⟩ := R1.own i d h1
    rw [h2] at q1; cases q1
    obtain ⟨o', q4, _⟩ := q3.at
    rw [hl] at q4; cases q4
  refine ⟨fun i m σ' H' => m = its.length - i ∧ i ≤ its.length ∧ ∃ F' out xs, Rel X.K F' (blkP k js ρ) σ' H' ∧ (∀ b, Owned (blkP k js ρ) σ' b → Owned ρ σ b) ∧ H' l = some (.lst xs) ∧ DenL X.K F' H' out xs ∧ ¬ F' l ∧ out.length ≤ i ∧ Pv i out ∧ Same H1 H' ∧ (∀ b, Fz1 b → F' b) ∧ (∀ b, F' b → Fz1 b ∨ H1 b = none),
    ⟨its.length, by omega, Nat.zero_le _, Fz1, [], [], ?_, fun b hb => own_blk R1 hb, upd_same, DenL.nil, nf1, Nat.zero_le _, h0, (Same.refl H1).upd' hl, fun _ h => h, fun _ h => .inl h⟩, ?_⟩
  · have x0 : Ext Fz1 H1 Fz1 (upd H1 l (.lst [])) := Ext.laid ⟨Same.refl _, fun _ h => h, fun _ h => .inl h, R1.al⟩ hl
    exact (R1.block nd).ext x0
  rintro i m σ' H' ⟨rfl, hle, F', out, xs, Rb, ob, hlx, hout, nfl, hol, hP, sm, s1, s2⟩
  obtain ⟨wgo, wstop⟩ := wk H' (.inl sm) i
  by_cases hlt : i < its.length
  · obtain ⟨go, yl⟩ := wgo its[i] (List.getElem?_eq_getElem hlt)
    refine .inr ⟨go, fun xv H2 y => ?_⟩
    obtain ⟨sm2, dn⟩ := yl xv H2 y
    have x2 : Ext F' H' F' H2 := ⟨sm2, fun _ h => h, fun _ h => .inl h, fun b hb z => Rb.al b hb (sm2.free z)⟩
    refine ⟨blkP k js ρ, F', its[i], Rb.ext x2, Den.mono (Keep.of (Same.refl _)) s1 _ _ dn, mg _ _ _ _ (fun ρ2 ⟨q, l2, a2⟩ σ2 R2 o2 => ?_) (hloc _ _ _ (hstep i its[i] out (List.getElem?_eq_getElem hlt) hol hP))⟩
    refine ⟨ρ2, F', R2, mt ρ2 _ _ (fun b q F4 H4 x4 => ?_) q⟩
    have R4 : Rel X.K F4 ρ2 σ2 H4 := R2.ext x4
    have own2 : ∀ b, Owned (blkP k js ρ) σ2 b → Owned ρ σ b := fun b ⟨j, d, h1, h2⟩ => by
      refine ob b (o2 b ⟨j, d, ?_, h2⟩)
      obtain ⟨i', j', e, _⟩ := blk_get h1
      rw [a2 j (by omega)]; exact h1
    have hl4 : H4 l = some (.lst xs) := x4.same _ _ (sm2 _ _ hlx)
    have nf4 : ¬ F4 l := fun z => by
      rcases x4.new l z with z | z
      · exact nfl z
      · rw [sm2 _ _ hlx] at z; cases z
    cases b with
    | false =>
      rw [if_neg Bool.false_ne_true] at q
      refine iteF ⟨its.length - (i + 1), by omega, rfl, hlt, F4, out, xs, Rel.unblock R4 l2 a2, own2, hl4, DenL.mono (.of (sm2.trans x4.same)) x4.sub _ _ hout, nf4, by omega, q, sm.trans (sm2.trans x4.same), fun b hb => x4.sub b (s1 b hb), fun b hb => ?_⟩
      rcases x4.new b hb with z | z
      · exact s2 b z
      · exact .inr (sm.free (sm2.free z))
    | true =>
      rw [if_pos rfl] at q
      refine iteT ⟨ρ2, F4, R4, me ρ2 _ _ (fun e ke ⟨hk, q⟩ v F5 H5 p5 => ?_) q⟩
      have hk' : ke = .frz ∨ ke = .new := by
        cases ke with
        | frz => exact .inl rfl
        | new => exact .inr rfl
        | own j => cases hk
      obtain ⟨F6, x6, s6, d6⟩ := p5.frozen hk'
      have hl5 : H5 l = some (.lst xs) := x6.same _ _ hl4
      have nf6 : ¬ F6 l := fun z => by
        rcases x6.new l z with z | z
        · exact nf4 z
        · rw [hl4] at z; cases z
      have R6 : Rel X.K F6 ρ2 σ2 H5 := R4.ext x6
      have Rb6 : Rel X.K F6 (blkP k js ρ) σ2 H5 := Rel.unblock R6 l2 a2
      have no6 : ¬ Owned (blkP k js ρ) σ2 l := fun z => no1 (own2 l z)
      have kp : Keep F6 H5 (upd H5 l (.lst (xs ++ [v]))) := .mk' fun b w e hw => by
        have ne : b ≠ l := fun z => by
          subst z
          rcases hw with hw | hw
          · exact nf6 hw
          · rw [hl5] at e; cases e; exact hw
        rw [upd_ne ne]; exact e
      have hxl := hout.length
      refine ⟨xs, hl5, by omega, its.length - (i + 1), by omega, rfl, hlt, F6, out ++ [e], xs ++ [v], Rb6.other hl5 (fun z => z) nf6 no6, own2, upd_same, ?_, nf6, by rw [List.length_append]; simp; omega, q, ?_, fun b hb => x6.sub b (x4.sub b (s1 b hb)), fun b hb => ?_⟩
      · exact DenL.mono kp (fun _ h => h) _ _ (DenL.snoc (DenL.mono (.of (sm2.trans (x4.same.trans x6.same))) (fun b hb => x6.sub b (x4.sub b hb)) _ _ hout) d6)
      · exact (sm.trans (sm2.trans (x4.same.trans x6.same))).upd' hl
      · rcases x6.new b hb with z | z
        · rcases x4.new b z with z | z
          · exact s2 b z
          · exact .inr (sm.free (sm2.free z))
        · exact .inr (sm.free (sm2.free (x4.same.free z)))
  · have e : i = its.length := by omega
    subst e
    exact .inl ⟨wstop (Nat.le_refl _), hdone F' out xs H' ⟨sm, s1, s2, Rb.al⟩ hlx hout nfl hol hP⟩
theorem comp_lift (nd : js.Nodup) (hloc : LocG k g) (hi : PuI X tg iter ti) (B : PBlk X N sc tg ifs elt g tt te) {σ : St} {H : Hp} {Q : VK} (h : lift X.K (pComp k js ti g tt te) σ H Q) :
    tComp k js (liftI X.K ti) (liftG X.K g) (liftT X.K tt) (lift X.K te) σ H Q := by
  obtain ⟨ρ, Fz, R, h⟩ := h
  refine ⟨ρ, Fz, R, hi.mono ρ _ _ (fun its o q J Fz1 H1 x wk l hl => ?_) h⟩
  obtain ⟨hz, Pv, h0, hstep, hdone⟩ := q
  refine comp_core (H := H) nd hloc B (R.ext x) wk hl hz Pv h0 hstep fun F' out xs H' x' hlx hout nfl hol hP => ?_
  exact hdone out hol hP _ F' H' ⟨x.trans x', l, rfl, x.same.free hl, nfl, xs, hlx, hout⟩
theorem pu_comp (hc : X.calm = true) (S : CpScope X N k js sc) (nd : js.Nodup) (hloc : LocG k g) (hi : PuI X tg iter ti) (B : PBlk X N sc tg ifs elt g tt te) (hs : ∀ x, foldedSetIterable iter X.env x = pure x := by intro _; rfl) :
    PuE X (.ListComp elt [⟨tg, iter, ifs, 0⟩] sc pos) (pComp k js ti g tt te) :=
  ⟨comp_mono hi B, PE.weak (pe_comp hc S hi.run B.blk hs) fun _ _ _ h => comp_lift nd hloc hi B h⟩
theorem pus_comp {i : Nat} {x : Str} {pos' pos2 : Pos} (hc : X.calm = true) (S : CpScope X N k js sc) (nd : js.Nodup) (hloc : LocG k g) (hi : PuI X tg iter ti) (B : PBlk X N sc tg ifs elt g tt te) (hN : X.N.Nodup) (hx : X.N[i]? = some x) (hk : X.env.scope.names.lookup x = some .local)
    (hsw : swapsWith (.ListComp elt [⟨tg, iter, ifs, 0⟩] sc pos) (some (.Name x pos')) pos2.line X.env = pure true := by rfl) (hs : ∀ x, foldedSetIterable iter X.env x = pure x := by intro _; rfl) :
    PuS X (.Assign [.Name x pos'] (.ListComp elt [⟨tg, iter, ifs, 0⟩] sc pos) pos2) (pSet i (pComp k js ti g tt te)) where
  mono := pSet_mono (pu_comp (pos := pos) hc S nd hloc hi B hs)
  run := PS.weak (ps_comp hc S hi.run B.blk hN hx hk hsw hs) fun D σ H h => by
    have q := set_lift (pu_comp (pos := pos) hc S nd hloc hi B hs) h
    exact comp_lift nd hloc hi B q
end
end PL
set_option Elab.async false
set_option linter.all false
set_option maxRecDepth 100000
set_option maxHeartbeats 4000000
namespace PL
open PySem PySem.Spec L2
open PyProof.Rows hiding St
def startP (N : List Str) (ds : List PV) : PEnv := ds.map (fun d => some (d, false)) ++ List.replicate (N.length - ds.length) none
def retOut (Q : PV → Kd → Prop) : POut := ⟨fun _ => Q .non .frz, Q, fun _ => False, fun _ => False⟩
theorem spP_len {K : PySem.W.Frag} {F : PF} {ps : List Str} (h : ∀ ds Q, F ds Q → ds.length = ps.length) : ∀ vs H Q E, spP K F vs H Q E → vs.length = ps.length := fun vs H Q E ⟨Fz, ds, _, hd, q⟩ => by rw [← hd.length]; exact h _ _ q
theorem start_rel {K : PySem.W.Frag} {Fz : FZ} {H : Hp} {N : List Str} {ds : List PV} {vs : List V} (al : ∀ b, Fz b → H b ≠ none) (h : DenL K Fz H ds vs) : Rel K Fz (startP N ds) (start N vs) H ∧ ∀ σ b, ¬ Owned (startP N ds) σ b := by
  have hl := h.length
  have get : ∀ (i : Nat) (d : PV) (b : Bool), (startP N ds)[i]? = some (some (d, b)) → b = false ∧ ds[i]? = some d := fun i d b e => by
    unfold startP at e
    by_cases hi : i < ds.length
    · rw [List.getElem?_append_left (by simpa using hi), List.getElem?_map, List.getElem?_eq_getElem hi] at e
      have e' : (some (ds[i], false) : Option (PV × Bool)) = some (d, b) := Option.some.inj e
      have e2 := Option.some.inj e'
      exact ⟨(congrArg Prod.snd e2).symm, by rw [List.getElem?_eq_getElem hi]; exact congrArg some (congrArg Prod.fst e2)⟩
    · rw [List.getElem?_append_right (by simpa using hi), List.getElem?_replicate] at e
      split at e <;> cases e
  refine ⟨⟨al, by unfold startP L2.start; simp [hl], fun i d e => ?_, fun i d e => ?_, fun i j d e a h1 => ?_⟩, fun σ b ⟨i, d, e, _⟩ => ?_⟩
  · obtain ⟨_, e'⟩ := get i d false e
    obtain ⟨v, q1, q2⟩ := h.get e'
    have hi : i < vs.length := (List.getElem?_eq_some_iff.mp q1).1
    refine ⟨v, ?_, q2⟩
    unfold L2.start
    rw [List.getElem?_append_left (by simpa using hi), List.getElem?_map, q1]
    rfl
  · exact absurd (get i d true e).1 (by decide)
  · exact absurd (get i d true h1).1 (by decide)
  · exact absurd (get i d true e).1 (by decide)
section
variable {P : Program} {w : World} {K : PySem.W.Frag} {mg : Str → Option Value} {base : Heap}
theorem fn_pure {x qual : Str} {st : Stmt} {f : Addr} {fd : FuncData} {N ps : List Str} {k : Nat} {F : PF} (Fn : Fun K x qual st f fd) (S : FnScope N ps (defScope st)) (len : ∀ ds Q, F ds Q → ds.length = ps.length)
    (hbody : ∀ (cdv : Value) (A : Around) (outer : List Env) (s : Shared) (H : Hp) (E : XK), Room k (A.deeper (envOfC qual (defScope st) s.heap.objs.size f cdv)) →
      ∃ t, PuSs (cxOf CX0 P w K mg base N qual (defScope st) f cdv A outer s H E).nox (defBody st) t ∧ ∀ ds Q, F ds Q → t (startP N ds) (retOut Q)) : FnOk P w K mg base CX0 (k + 1) f fd ps (spP K F) := by
  refine Fn.ok S (spP_len len) (fun cdv A outer s H vs Q E hr h => ?_)
  obtain ⟨t, ht, hq⟩ := hbody cdv A outer s H E hr
  obtain ⟨Fz, ds, al, hd, h⟩ := h
  obtain ⟨R, no⟩ := start_rel (N := N) al hd
  refine ⟨_, ht.run, startP N ds, Fz, R, ht.mono _ (retOut _) _ ⟨fun ρ' q σ' F' H' s' o' R' => ?_, fun d k q v F' H' s' al' r => ?_, fun _ z => z.elim, fun _ z => z.elim⟩ (hq ds _ h)⟩
  · exact q .non F' H' ⟨⟨fun b o e => s'.keep b o e (no _ b), s'.sub, fun b hb => (s'.new b hb).elim .inl (fun z => z.elim .inr (fun z => (no _ b z).elim)), R'.al⟩, by show Den _ _ _ _ _; simp only [Den]⟩
  · refine q v F' H' ⟨⟨fun b o e => s'.keep b o e (no _ b), s'.sub, fun b hb => (s'.new b hb).elim .inl (fun z => z.elim .inr (fun z => (no _ b z).elim)), al'⟩, ?_⟩
    cases k with
    | frz => exact r
    | own i => exact r.elim
    | new =>
      obtain ⟨a, e, nf, o, w⟩ := r
      exact ⟨a, e, w.resolve_left (no _ a), nf, o⟩
end
theorem Rel.mut {K : PySem.W.Frag} {Fz : FZ} {ρ : PEnv} {σ : St} {H : Hp} {i : Nat} {d d' : PV} {a : Addr} {o u : HO} (R : Rel K Fz ρ σ H) (hi : ρ[i]? = some (some (d, true))) (hs : σ[i]? = some (some (.ref a))) (hu : H a = some u)
    (ho : Own K Fz (upd H a o) d' a) : Rel K Fz (ρ.set i (some (d', true))) σ (upd H a o) ∧ Step ρ σ Fz H Fz (upd H a o) ∧ OwnIn ρ σ H (ρ.set i (some (d', true))) σ := by
  obtain ⟨a', e', nf, ow⟩ := R.own i d hi
  rw [hs] at e'; cases e'
  have hil : i < ρ.length := (List.getElem?_eq_some_iff.mp hi).1
  have im : ¬ Imm u := by obtain ⟨o', q1, q2⟩ := ow.at; rw [hu] at q1; cases q1; exact q2
  have kp : Keep Fz H (upd H a o) := .mk' fun b w e hw => by
    have ne : b ≠ a := fun z => by
      subst z
      rcases hw with hw | hw
      · exact nf hw
      · rw [hu] at e; cases e; exact im hw
    rw [upd_ne ne]; exact e
  have st : ∀ j e, (ρ.set i (some (d', true)))[j]? = some (some (e, true)) → ∃ e0, ρ[j]? = some (some (e0, true)) := fun j e h => by
    by_cases hij : i = j
    · subst hij; exact ⟨d, hi⟩
    · rw [List.getElem?_set_ne hij] at h; exact ⟨e, h⟩
  refine ⟨⟨fun b hb => ?_, by rw [List.length_set]; exact R.len, fun j e h => ?_, fun j e h => ?_, fun j k e1 e2 b h1 h2 h3 h4 => ?_⟩, ⟨fun _ h => h, fun _ h => .inl h, fun b w e n => ?_⟩, fun b ⟨j, e, h1, h2⟩ => ?_⟩
  · have ne : b ≠ a := fun z => by subst z; exact nf hb
    rw [upd_ne ne]; exact R.al b hb
  · by_cases hij : i = j
    · subst hij; rw [List.getElem?_set_self hil] at h; cases h
    · rw [List.getElem?_set_ne hij] at h
      obtain ⟨v, q1, q2⟩ := R.frz j e h
      exact ⟨v, q1, Den.mono kp (fun _ h => h) _ _ q2⟩
  · by_cases hij : i = j
    · subst hij; rw [List.getElem?_set_self hil] at h; cases h
      exact ⟨a, hs, nf, ho⟩
    · rw [List.getElem?_set_ne hij] at h
      obtain ⟨b, q1, q2, q3⟩ := R.own j e h
      refine ⟨b, q1, q2, q3.mono kp (fun _ h => h) fun w hw => ?_⟩
      have ne : b ≠ a := fun z => by subst z; exact hij (R.inj i j d e _ hi h hs q1)
      rw [upd_ne ne]; exact hw
  · obtain ⟨e1', g1⟩ := st j e1 h1
    obtain ⟨e2', g2⟩ := st k e2 h2
    exact R.inj j k e1' e2' b g1 g2 h3 h4
  · have ne : b ≠ a := fun z => by subst z; exact n ⟨i, d, hi, hs⟩
    rw [upd_ne ne]; exact e
  · obtain ⟨e', g⟩ := st j e h1
    exact .inl ⟨j, e', g, h2⟩
abbrev TPM := PEnv → (PV → PEnv → Prop) → Prop
def liftM (K : PySem.W.Frag) (t : TPM) : TE := fun σ H Q => ∃ ρ Fz, Rel K Fz ρ σ H ∧ t ρ fun d ρ' => ∀ v Fz' H', Step ρ σ Fz H Fz' H' → OwnIn ρ σ H ρ' σ → Rel K Fz' ρ' σ H' → Den K Fz' H' d v → Q v H'
structure PuM (X : Cx) (e : Expr) (t : TPM) : Prop where
  mono : ∀ ρ Q Q', (∀ d ρ, Q d ρ → Q' d ρ) → t ρ Q → t ρ Q'
  run : PE X e (liftM X.K t)
def mApp (i : Nat) (te : TPE) : TPM := fun ρ Q => ∃ ds, ρ[i]? = some (some (.lst ds, true)) ∧ ds.length < sizeLine ∧ te ρ fun d k => isOwn k = false ∧ Q .non (ρ.set i (some (.lst (ds ++ [d]), true)))
def mAppM (i : Nat) (te : TPM) : TPM := fun ρ Q => ∃ ds0, ρ[i]? = some (some (.lst ds0, true)) ∧ te ρ fun d ρ' => ∃ ds, ρ'[i]? = some (some (.lst ds, true)) ∧ ds.length < sizeLine ∧ Q .non (ρ'.set i (some (.lst (ds ++ [d]), true)))
def mPopAt (i : Nat) (te : TPE) : TPM := fun ρ Q => ∃ ds, ρ[i]? = some (some (.lst ds, true)) ∧ te ρ fun e _ => ∃ (j : Int) (k : Nat) (d : PV), e = .int j ∧ -(2 ^ 63) ≤ j ∧ j < 2 ^ 63 ∧ seqIndex? j ds.length = some k ∧ ds[k]? = some d ∧ Q d (ρ.set i (some (.lst (ds.eraseIdx k), true)))
def mExtT (i : Nat) (te : TPE) : TPM := fun ρ Q => ∃ ds, ρ[i]? = some (some (.lst ds, true)) ∧ te ρ fun d _ => ∃ es, d = .tup es ∧ ds.length + es.length ≤ sizeLine ∧ Q .non (ρ.set i (some (.lst (ds ++ es), true)))
theorem own_lst {K : PySem.W.Frag} {Fz : FZ} {ρ : PEnv} {σ : St} {H : Hp} {i : Nat} {ds : List PV} (R : Rel K Fz ρ σ H) (h : ρ[i]? = some (some (.lst ds, true))) : ∃ a xs, σ[i]? = some (some (.ref a)) ∧ H a = some (.lst xs) ∧ DenL K Fz H ds xs ∧ ¬ Fz a := by
  obtain ⟨a, e, nf, xs, h1, h2⟩ := R.own i _ h
  exact ⟨a, xs, e, h1, h2, nf⟩
theorem DenL.rew {K : PySem.W.Frag} {Fz : FZ} {H : Hp} {ds : List PV} {xs ys : List V} {a : Addr} {o : HO} (ha : H a = some (.lst ys)) (nf : ¬ Fz a) (h : DenL K Fz H ds xs) : DenL K Fz (upd H a o) ds xs :=
  DenL.mono (.mk' fun b w e hw => by
    have ne : b ≠ a := fun z => by
      subst z
      rcases hw with hw | hw
      · exact nf hw
      · rw [ha] at e; cases e; exact hw
    rw [upd_ne ne]; exact e) (fun _ h => h) _ _ h
section
variable {X : Cx} {x : Str} {e : Expr} {te : TPE} {tm : TPM} {p apos cpos : Pos}
theorem pum_append (i : Nat) (he : PuE X e te) (hN : X.N[i]? = some x := by rfl) (hv : Vis X.env.scope x := by first | exact Or.inl rfl | exact Or.inr (Or.inl rfl) | exact Or.inr (Or.inr rfl)) (hd : (x == ("__debug__" : Str)) = false := by decide) (hcd : (x == ("__classdict__" : Str)) = false := by decide)
    (hbase : attributeBase (.Name x p) "append" X.env (eval (.Name x p) X.env) = eval (.Name x p) X.env := by rfl)
    (hfew : ((backTo cpos (starEach [e] X.env)).all (fun x => !x.1) && (backToKw cpos (keywordEach [] X.env)).all (fun x => x.1.isSome) && decide ([e].length + ([] : List Keyword).length + (if ([] : List Keyword).isEmpty then 0 else 1) < 30)) = true := by rfl)
    (hline : (apos.endLine == cpos.line) = true := by rfl) (hs : starEach [e] X.env = (false, eval e X.env) :: starEach [] X.env := by rfl) (hplain : (backTo cpos (starEach [] X.env)).any (·.1) = false := by rfl) : PuM X (.Call (.Attribute (.Name x p) "append" apos) [e] [] cpos) (mApp i te) where
  mono ρ Q Q' m h := by
    obtain ⟨ds, e1, e2, h⟩ := h
    exact ⟨ds, e1, e2, he.mono ρ _ _ (fun d k ⟨hk, q⟩ => ⟨hk, m _ _ q⟩) h⟩
  run := PE.weak (pe_bm PySem.F.plainAttrs_list PySem.F.slot_list_append PySem.F.type_list_append mt_append (pe_var hN hv hd hcd) (pa_cons he.run pa_nil hs) hbase hfew hline hs hplain) fun σ H Q h => by
    obtain ⟨ρ, Fz, R, ds, e1, e2, h⟩ := h
    obtain ⟨a, xs, hs, ha, hd, nf⟩ := own_lst R e1
    refine ⟨_, hs, .inl ⟨rfl, xs, SqL.of ha⟩, ρ, Fz, R, he.mono ρ _ _ (fun d k q v F1 H1 p1 => ?_) h⟩
    obtain ⟨hk, q⟩ := q
    have hk' : k = .frz ∨ k = .new := by
      cases k with
      | frz => exact .inl rfl
      | new => exact .inr rfl
      | own j => cases hk
    obtain ⟨F2, x2, s2, d2⟩ := p1.frozen hk'
    have R2 := R.ext x2
    obtain ⟨a', xs', hs', ha', hd', nf'⟩ := own_lst R2 e1
    rw [hs] at hs'; cases hs'
    have hl := hd'.length
    refine ⟨a, xs', v, rfl, rfl, ha', by omega, ?_⟩
    have ow : Own X.K F2 (upd H1 a (.lst (xs' ++ [v]))) (.lst (ds ++ [d])) a := ⟨_, upd_same, (DenL.rew ha' nf' (DenL.snoc hd' d2))⟩
    obtain ⟨R3, s3, o3⟩ := R2.mut e1 hs ha' ow
    exact q .non F2 _ ((Step.of x2).trans (OwnIn.refl ρ σ H) s3) (OwnIn.trans (Step.of x2) (OwnIn.refl ρ σ H) o3) R3 (by simp only [Den])
def pDropM (tm : TPM) : TPS := fun ρ O => tm ρ fun _ ρ' => O.nx ρ'
def pSetM (i : Nat) (tm : TPM) : TPS := fun ρ O => tm ρ fun d ρ' => O.nx (ρ'.set i (some (d, false)))
variable {pos : Pos}
theorem pus_exprM (he : PuM X e tm) (hs : swapsWith e none pos.line X.env = pure false := by rfl) : PuS X (.Expr e pos) (pDropM tm) where
  mono ρ O O' m h := he.mono ρ _ _ (fun _ _ q => m.nx _ q) h
  run := PS.weak (ps_expr he.run hs) fun D σ H h => by
    obtain ⟨ρ, Fz, R, h⟩ := h
    exact ⟨ρ, Fz, R, he.mono ρ _ _ (fun d ρ' q v F' H' s' o' R' _ => q σ F' H' s' o' R') h⟩
end
end PL
set_option Elab.async false
set_option linter.all false
set_option maxRecDepth 100000
set_option maxHeartbeats 4000000
namespace PL
open PySem PySem.Spec L2
open PyProof.Rows hiding St
theorem atI_den {K : PySem.W.Frag} {Fz : FZ} {H : Hp} {ds : List PV} {xs : List V} {i : Int} {d : PV} (h : DenL K Fz H ds xs) (e : atI ds i = some d) : ∃ v, atI xs i = some v ∧ Den K Fz H d v := by
  unfold atI at e ⊢
  rw [← h.length]
  cases q : ixN ds.length i with
  | none => rw [q] at e; cases e
  | some j =>
    rw [q] at e
    obtain ⟨v, h1, h2⟩ := h.get (i := j) (d := d) e
    exact ⟨v, h1, h2⟩
def pIx : P2 := fun d e Q => (∃ ds i x, (d = .lst ds ∨ d = .tup ds) ∧ e = .int i ∧ atI ds i = some x ∧ Q x .frz) ∨ ∃ z i c, d = .str z ∧ e = .int i ∧ z.length ≤ sizeLine ∧ atI z.cps.toList i = some c ∧ Q (.str ⟨#[c]⟩) .frz
theorem po_ix {K : PySem.W.Frag} : POp K (rIx K) pIx where
  mono d e Q Q' m h := by
    rcases h with ⟨ds, i, x, e1, e2, e3, q⟩ | ⟨z, i, c, e1, e2, e3, e4, q⟩
    · exact .inl ⟨ds, i, x, e1, e2, e3, m _ _ q⟩
    · exact .inr ⟨z, i, c, e1, e2, e3, e4, m _ _ q⟩
  run Fz H x y d e Q al rx ry h := by
    rcases h with ⟨ds, i, x', e1, rfl, e3, q⟩ | ⟨z, i, c, rfl, rfl, e3, e4, q⟩
    · rcases e1 with rfl | rfl
      · obtain ⟨a, xs, rfl, h1, h2⟩ := root_lst rx
        obtain ⟨v, g1, g2⟩ := atI_den h2 e3
        exact .inl ⟨a, xs, i, v, rfl, root_int ry, h1, g1, q v Fz H (.val al g2)⟩
      · obtain ⟨a, xs, rfl, h1, h2⟩ := root_tup rx
        obtain ⟨v, g1, g2⟩ := atI_den h2 e3
        exact .inr (.inl ⟨a, xs, i, v, rfl, root_int ry, h1, g1, q v Fz H (.val al g2)⟩)
    · exact .inr (.inr ⟨z, i, c, root_str rx, root_int ry, e3, e4, q _ Fz H (.val al (by simp only [Den]))⟩)
section
variable {X : Cx} {a b : Expr} {ta tb : TPE} {pos : Pos}
theorem pu_item (ha : PuE X a ta) (hb : PuE X b tb) (hs : PlainIx b := by exact fun _ _ => rfl) : PuE X (.Subscript a b pos) (t2 pIx ta tb) := pu_ix ix_seq po_ix ha hb hs
theorem pu_eq (hu : X.A.units + 16 < cLine) (ha : PuE X a ta) (hb : PuE X b tb) (hm : behindInMarks .Eq b = false := by first | exact nomark _ | rfl) : PuE X (.Compare a [.Eq] [b] pos) (t2 (pEq false) ta tb) := pu_cmp (op_eqP hu) po_eqP ha hb hm
theorem put_eq (hu : X.A.units + 16 < cLine) (ha : PuE X a ta) (hb : PuE X b tb) (hm : behindInMarks .Eq b = false := by first | exact nomark _ | rfl) : PuT X (.Compare a [.Eq] [b] pos) (tBl (t2 (pEq false) ta tb)) := put_cmp (op_eqP hu) po_eqP ha hb hm
theorem put_ne (hu : X.A.units + 16 < cLine) (ha : PuE X a ta) (hb : PuE X b tb) (hm : behindInMarks .NotEq b = false := by first | exact nomark _ | rfl) : PuT X (.Compare a [.NotEq] [b] pos) (tBl (t2 (pEq true) ta tb)) := put_cmp (op_neP hu) po_eqP ha hb hm
theorem put_lt (ha : PuE X a ta) (hb : PuE X b tb) (hm : behindInMarks .Lt b = false := by first | exact nomark _ | rfl) : PuT X (.Compare a [.Lt] [b] pos) (tBl (pLt ta tb)) := put_cmp op_lt po_bool0 ha hb hm
theorem put_gt (ha : PuE X a ta) (hb : PuE X b tb) (hm : behindInMarks .Gt b = false := by first | exact nomark _ | rfl) : PuT X (.Compare a [.Gt] [b] pos) (tBl (pGt ta tb)) := put_cmp op_gt po_bool0 ha hb hm
theorem pu_gt (ha : PuE X a ta) (hb : PuE X b tb) (hm : behindInMarks .Gt b = false := by first | exact nomark _ | rfl) : PuE X (.Compare a [.Gt] [b] pos) (pGt ta tb) := pu_cmp op_gt po_bool0 ha hb hm
end
def rInP (K : PySem.W.Frag) (neg : Bool) : R2 := fun x y H Q => ∃ Fz d ds p xs, Root K Fz H d x ∧ y = .ref p ∧ (SqL K H p xs ∨ SqT K H p xs) ∧ DenL K Fz H ds xs ∧ plain 6 d = true ∧ ds.all (plain 6) = true ∧ Q (.bl (if neg then !decide (d ∈ ds) else decide (d ∈ ds))) H
def pIn (neg : Bool) : P2 := fun d e Q => ∃ ds, (e = .lst ds ∨ e = .tup ds) ∧ plain 6 d = true ∧ ds.all (plain 6) = true ∧ Q (.bl (if neg then !decide (d ∈ ds) else decide (d ∈ ds))) .frz
theorem po_in {K : PySem.W.Frag} {neg : Bool} : POp K (rInP K neg) (pIn neg) where
  mono d e Q Q' m h := by obtain ⟨ds, e1, e2, e3, q⟩ := h; exact ⟨ds, e1, e2, e3, m _ _ q⟩
  run Fz H x y d e Q al rx ry h := by
    obtain ⟨ds, e1, e2, e3, q⟩ := h
    rcases e1 with rfl | rfl
    · obtain ⟨a, xs, rfl, h1, h2⟩ := root_lst ry
      exact ⟨Fz, d, ds, a, xs, rx, rfl, .inl h1, h2, e2, e3, q _ Fz H (.val al (by simp only [Den]))⟩
    · obtain ⟨a, xs, rfl, h1, h2⟩ := root_tup ry
      exact ⟨Fz, d, ds, a, xs, rx, rfl, .inr h1, h2, e2, e3, q _ Fz H (.val al (by simp only [Den]))⟩
noncomputable def dcd (p : Prop) : Bool := @decide p (Classical.propDecidable p)
theorem dcd_true {p : Prop} (h : p) : dcd p = true := @decide_eq_true p (Classical.propDecidable p) h
theorem dcd_false {p : Prop} (h : ¬ p) : dcd p = false := @decide_eq_false p (Classical.propDecidable p) h
theorem dcd_iff {p : Prop} : dcd p = true ↔ p := @decide_eq_true_iff p (Classical.propDecidable p)
section
variable {X : Cx} {pins : List (Addr × Obj)} {σ : St} {H : Hp} {s : Shared} {Fz : FZ}
theorem in_items (I : Inv X pins σ H s) {A : Around} (hu : A.units + 16 < cLine) {d : PV} {ds : List PV} {x : V} {xs : List V} {v : Value} {its : List Value} (hx : Root X.K Fz H d x) (rx : RelV x v) (r : Vals xs its) (h : DenL X.K Fz H ds xs) (pd : plain 6 d = true) (ps : ds.all (plain 6) = true) :
    ∃ e : Value → Bool, (∀ y, y ∈ its.toArray → SeqAt.EqAt A.in1 s y v (e y)) ∧ its.toArray.any e = decide (d ∈ ds) := by
  refine ⟨fun u => dcd (∃ j : Nat, its[j]? = some u ∧ ds[j]? = some d), fun u hu' => ?_, ?_⟩
  · obtain ⟨j, hj⟩ := List.mem_iff_getElem?.mp (show u ∈ its by simpa using hu')
    have l1 := r.length
    have l2 := h.length
    have hjl : j < its.length := (List.getElem?_eq_some_iff.mp hj).1
    have e1 : ds[j]? = some ds[j] := List.getElem?_eq_getElem (by omega)
    obtain ⟨y, e2, q2⟩ := h.get e1
    obtain ⟨u', e3, q3⟩ := r.get e2
    rw [hj] at e3; cases e3
    have pj : plain 6 ds[j] = true := List.all_eq_true.mp ps _ (List.getElem_mem _)
    have w : dcd (∃ j' : Nat, its[j']? = some u ∧ ds[j']? = some d) = decide (ds[j] = d) := by
      by_cases hd : ds[j] = d
      · rw [decide_eq_true hd, dcd_true ⟨j, hj, by rw [e1, hd]⟩]
      · rw [decide_eq_false hd]
        refine dcd_false ?_
        rintro ⟨j', g1, g2⟩
        obtain ⟨y', e2', q2'⟩ := h.get g2
        obtain ⟨u', e3', q3'⟩ := r.get e2'
        rw [g1] at e3'; cases e3'
        have ey : y = y' := q3.inj q3'
        subst ey
        exact hd (root_inj I 6 _ _ _ pj pd q2.root q2'.root)
    show SeqAt.EqAt A.in1 s u v (dcd (∃ j' : Nat, its[j']? = some u ∧ ds[j']? = some d))
    rw [w]
    exact (rc_eq I 6 A.in1 ds[j] d y x u v pj pd (by show A.units + 1 + 6 < cLine; omega) q2.root hx q3 rx).2.2
  · have l1 := r.length
    have l2 := h.length
    by_cases hd : d ∈ ds
    · rw [decide_eq_true hd]
      obtain ⟨j, hj⟩ := List.mem_iff_getElem?.mp hd
      have hjl : j < ds.length := (List.getElem?_eq_some_iff.mp hj).1
      rw [Array.any_eq_true]
      refine ⟨j, by simpa using (by omega : j < its.length), ?_⟩
      refine dcd_true ⟨j, ?_, hj⟩
      simp
    · rw [decide_eq_false hd]
      rw [Array.any_eq_false]
      intro i hi
      intro z
      obtain ⟨j, g1, g2⟩ := dcd_iff.mp z
      exact hd (List.mem_of_getElem? g2)
theorem op_inP (hu : X.A.units + 16 < cLine) : OpR X (compareOp .In) (rInP X.K false) := by
  intro pins s σ H x y v u Q I rx ry h
  obtain ⟨Fz, d, ds, p, xs, hx, rfl, hq, hd, p1, p2, q⟩ := h
  cases ry
  rcases hq with hq | hq
  · obtain ⟨its, r, pl, hz⟩ := I.list hq
    obtain ⟨e, h1, h2⟩ := in_items I hu hx rx r hd p1 p2
    exact SeqAt.in_listAt e pl.isList h1 ⟨.bl _, H, I, rfl, by rw [h2]; exact q⟩
  · obtain ⟨its, r, pl, hz⟩ := I.tuple hq
    obtain ⟨e, h1, h2⟩ := in_items I hu hx rx r hd p1 p2
    exact SeqAt.in_tupleAt e pl h1 ⟨.bl _, H, I, rfl, by rw [h2]; exact q⟩
theorem op_notInP (hu : X.A.units + 16 < cLine) : OpR X (compareOp .NotIn) (rInP X.K true) := by
  intro pins s σ H x y v u Q I rx ry h
  obtain ⟨Fz, d, ds, p, xs, hx, rfl, hq, hd, p1, p2, q⟩ := h
  cases ry
  rcases hq with hq | hq
  · obtain ⟨its, r, pl, hz⟩ := I.list hq
    obtain ⟨e, h1, h2⟩ := in_items I hu hx rx r hd p1 p2
    exact SeqAt.notIn_listAt e pl.isList h1 ⟨.bl _, H, I, rfl, by rw [h2]; exact q⟩
  · obtain ⟨its, r, pl, hz⟩ := I.tuple hq
    obtain ⟨e, h1, h2⟩ := in_items I hu hx rx r hd p1 p2
    exact SeqAt.notIn_tupleAt e pl h1 ⟨.bl _, H, I, rfl, by rw [h2]; exact q⟩
variable {a b : Expr} {ta tb : TPE} {pos : Pos}
theorem pu_in (hu : X.A.units + 16 < cLine) (ha : PuE X a ta) (hb : PuE X b tb) (hm : behindInMarks .In b = false := by first | exact nomark _ | rfl) : PuE X (.Compare a [.In] [b] pos) (t2 (pIn false) ta tb) := pu_cmp (op_inP hu) po_in ha hb hm
theorem put_in (hu : X.A.units + 16 < cLine) (ha : PuE X a ta) (hb : PuE X b tb) (hm : behindInMarks .In b = false := by first | exact nomark _ | rfl) : PuT X (.Compare a [.In] [b] pos) (tBl (t2 (pIn false) ta tb)) := put_cmp (op_inP hu) po_in ha hb hm
theorem put_notIn (hu : X.A.units + 16 < cLine) (ha : PuE X a ta) (hb : PuE X b tb) (hm : behindInMarks .NotIn b = false := by first | exact nomark _ | rfl) : PuT X (.Compare a [.NotIn] [b] pos) (tBl (t2 (pIn true) ta tb)) := put_cmp (op_notInP hu) po_in ha hb hm
end
def pIsN (neg : Bool) : P2 := fun d e Q => e = .non ∧ Q (.bl (if neg then !decide (d = .non) else decide (d = .non))) .frz
theorem root_isN {K : PySem.W.Frag} {Fz : FZ} {H : Hp} {d : PV} {x : V} (r : Root K Fz H d x) : decide (x = V.non) = decide (d = .non) := by
  cases d with
  | non => rw [root_non r]; simp
  | bl b => rw [root_bl r]; simp
  | int b => rw [root_int r]; simp
  | str b => rw [root_str r]; simp
  | tup ds => obtain ⟨a, xs, rfl, _⟩ := root_tup r; simp
  | lst ds => obtain ⟨a, xs, rfl, _⟩ := root_lst r; simp
  | ty n => simp only [Root, Den] at r; rw [r]; simp
  | dK ks ds => simp only [Root] at r; obtain ⟨a, xs, rfl, _⟩ := r; simp
  | dT ks ds => simp only [Root] at r; obtain ⟨a, xs, rfl, _⟩ := r; simp
theorem po_isN {K : PySem.W.Frag} : POp K (fun x y H Q => y = .non ∧ Q (.bl (decide (x = .non))) H) (pIsN false) where
  mono d e Q Q' m h := ⟨h.1, m _ _ h.2⟩
  run Fz H x y d e Q al rx ry h := by
    obtain ⟨rfl, q⟩ := h
    refine ⟨root_non ry, ?_⟩
    rw [root_isN rx]
    exact q _ Fz H (.val al (by simp only [Den]; rfl))
theorem po_notN {K : PySem.W.Frag} : POp K (fun x y H Q => y = .non ∧ Q (.bl (!decide (x = .non))) H) (pIsN true) where
  mono d e Q Q' m h := ⟨h.1, m _ _ h.2⟩
  run Fz H x y d e Q al rx ry h := by
    obtain ⟨rfl, q⟩ := h
    refine ⟨root_non ry, ?_⟩
    rw [root_isN rx]
    exact q _ Fz H (.val al (by simp only [Den]; rfl))
section
variable {X : Cx} {a b : Expr} {ta tb : TPE} {pos : Pos}
theorem put_isN (ha : PuE X a ta) (hb : PuE X b tb) (hm : behindInMarks .Is b = false := by first | exact nomark _ | rfl) : PuT X (.Compare a [.Is] [b] pos) (tBl (t2 (pIsN false) ta tb)) := put_cmp op_isN po_isN ha hb hm
theorem put_notN (ha : PuE X a ta) (hb : PuE X b tb) (hm : behindInMarks .IsNot b = false := by first | exact nomark _ | rfl) : PuT X (.Compare a [.IsNot] [b] pos) (tBl (t2 (pIsN true) ta tb)) := put_cmp op_notN po_notN ha hb hm
end
end PL
set_option Elab.async false
set_option linter.all false
set_option maxRecDepth 100000
set_option maxHeartbeats 4000000
namespace PL
open PySem PySem.Spec L2
open PyProof.Rows hiding St
theorem bList : bootBuiltins "list" = some (.type "list") := by decide +kernel
theorem bTuple : bootBuiltins "tuple" = some (.type "tuple") := by decide +kernel
theorem bDict : bootBuiltins "dict" = some (.type "dict") := by decide +kernel
theorem bStr : bootBuiltins "str" = some (.type "str") := by decide +kernel
theorem bInt : bootBuiltins "int" = some (.type "int") := by decide +kernel
theorem bBool : bootBuiltins "bool" = some (.type "bool") := by decide +kernel
theorem bLen : bootBuiltins "len" = some (.builtin "len") := by decide +kernel
theorem bIsi : bootBuiltins "isinstance" = some (.builtin "isinstance") := by decide +kernel
theorem bMax : bootBuiltins "max" = some (.builtin "max") := by decide +kernel
theorem bMin : bootBuiltins "min" = some (.builtin "min") := by decide +kernel
theorem rootL1 {K : PySem.W.Frag} {Fz : FZ} {H : Hp} {d : PV} {vs : List V} (h : RootL K Fz H [d] vs) : ∃ v, vs = [v] ∧ Root K Fz H d v := by
  cases h with
  | cons r t => cases t; exact ⟨_, rfl, r⟩
theorem rootL2 {K : PySem.W.Frag} {Fz : FZ} {H : Hp} {d e : PV} {vs : List V} (h : RootL K Fz H [d, e] vs) : ∃ v u, vs = [v, u] ∧ Root K Fz H d v ∧ Root K Fz H e u := by
  cases h with
  | cons r t =>
    cases t with
    | cons r2 t => cases t; exact ⟨_, _, rfl, r, r2⟩
theorem Post.newL {K : PySem.W.Frag} {Fz : FZ} {H : Hp} {p : Addr} {ds : List PV} {xs : List V} (al : ∀ b, Fz b → H b ≠ none) (hp : H p = none) (h : DenL K Fz H ds xs) : Post K [] [] Fz H Fz (upd H p (.lst xs)) (.lst ds) .new (.ref p) :=
  ⟨Ext.laid ⟨Same.refl H, fun _ h => h, fun _ h => .inl h, al⟩ hp, p, rfl, hp, fun z => al p z hp, xs, upd_same, DenL.mono (Keep.of (fun b u e => by rw [upd_ne (ne_of_none e hp)]; exact e)) (fun _ h => h) _ _ h⟩
theorem Post.newT {K : PySem.W.Frag} {Fz : FZ} {H : Hp} {p : Addr} {ds : List PV} {xs : List V} (al : ∀ b, Fz b → H b ≠ none) (hp : H p = none) (h : DenL K Fz H ds xs) : Post K [] [] Fz H Fz (upd H p (.tup xs)) (.tup ds) .frz (.ref p) := by
  refine ⟨Ext.laid ⟨Same.refl H, fun _ h => h, fun _ h => .inl h, al⟩ hp, ?_⟩
  show Den _ _ _ _ _
  simp only [Den]
  exact ⟨p, xs, rfl, SqT.of upd_same, DenL.mono (Keep.of (fun b u e => by rw [upd_ne (ne_of_none e hp)]; exact e)) (fun _ h => h) _ _ h⟩
def LenP : PV → Nat → Prop
  | .str y, n => y.length ≤ sizeLine ∧ n = y.length
  | .lst ds, n => n = ds.length
  | .tup ds, n => n = ds.length
  | .dK ks _, n => n = ks.length
  | _, _ => False
def fLen : PF := fun ds Q => ∃ d n, ds = [d] ∧ LenP d n ∧ Q (.int n) .frz
def rLen (K : PySem.W.Frag) : List V → Hp → VK → Prop := fun xs H Q => (∃ x n, xs = [x] ∧ LenV K x H n ∧ Q (.int n) H) ∨ ∃ a kvs, xs = [.ref a] ∧ Rd H a (.dK kvs) ∧ Q (.int kvs.length) H
theorem call_lenP {X : Cx} : CallR X (.builtin "len") (rLen X.K) := by
  intro pins s σ H xs us Q I r h
  rcases h with h | ⟨a, kvs, rfl, ha, q⟩
  · exact call_len pins s σ H xs us Q I r h
  · obtain ⟨u, rfl, ru⟩ := vals1 r
    cases ru
    exact d_len I ha fun t s' I' => ⟨.int kvs.length, H, I', ⟨t, rfl⟩, q⟩
theorem pc_len {K : PySem.W.Frag} : PCall K (rLen K) fLen where
  mono ds Q Q' m h := by obtain ⟨d, n, e1, e2, q⟩ := h; exact ⟨d, n, e1, e2, m _ _ q⟩
  run Fz H ds vs Q al r h := by
    obtain ⟨d, n, rfl, e, q⟩ := h
    obtain ⟨v, rfl, rv⟩ := rootL1 r
    have q' := q (.int n) Fz H (.val al (by simp only [Den]))
    cases d with
    | str y => cases root_str rv; exact .inl ⟨_, n, rfl, e, q'⟩
    | lst ds => obtain ⟨a, xs, rfl, h1, h2⟩ := root_lst rv; exact .inl ⟨_, n, rfl, .inl ⟨xs, h1, by rw [← h2.length]; exact e⟩, q'⟩
    | tup ds => obtain ⟨a, xs, rfl, h1, h2⟩ := root_tup rv; exact .inl ⟨_, n, rfl, .inr ⟨xs, h1, by rw [← h2.length]; exact e⟩, q'⟩
    | dK ks ds =>
      simp only [Root] at rv
      obtain ⟨a, xs, rfl, h1, h2, h3⟩ := rv
      have e' : n = ks.length := e
      refine .inr ⟨a, _, rfl, h1, ?_⟩
      rw [List.length_zip, ← h2, Nat.min_self, ← e']
      exact q'
    | non => exact e.elim
    | bl b => exact e.elim
    | int i => exact e.elim
    | ty n => exact e.elim
    | dT ks ds => exact e.elim
def fList : PF := fun ds Q => ∃ es, (ds = [.lst es] ∨ ds = [.tup es]) ∧ Q (.lst es) .new
def fTuple : PF := fun ds Q => ∃ es, (ds = [.lst es] ∨ ds = [.tup es]) ∧ Q (.tup es) .frz
theorem pc_list {K : PySem.W.Frag} : PCall K (rListOf K) fList where
  mono ds Q Q' m h := by obtain ⟨es, e, q⟩ := h; exact ⟨es, e, m _ _ q⟩
  run Fz H ds vs Q al r h := by
    obtain ⟨es, e, q⟩ := h
    rcases e with rfl | rfl
    · obtain ⟨v, rfl, rv⟩ := rootL1 r
      obtain ⟨a, xs, rfl, h1, h2⟩ := root_lst rv
      exact ⟨a, xs, rfl, .inl h1, fun l hl => q _ Fz _ (.newL al hl h2)⟩
    · obtain ⟨v, rfl, rv⟩ := rootL1 r
      obtain ⟨a, xs, rfl, h1, h2⟩ := root_tup rv
      exact ⟨a, xs, rfl, .inr h1, fun l hl => q _ Fz _ (.newL al hl h2)⟩
theorem pc_tuple {K : PySem.W.Frag} : PCall K (rTupOf K) fTuple where
  mono ds Q Q' m h := by obtain ⟨es, e, q⟩ := h; exact ⟨es, e, m _ _ q⟩
  run Fz H ds vs Q al r h := by
    obtain ⟨es, e, q⟩ := h
    rcases e with rfl | rfl
    · obtain ⟨v, rfl, rv⟩ := rootL1 r
      obtain ⟨a, xs, rfl, h1, h2⟩ := root_lst rv
      exact ⟨a, xs, rfl, .inl ⟨h1, fun l hl => q _ Fz _ (.newT al hl h2)⟩⟩
    · obtain ⟨v, rfl, rv⟩ := rootL1 r
      obtain ⟨a, xs, rfl, h1, h2⟩ := root_tup rv
      exact ⟨a, xs, rfl, .inr ⟨h1, q _ Fz H (.val al (by simp only [Den]; exact ⟨a, xs, rfl, h1, h2⟩))⟩⟩
theorem strs_denl {K : PySem.W.Frag} {Fz : FZ} {H : Hp} : ∀ (ss : List Str), DenL K Fz H (ss.map PV.str) (ss.map V.str)
  | [] => DenL.nil
  | s :: r => by rw [List.map_cons, List.map_cons]; exact DenL.cons (by simp only [Den]) (strs_denl r)
def fSortS : PF := fun ds Q => ∃ ss : List Str, ds = [.lst (ss.map PV.str)] ∧ ss.length < 64 ∧ ∀ zs, zs.Perm ss → sortedS zs = true → Q (.lst (zs.map PV.str)) .new
section
variable {X : Cx} {e : Expr} {es : List Expr} {te : TPE} {t : TPA} {p p1 p2 pos pos2 : Pos}
theorem pu_len (hg : Gl X "len") (hm : X.mg "len" = none) (ha : PuA X (e :: es) t) (he : starEach (e :: es) X.env = (false, eval e X.env) :: starEach es X.env := by rfl) (hpl : (backTo pos (starEach es X.env)).any (·.1) = false := by rfl) : PuE X (.Call (.Name "len" p) (e :: es) [] pos) (tB fLen t) :=
  pu_callB call_lenP pc_len hg hm bLen ha (by decide) (by decide) he hpl
theorem pu_list (hg : Gl X "list") (hm : X.mg "list" = none) (ha : PuA X (e :: es) t) (he : starEach (e :: es) X.env = (false, eval e X.env) :: starEach es X.env := by rfl) (hpl : (backTo pos (starEach es X.env)).any (·.1) = false := by rfl) : PuE X (.Call (.Name "list" p) (e :: es) [] pos) (tB fList t) :=
  pu_callTy call_list_of pc_list hg hm bList ha (by decide) (by decide) he hpl
theorem pu_tuple (hg : Gl X "tuple") (hm : X.mg "tuple" = none) (ha : PuA X (e :: es) t) (he : starEach (e :: es) X.env = (false, eval e X.env) :: starEach es X.env := by rfl) (hpl : (backTo pos (starEach es X.env)).any (·.1) = false := by rfl) : PuE X (.Call (.Name "tuple" p) (e :: es) [] pos) (tB fTuple t) :=
  pu_callTy call_tuple_of pc_tuple hg hm bTuple ha (by decide) (by decide) he hpl
def pSortSet (te : TPE) : TPE := fun ρ Q => te ρ fun d _ => ∃ ss : List Str, d = .lst (ss.map PV.str) ∧ ss.length < 64 ∧ ∀ zs, zs.Nodup → (∀ x, x ∈ zs ↔ x ∈ ss) → sortedS zs = true → Q (.lst (zs.map PV.str)) .new
def pJoin (sep : Str) (te : TPE) : TPE := fun ρ Q => te ρ fun d _ => ∃ ss : List Str, d = .lst (ss.map PV.str) ∧ (ss.map (·.length)).sum + ss.length * sep.length ≤ 16777216 ∧ Q (.str (Txt.join sep ss)) .frz
end
def tyP : PV → String
  | .non => "NoneType"
  | .bl _ => "bool"
  | .int _ => "int"
  | .str _ => "str"
  | .ty _ => "type"
  | .tup _ => "tuple"
  | .lst _ => "list"
  | .dK _ _ => "dict"
  | .dT _ _ => "dict"
theorem kit_root {X : Cx} {pins : List (Addr × Obj)} {σ : St} {H : Hp} {s : Shared} {Fz : FZ} {d : PV} {x : V} {u : Value} (I : Inv X pins σ H s) (r : Root X.K Fz H d x) (rx : RelV x u) (hd : ∀ n, d ≠ .ty n) : ∃ P : Heap → Prop, PySem.W.KitX X.K u (.type (tyP d)) P ∧ P s.heap ∧ u ≠ .builtin "__main__.__loader__#opaque" := by
  cases d with
  | non => cases root_non r; cases (show u = Value.none from rx); exact ⟨_, PySem.W.kitx_none, True.intro, fun z => nomatch z⟩
  | bl y => cases root_bl r; cases (show u = Value.bool y from rx); exact ⟨_, PySem.W.kitx_bool, True.intro, fun z => nomatch z⟩
  | int i => cases root_int r; obtain ⟨t, q⟩ := (show ∃ t, u = Value.int i t from rx); cases q; exact ⟨_, PySem.W.kitx_int, True.intro, fun z => nomatch z⟩
  | str y => cases root_str r; obtain ⟨t, q⟩ := (show ∃ t, u = Value.str y t from rx); cases q; exact ⟨_, PySem.W.kitx_str, True.intro, fun z => nomatch z⟩
  | ty n => exact absurd rfl (hd n)
  | lst ds =>
    obtain ⟨a, xs, rfl, h1, _⟩ := root_lst r
    cases (show u = Value.ref a from rx)
    obtain ⟨its, _, ⟨o, n, e, c, _⟩, _⟩ := I.list h1
    exact ⟨_, PySem.W.kitx_list, ⟨o, e, c⟩, fun z => nomatch z⟩
  | tup ds =>
    obtain ⟨a, xs, rfl, h1, _⟩ := root_tup r
    cases (show u = Value.ref a from rx)
    obtain ⟨its, _, ⟨o, e, c, _⟩, _⟩ := I.tuple h1
    exact ⟨_, PySem.W.kitx_tuple, ⟨o, e, c⟩, fun z => nomatch z⟩
  | dK ks ds =>
    simp only [Root] at r
    obtain ⟨a, xs, rfl, h1, _⟩ := r
    cases (show u = Value.ref a from rx)
    obtain ⟨_, _, vs, _, o, es, ep, e, ex, _⟩ := dk_rd I.hok h1
    exact ⟨_, PySem.W.kitx_dict, ⟨o, e, ex.1⟩, fun z => nomatch z⟩
  | dT ks ds =>
    simp only [Root] at r
    obtain ⟨a, xs, rfl, h1, _⟩ := r
    cases (show u = Value.ref a from rx)
    obtain ⟨_, _, vs, _, o, es, ep, e, ex, _⟩ := dt_rd I.hok h1
    exact ⟨_, PySem.W.kitx_dict, ⟨o, e, ex.1⟩, fun z => nomatch z⟩
def fIsi (K : PySem.W.Frag) : PF := fun ds Q => (∃ d c, ds = [d, .ty c] ∧ (∀ n, d ≠ .ty n) ∧ ∃ b, PySem.W.kitOne K (.type (tyP d)) (.type c) = some b ∧ Q (.bl b) .frz) ∨
  ∃ d es, ds = [d, .tup es] ∧ (∀ n, d ≠ .ty n) ∧ ∃ (cs : List String) (b : Bool), es = cs.map PV.ty ∧ PySem.W.kitAny K (.type (tyP d)) (cs.map Value.type) = some b ∧ Q (.bl b) .frz
def rIsiP (K : PySem.W.Frag) : List V → Hp → VK → Prop := fun xs H Q => ∃ Fz d x b, Root K Fz H d x ∧ (∀ n, d ≠ .ty n) ∧ ((∃ c, xs = [x, .ty c] ∧ PySem.W.kitOne K (.type (tyP d)) (.type c) = some b) ∨ ∃ (p : Addr) (cs : List String), xs = [x, .ref p] ∧ SqT K H p (cs.map V.ty) ∧ PySem.W.kitAny K (.type (tyP d)) (cs.map Value.type) = some b) ∧ Q (.bl b) H
theorem call_isiP {X : Cx} : CallR X (.builtin "isinstance") (rIsiP X.K) := by
  intro pins s σ H xs us Q I r h
  obtain ⟨Fz, d, x, b, rt, hd, e, q⟩ := h
  rcases e with ⟨c, rfl, e⟩ | ⟨p, cs, rfl, hp, e⟩
  · obtain ⟨u, w', rfl, r1, r2⟩ := vals2 r
    cases r2
    obtain ⟨P, Z, hP, ne⟩ := kit_root I rt r1 hd
    exact PySem.W.kia_one Z I.kIn hP e ne fun tk => ⟨.bl b, H, I.tok tk, rfl, q⟩
  · obtain ⟨u, w', rfl, r1, r2⟩ := vals2 r
    cases r2
    obtain ⟨P, Z, hP, ne⟩ := kit_root I rt r1 hd
    obtain ⟨its, rv, ⟨⟨cls, dd, data, sl⟩, ho, hc, n, hdt⟩, hzz⟩ := I.tuple hp
    simp only at hc hdt
    subst hc hdt
    have ei : its = cs.map Value.type := by
      clear hp ho e hzz
      induction cs generalizing its with
      | nil => cases rv; rfl
      | cons c cs ih =>
        cases rv with
        | cons q1 q2 => rw [show _ = Value.type c from q1, ih _ q2]; rfl
    subst ei
    exact PySem.W.kia_tup Z I.kIn hP ho e ne fun tk => ⟨.bl b, H, I.tok tk, rfl, q⟩
theorem denl_tys {K : PySem.W.Frag} {Fz : FZ} {H : Hp} : ∀ {ss : List String} {xs : List V}, DenL K Fz H (ss.map PV.ty) xs → xs = ss.map V.ty
  | [], xs, h => by rw [List.map_nil] at h; simp only [DenL] at h; exact h
  | s :: r, xs, h => by
    rw [List.map_cons] at h
    simp only [DenL] at h
    obtain ⟨v, t, z, h1, h2⟩ := h
    simp only [Den] at h1
    subst z h1
    rw [List.map_cons, denl_tys h2]
theorem pc_isi {K : PySem.W.Frag} : PCall K (rIsiP K) (fIsi K) where
  mono ds Q Q' m h := by
    rcases h with ⟨d, c, e, hd, b, e2, q⟩ | ⟨d, es, e, hd, cs, b, e2, e3, q⟩
    · exact .inl ⟨d, c, e, hd, b, e2, m _ _ q⟩
    · exact .inr ⟨d, es, e, hd, cs, b, e2, e3, m _ _ q⟩
  run Fz H ds vs Q al r h := by
    rcases h with ⟨d, c, rfl, hd, b, e, q⟩ | ⟨d, es, rfl, hd, cs, b, rfl, e, q⟩
    · have q' := q (.bl b) Fz H (.val al (by simp only [Den]))
      obtain ⟨v, u, rfl, r1, r2⟩ := rootL2 r
      simp only [Root, Den] at r2
      subst r2
      exact ⟨Fz, d, v, b, r1, hd, .inl ⟨c, rfl, e⟩, q'⟩
    · have q' := q (.bl b) Fz H (.val al (by simp only [Den]))
      obtain ⟨v, u, rfl, r1, r2⟩ := rootL2 r
      obtain ⟨a, xs, rfl, h1, h2⟩ := root_tup r2
      have := denl_tys h2
      subst this
      exact ⟨Fz, d, v, b, r1, hd, .inr ⟨a, cs, rfl, h1, e⟩, q'⟩
section
variable {X : Cx} {e : Expr} {es : List Expr} {te : TPE} {t : TPA} {p p1 p2 pos pos2 : Pos}
theorem pu_isi {K : PySem.W.Frag} (hK : X.K = K) (hg : Gl X "isinstance") (hm : X.mg "isinstance" = none) (ha : PuA X (e :: es) t) (he : starEach (e :: es) X.env = (false, eval e X.env) :: starEach es X.env := by rfl) (hpl : (backTo pos (starEach es X.env)).any (·.1) = false := by rfl) : PuE X (.Call (.Name "isinstance" p) (e :: es) [] pos) (tB (fIsi K) t) := by
  subst hK
  exact pu_callB call_isiP pc_isi hg hm bIsi ha (by decide) (by decide) he hpl
end
abbrev TPO := PEnv → (Option Int → Prop) → Prop
def liftO (K : PySem.W.Frag) (t : TPO) : TO := fun σ H Q => ∃ ρ Fz, Rel K Fz ρ σ H ∧ t ρ fun o => ∀ Fz' H', Ext Fz H Fz' H' → Q o H'
structure PuO (X : Cx) (e : Option Expr) (t : TPO) : Prop where
  mono : ∀ ρ Q Q', (∀ o, Q o → Q' o) → t ρ Q → t ρ Q'
  run : PO X e (liftO X.K t)
theorem PO.weak {X : Cx} {e : Option Expr} {t t' : TO} (h : PO X e t) (w : ∀ σ H Q, t' σ H Q → t σ H Q) : PO X e t' := fun pins s σ H Q I q => h pins s σ H Q I (w σ H Q q)
def oNone : TPO := fun _ Q => Q none
def oSome (te : TPE) : TPO := fun ρ Q => te ρ fun d _ => ∃ i, d = .int i ∧ Q (some i)
theorem puo_none {X : Cx} : PuO X none oNone where
  mono ρ Q Q' m h := m _ h
  run := PO.weak po_none fun σ H Q h => by
    obtain ⟨ρ, Fz, R, h⟩ := h
    exact h Fz H ⟨Same.refl H, fun _ h => h, fun _ h => .inl h, R.al⟩
theorem puo_some {X : Cx} {e : Expr} {te : TPE} (h : PuE X e te) : PuO X (some e) (oSome te) where
  mono ρ Q Q' m q := h.mono ρ _ _ (fun d k ⟨i, e, q⟩ => ⟨i, e, m _ q⟩) q
  run := PO.weak (po_some h.run) fun σ H Q q => by
    obtain ⟨ρ, Fz, R, q⟩ := q
    exact ⟨ρ, Fz, R, h.mono ρ _ _ (fun d k ⟨i, e, q⟩ v F1 H1 p1 => ⟨i, by subst e; exact root_int (p1.root R), q F1 H1 p1.ext⟩) q⟩
def cutP (xs : List PV) (lo hi : Option Int) : List PV := (xs.drop (HT.sIx xs.length 0 lo)).take (HT.sIx xs.length xs.length hi - HT.sIx xs.length 0 lo)
def pSlL (te : TPE) (tl th : TPO) : TPE := fun ρ Q => te ρ fun d _ => tl ρ fun l => th ρ fun u => ∃ ds, d = .lst ds ∧ Q (.lst (cutP ds l u)) .new
theorem cut_den {K : PySem.W.Frag} {Fz : FZ} {H : Hp} {ds : List PV} {xs : List V} {lo hi : Option Int} (h : DenL K Fz H ds xs) : DenL K Fz H (cutP ds lo hi) (cutV xs lo hi) := by
  unfold cutP cutV
  rw [h.length]
  exact (h.drop _).take _
section
variable {X : Cx} {e a b : Expr} {te ta tb : TPE} {lo hi : Option Expr} {tl th : TPO} {pos p2 : Pos}
theorem pu_slice (he : PuE X e te) (hl : PuO X lo tl) (hu : PuO X hi th) : PuE X (.Subscript e (.Slice lo hi none p2) pos) (pSlL te tl th) where
  mono ρ Q Q' m h := he.mono ρ _ _ (fun d k h => hl.mono ρ _ _ (fun l h => hu.mono ρ _ _ (fun u ⟨ds, e, q⟩ => ⟨ds, e, m _ _ q⟩) h) h) h
  run := PE.weak (pe_slice sl_list he.run hl.run hu.run) fun σ H Q h => by
    obtain ⟨ρ, Fz, R, h⟩ := h
    refine ⟨ρ, Fz, R, he.mono ρ _ _ (fun d k q v F1 H1 p1 => ?_) h⟩
    refine ⟨ρ, F1, R.ext p1.ext, hl.mono ρ _ _ (fun l q F2 H2 x2 => ?_) q⟩
    refine ⟨ρ, F2, (R.ext p1.ext).ext x2, hu.mono ρ _ _ (fun u q3 F3 H3 x3 => ?_) q⟩
    obtain ⟨ds, e3, q4⟩ := q3
    subst e3
    obtain ⟨a, xs, rfl, h1, h2⟩ := root_lst (((p1.root R).mono x2.same x2.sub).mono x3.same x3.sub)
    exact ⟨a, xs, rfl, h1, fun p hp => q4 _ F3 _ ((Post.newL x3.al hp (cut_den h2)).behind (p1.ext.trans (x2.trans x3)))⟩
def pRev (te : TPE) : TPE := fun ρ Q => te ρ fun d _ => ∃ ds, d = .lst ds ∧ Q (.lst ds.reverse) .new
def rCatP (K : PySem.W.Frag) : R2 := fun x y H Q => ∃ l b xs zs, x = .ref l ∧ y = .ref b ∧ (Rd H l (.lst xs) ∨ KX K l xs) ∧ (Rd H b (.lst zs) ∨ KX K b zs) ∧ xs.length + zs.length ≤ sizeLine ∧ ∀ p, H p = none → Q (.ref p) (upd H p (.lst (xs ++ zs)))
theorem lx_at {pins : List (Addr × Obj)} {σ : St} {H : Hp} {s : Shared} {l : Addr} {xs : List V} (I : Inv X pins σ H s) (h : Rd H l (.lst xs) ∨ KX X.K l xs) : ∃ (its : List Value) (n : Nat), Vals xs its ∧ s.heap.get? l = some { cls := .type "list", data := .seq its.toArray n } := by
  rcases h with h | ⟨its, n, h1, _, h3⟩
  · obtain ⟨z, its, n, r, e⟩ := (show ObjOk X.prog X.w H s.heap l (.lst xs) from h.ok I.hok)
    exact ⟨its, n, r, e⟩
  · exact ⟨its.toList, n, h3, by rw [Array.toArray_toList]; exact I.kIn l _ h1⟩
theorem op_catP : OpR X (binaryOp .Add) (rCatP X.K) := by
  intro pins s σ H x y v u Q I rx ry h
  obtain ⟨l, b, xs, zs, rfl, rfl, hH, hB, hz, q⟩ := h
  cases rx
  cases ry
  obtain ⟨its, n, r, e⟩ := lx_at I hH
  obtain ⟨its2, n2, r2, e2⟩ := lx_at I hB
  have l1 := r.length
  have l2 := r2.length
  refine PySem.P.add_list e e2 ?_ (by rw [List.size_toArray, List.size_toArray]; omega)
  have ea : its.toArray ++ its2.toArray = (its ++ its2).toArray := by simp
  rw [ea]
  exact ⟨.ref _, _, I.lnew (t' := s.toks) (r.append r2) (by rw [List.length_append]; omega), rfl, q _ I.fresh⟩
def pCat : P2 := fun d e Q => ∃ ds es, d = .lst ds ∧ e = .lst es ∧ ds.length + es.length ≤ sizeLine ∧ Q (.lst (ds ++ es)) .new
theorem po_cat {K : PySem.W.Frag} : POp K (rCatP K) pCat where
  mono d e Q Q' m h := by obtain ⟨ds, es, e1, e2, e3, q⟩ := h; exact ⟨ds, es, e1, e2, e3, m _ _ q⟩
  run Fz H x y d e Q al rx ry h := by
    obtain ⟨ds, es, rfl, rfl, e3, q⟩ := h
    obtain ⟨a, xs, rfl, h1, h2⟩ := root_lstR rx
    obtain ⟨b, ys, rfl, g1, g2⟩ := root_lstR ry
    have l1 := h2.length
    have l2 := g2.length
    exact ⟨a, b, xs, ys, rfl, rfl, h1, g1, by omega, fun p hp => q _ Fz _ (.newL al hp (h2.append g2))⟩
theorem pu_cat (ha : PuE X a ta) (hb : PuE X b tb) : PuE X (.BinOp a .Add b pos) (t2 pCat ta tb) := pu_op op_catP po_cat ha hb
end
end PL
set_option Elab.async false
set_option linter.all false
set_option maxRecDepth 100000
set_option maxHeartbeats 4000000
namespace PL
open PySem PySem.Spec L2
open PyProof.Rows hiding St
structure Fx (K : PySem.W.Frag) (mg : Str → Option Value) (x : Str) (st : Stmt) (ps : List Str) (f : Addr) (fd : FuncData) : Prop where
  fn : Fun K x x st f fd
  bd : Binds K fd ps []
  mg : mg x = some (.ref f)
structure Bl (mg : Str → Option Value) : Prop where
  range : mg "range" = none
  len : mg "len" = none
  list : mg "list" = none
  tuple : mg "tuple" = none
  sorted : mg "sorted" = none
  set : mg "set" = none
  isi : mg "isinstance" = none
  str : mg "str" = none
  int : mg "int" = none
  bool : mg "bool" = none
  dict : mg "dict" = none
  enumerate : mg "enumerate" = none
  zip : mg "zip" = none
  min : mg "min" = none
  max : mg "max" = none
  sum : mg "sum" = none
  all : mg "all" = none
  any : mg "any" = none
  reversed : mg "reversed" = none
  abs : mg "abs" = none
theorem kit_built {K : PySem.W.Frag} {T c : String} {b : Bool} (h1 : PySem.W.kitMeta c = true) (h2 : (fastBuiltinMro T).map (·.contains (.type c)) = some b) (h3 : (Value.type T == Value.type c) = false) : PySem.W.kitOne K (.type T) (.type c) = some b := by
  unfold PySem.W.kitOne PySem.W.kitCls
  rw [if_neg (by rw [h3]; decide)]
  dsimp only
  rw [if_pos h1]
  exact h2
theorem kit_same {K : PySem.W.Frag} {T : String} : PySem.W.kitOne K (.type T) (.type T) = some true := by
  unfold PySem.W.kitOne
  rw [if_pos (by simp)]
theorem kit_int_bool {K : PySem.W.Frag} : PySem.W.kitOne K (.type "int") (.type "bool") = some false := kit_built (by decide +kernel) (by decide +kernel) (by decide +kernel)
theorem loc2 {k i j : Nat} (h : i < k) (h2 : j < k) : LocGs k (gConsP (gNameP i) (gConsP (gNameP j) gNilP)) := fun ds ρ Q ⟨d, r, e, d2, r2, e2, q⟩ =>
  ⟨d, r, e, d2, r2, e2, q.1, q.2, by rw [List.length_set, List.length_set], fun l hl => by rw [List.getElem?_set_ne (by omega), List.getElem?_set_ne (by omega)]⟩
end PL
set_option Elab.async false
set_option linter.all false
set_option maxRecDepth 100000
set_option maxHeartbeats 4000000
namespace PL
open PySem PySem.Spec L2
open PyProof.Rows hiding St
theorem law_callP {P : Program} {w : World} {K : PySem.W.Frag} {mg mb : Str → Option Value} {CX : CXT} {k : Nat} {fa a : Addr} {fd : FuncData} {x : Str} {sp : Sp} {s₁ : Shared} {vs : List Value} {ns : List Int}
    (KX : K.In s₁.heap) (hns : s₁.heap.Ns mainGlobals mg) (hb : s₁.heap.Ns builtinsNs mb) (hbb : ∀ x : Str, x ≠ "__name__" → mb x = bootBuiltins x) (hlim : s₁.heap.NoLimit) (hg : s₁.gens = #[])
    (ha : s₁.heap.get? a = some { cls := .type "list", data := .seq vs.toArray }) (hi : IntsAre vs ns) (hl : ns.length ≤ sizeLine) (hr : Room k callerA)
    (F : ∀ base : Heap, K.In base → base.Ns mainGlobals mg → FnOk P w K mg base CX k fa fd [x] sp) (hbind : ∀ (s : Shared) (u : Value), BindsTo s fd ⟨[u], []⟩ [(x, u)])
    (hsp : ∀ H : Hp, Only H → (Rd H a (.lst (ns.map V.int)) ∨ PL.KX K a (ns.map V.int)) → sp [.ref a] H (fun v _ => v = .bl true) fun _ _ _ => False)
    (hCX : ∀ H e s', CX [] H s₁ (fun _ _ _ => False) e s' → False) :
    codeAny (model P w) callerA (.call (.ref fa) ⟨[.ref a], []⟩) (fun r s' => r = .ok (.ret (.bool true)) ∧ OldK s₁.heap s'.heap ∧ s'.os = s₁.os ∧ AllBare s'.gens) s₁ := by
  have rv := vals_ints hi
  have lenV := hi.length
  have core : ∀ H : Hp, Only H → (Rd H a (.lst (ns.map V.int)) ∨ PL.KX K a (ns.map V.int)) → HOk P w H s₁.heap → (∀ b, H b ≠ none → b = a) → (H a ≠ none → K.lookup a = none) →
      codeAny (model P w) callerA (.call (.ref fa) ⟨[.ref a], []⟩) (fun r s' => r = .ok (.ret (.bool true)) ∧ OldK s₁.heap s'.heap ∧ s'.os = s₁.os ∧ AllBare s'.gens) s₁ := by
    intro H hO hS hok hA hK
    have base_of : ∀ {b : Addr} {o : Obj}, s₁.heap.get? b = some o → H b = none → (hidT s₁.heap H).get? b = some o := fun e n => hidT_get e n
    have noA : ∀ {b : Addr} {o : Obj} {es : Array DictEntry} {ep : Nat}, s₁.heap.get? b = some o → o.data = .dict es ep → H b = none := fun {b o es ep} e d => by
      cases q : H b with
      | none => rfl
      | some u =>
        have e' : b = a := hA b (by rw [q]; simp)
        subst e'
        rw [ha] at e; cases e
        have d' : Data.seq vs.toArray _ = Data.dict es ep := d
        cases d'
    have nsK : ∀ {b : Addr} {m : Str → Option Value}, s₁.heap.Ns b m → (hidT s₁.heap H).Ns b m := fun {b m} ⟨o, es, ep, e, d, r⟩ => ⟨o, es, ep, base_of e (noA e d), d, r⟩
    have hKb : K.In (hidT s₁.heap H) := fun b o e => base_of (KX b o e) (by
      cases q : H b with
      | none => rfl
      | some u =>
        have e' : b = a := hA b (by rw [q]; simp)
        subst e'
        rw [hK (by rw [q]; simp)] at e; cases e)
    have hM : Mod K mg (hidT s₁.heap H) := ⟨hKb, nsK hns, ⟨mb, nsK hb, hbb⟩, let ⟨mc, h1, h2⟩ := hlim; ⟨mc, nsK h1, h2⟩⟩
    have e0 : Env0 P w K mg (hidT s₁.heap H) callerA [] s₁ H := ⟨rfl, hM, fun b o e => of_hidT e, Nat.le_of_eq (hidT_size _ _), trivial, fun b hb => absurd (show b ∈ ([] : List Addr) from hb) (by simp), hok, .of_eq hg⟩
    refine codeAny_mono ((F _ hKb (nsK hns)).run callerA [] s₁ H ⟨[.ref a], []⟩ [.ref a] [.ref a] _ _ hr e0 (hbind s₁ (.ref a)) (.cons rfl .nil) (hsp H hO hS)) fun r s' h => ?_
    cases r with
    | error e => exact (hCX H e s' h).elim
    | ok fl =>
      cases fl with
      | next => exact False.elim h
      | brk => exact False.elim h
      | cont => exact False.elim h
      | ret u =>
        obtain ⟨v, H', os, bare, un, hok', r', q⟩ := h
        have q' : v = .bl true := q
        subst q'
        obtain rfl : u = Value.bool true := r'
        refine ⟨rfl, OldK.of_keep fun b o e => ?_, os, bare⟩
        cases q : H b with
        | none => exact un.keep b o e q (by intro z; exact absurd (show b ∈ ([] : List Addr) from z) (by simp)) (by simp)
        | some u =>
          rcases hO b with z | ⟨ob, xs, z⟩
          · rw [q] at z; cases z
          · have z2 := un.frzs b ob _ z
            obtain ⟨e1, _⟩ := hok b _ z
            obtain ⟨e2, _⟩ := hok' b _ z2
            rw [e] at e1; cases e1
            exact e2
  cases hk : K.lookup a with
  | some o =>
    have e := KX a o hk
    rw [ha] at e
    cases e
    refine core (fun _ => none) (fun _ => .inl rfl) (.inr ⟨vs.toArray, _, hk, by rw [List.size_toArray, lenV]; exact hl, by simpa using rv⟩) (fun b u z => by have z' : (none : Option HO) = some u := z; cases z') (fun b z => absurd rfl z) fun z => absurd rfl z
  | none =>
    refine core (fun b => if b = a then some (.frz { cls := .type "list", data := .seq vs.toArray } (.lst (ns.map V.int))) else none) (fun b => ?_) (.inl (.inr ⟨{ cls := .type "list", data := .seq vs.toArray }, if_pos rfl⟩)) (fun b u z => ?_) (fun b z => ?_) fun _ => hk
    · by_cases hb : b = a
      · exact .inr ⟨_, _, if_pos hb⟩
      · exact .inl (if_neg hb)
    · by_cases hb : b = a
      · have z' := (if_pos hb).symm.trans z
        cases z'
        subst hb
        exact ⟨ha, by rw [List.length_map]; exact hl, vs, _, rv, ha⟩
      · have z' := (if_neg hb).symm.trans z
        cases z'
    · by_cases hb : b = a
      · exact hb
      · exact absurd (if_neg hb) z
theorem denl_ints {K : PySem.W.Frag} {Fz : FZ} {H : Hp} : ∀ (ns : List Int), DenL K Fz H (ns.map PV.int) (ns.map V.int)
  | [] => DenL.nil
  | n :: r => by rw [List.map_cons, List.map_cons]; exact DenL.cons (by simp only [Den]) (denl_ints r)
theorem law_sp {K : PySem.W.Frag} {H : Hp} {a : Addr} {ns : List Int} {F : PF} {E : XK} (m : MonoF F) (h : Rd H a (.lst (ns.map V.int)) ∨ KX K a (ns.map V.int)) (hF : F [.lst (ns.map PV.int)] fun d k => d = .bl true) : spP K F [.ref a] H (fun v _ => v = .bl true) E := by
  refine ⟨fun b => H b ≠ none, [.lst (ns.map PV.int)], fun b hb => hb, DenL.cons ?_ DenL.nil, m _ _ _ (fun d k e v F' H' p => ?_) hF⟩
  · simp only [Den]
    refine ⟨a, ns.map V.int, rfl, ?_, denl_ints ns⟩
    rcases h with h | h
    · refine .inl ⟨?_, h⟩
      rcases h with h | ⟨o, h⟩ <;> (show H a ≠ none; rw [h]; exact fun z => nomatch z)
    · exact .inr h
  · subst e
    cases k with
    | frz => have q : Den K F' H' (.bl true) v := p.opd; simpa only [Den] using q
    | new => obtain ⟨b, _, _, _, o⟩ := p.opd; exact o.elim
    | own i => obtain ⟨z, _⟩ := p.opd; simp at z
theorem walkP {l : PySem.W.OpenLaw} {k : Nat} {q : Program} {loose : List Str} {XP : (Str → Option Value) → Heap → Prop} {YP : World → Heap → Prop} {d : DefRec} {K : Params → PySem.W.Frag} {FL : PF} {x : Str}
    (hn : l.most = some 63) (hdf : d.params.defaults = []) (hr : Room k callerA) (m : MonoF FL)
    (hY : ∀ (w : World) (h : Heap), YP w h → (K w.params).In h)
    (F : ∀ (w : World) (mg : Str → Option Value) (fa : Addr) (h : Heap), (K w.params).In h → h.Ns mainGlobals mg → mg d.name = some (.ref fa) →
      ∃ fd : FuncData, (∀ (s : Shared) (u : Value), BindsTo s fd ⟨[u], []⟩ [(x, u)]) ∧ ∀ base : Heap, (K w.params).In base → base.Ns mainGlobals mg → FnOk l.prog w (K w.params) mg base CX0 k fa fd [x] (spP (K w.params) FL))
    (hF : ∀ ns : List Int, ns.length ≤ 63 → FL [.lst (ns.map PV.int)] fun d k => d = .bl true) :
    PySem.W.WalkO q loose XP YP l.row.toRowW d [] (fun f vs => PySem.call f vs) := by
  refine Att.attach_call hn hdf fun w s₀ s₁ mg mb fa o pm cd doc a vs ns G Y ho hd hcd hmg hobj hints hlen hg => ?_
  have KX := hY w _ Y
  obtain ⟨fd, hb, hFn⟩ := F w mg fa _ KX G.T.g hmg
  exact law_callP KX G.T.g G.T.b G.T.builtins G.T.nolimit hg hobj hints (Nat.le_trans hlen (by decide)) hr hFn hb (fun H hO hS => law_sp m hS (hF ns hlen)) fun H e s' z => z
end PL
set_option Elab.async false
set_option linter.all false
set_option maxRecDepth 100000
set_option maxHeartbeats 4000000
namespace L2
open PySem PySem.Spec PyProof.Rows
def thawAt (d : Addr) (H : Hp) : Hp := match H d with
  | some (.frz _ u) => upd H d u
  | _ => H
def Sw : HO → Prop
  | .dK _ => True
  | .dT _ => True
  | .frz _ _ => True
  | _ => False
section
variable {X : Cx} {pins : List (Addr × Obj)} {σ : List (Option V)} {H : Hp} {s : Shared} {d : Addr} {u v : HO}
theorem HOk.swap {P : Program} {w : World} {h : Heap} (ok : HOk P w H h) (e : H d = some u) (hu : Sw u) (new : ObjOk P w (upd H d v) h d v) : HOk P w (upd H d v) h := fun b o q => by
  by_cases hb : b = d
  · subst hb
    rw [upd_same] at q
    cases q
    exact new
  · rw [upd_ne hb] at q
    refine (ok b o q).stay (fun c v hc r => r) (fun c r => ?_) fun c xs r => ?_
    · have ne : c ≠ d := fun z => by subst z; rw [e] at r; cases r; exact hu
      rw [upd_ne ne]; exact r
    · have ne : c ≠ d := fun z => by subst z; rw [e] at r; cases r; exact hu
      rw [upd_ne ne]; exact r
theorem Inv.swap (I : Inv X pins σ H s) (e : H d = some u) (hu : Sw u) (hf : ∀ o t, X.H₀ d ≠ some (.frz o t)) (new : ObjOk X.prog X.w (upd H d v) s.heap d v) : Inv X pins σ (upd H d v) s := by
  have ne : ∀ b, H b = none → b ≠ d := fun b n z => by subst z; rw [e] at n; cases n
  refine ⟨I.ok, I.os, I.bare, ⟨I.base.keep, I.base.slot, fun b o q n hx => ?_, I.base.there, fun b xs q => ?_, fun b o t q => ?_, fun b ps q => ?_⟩, I.loc, I.cell, ?_, fun x c q => ?_, fun p hp => ?_, I.hok.swap e hu new, I.len⟩
  · have := I.base.free b o q n hx
    rw [upd_ne (ne b this)]; exact this
  · have := I.base.tups b xs q
    have nb : b ≠ d := fun z => by subst z; rw [e] at this; cases this; exact hu
    rw [upd_ne nb]; exact this
  · have nb : b ≠ d := fun z => by subst z; exact hf o t q
    rw [upd_ne nb]; exact I.base.frzs b o t q
  · obtain ⟨more, q'⟩ := I.base.tbls b ps q
    have nb : b ≠ d := fun z => by subst z; rw [e] at q'; cases q'; exact hu
    exact ⟨more, by rw [upd_ne nb]; exact q'⟩
  · rw [upd_ne (ne _ I.free)]; exact I.free
  · rw [upd_ne (ne _ (I.freeC x c q))]; exact I.freeC x c q
  · obtain ⟨p1, p2, p3⟩ := I.pin p hp
    exact ⟨p1, by rw [upd_ne (ne _ p2)]; exact p2, p3⟩
theorem Inv.nofrz (I : Inv X pins σ H s) (e : H d = some u) (hu : ∀ o t, u ≠ .frz o t) : ∀ o t, X.H₀ d ≠ some (.frz o t) := fun o t q => by
  have := I.base.frzs d o t q
  rw [e] at this
  exact hu o t (Option.some.inj this)
theorem Inv.freezeD {kvs : List (Key × V)} (I : Inv X pins σ H s) (e : H d = some (.dK kvs)) : ∃ o, s.heap.get? d = some o ∧ Inv X pins σ (upd H d (.frz o (.dK kvs))) s := by
  obtain ⟨z1, z2, vs, r, o, es, ep, ho, rest⟩ := (show ObjOk X.prog X.w H s.heap d (.dK kvs) from I.hok d _ e)
  exact ⟨o, ho, I.swap e trivial (I.nofrz e fun _ _ z => nomatch z) ⟨ho, z1, z2, vs, r, o, es, ep, ho, rest⟩⟩
theorem Inv.thaw (I : Inv X pins σ H s) (hf : ∀ o t, X.H₀ d ≠ some (.frz o t)) : Inv X pins σ (thawAt d H) s := by
  unfold thawAt
  split
  · rename_i o t e
    obtain ⟨ho, ot⟩ := (show ObjOk X.prog X.w H s.heap d (.frz o t) from I.hok d _ e)
    refine I.swap e trivial hf ?_
    refine ot.stay (fun c v hc r => r) (fun c r => ?_) fun c xs r => ?_
    · have ne : c ≠ d := fun z => by subst z; rw [e] at r; cases r
      rw [upd_ne ne]; exact r
    · have ne : c ≠ d := fun z => by subst z; rw [e] at r; cases r
      rw [upd_ne ne]; exact r
  · exact I
end
def ItK (d : Addr) (o : Obj) (kvs : List (Key × V)) : It :=
  ⟨fun i H => H d = some (.frz o (.dK kvs)) ∧ i < kvs.length, fun i H x H' => H' = H ∧ ∃ kv, kvs[i]? = some kv ∧ x = kV kv.1, fun i H => H d = some (.frz o (.dK kvs)) ∧ kvs.length ≤ i⟩
def ItV (d : Addr) (o : Obj) (kvs : List (Key × V)) : It :=
  ⟨fun i H => H d = some (.frz o (.dK kvs)) ∧ i < kvs.length, fun i H x H' => H' = H ∧ ∃ kv, kvs[i]? = some kv ∧ x = kv.2, fun i H => H d = some (.frz o (.dK kvs)) ∧ kvs.length ≤ i⟩
section
variable {P : Program} {w : World} {K : PySem.W.Frag} {tg : Expr}
theorem kv_get {kvs : List (Key × V)} {vs : List (Key × Value)} {i : Nat} {kv : Key × V} (r : KV kvs vs) (h : kvs[i]? = some kv) : ∃ u, vs[i]? = some (kv.1, u) ∧ RelV kv.2 u := by
  induction r generalizing i with
  | nil => simp at h
  | @cons p q ps qs h1 h2 ih =>
    cases i with
    | zero => simp at h; subst h; exact ⟨q.2, by simp [h1.1], h1.2⟩
    | succ i => simpa using ih (by simpa using h)
theorem rel_key {k : Key} {u : Value} (h : (mixKind P w).is k u = true) : RelV (kV k) u := by
  have h' : keyIs k u = true := h
  rcases keyIs_shape h' with ⟨i, t, rfl, rfl⟩ | ⟨x, t, rfl, rfl⟩
  · exact ⟨t, rfl⟩
  · exact ⟨t, rfl⟩
theorem frz_dict {X : Cx} {pins : List (Addr × Obj)} {σ : St} {H : Hp} {s : Shared} {d : Addr} {o : Obj} {kvs : List (Key × V)} (I : Inv X pins σ H s) (e : H d = some (.frz o (.dK kvs))) : s.heap.get? d = some o ∧ (d == sysModules) = false ∧ ∃ vs ep, KV kvs vs ∧ s.heap.DictAt (mixKind X.prog X.w) d vs ep := by
  obtain ⟨ho, _, hs, vs, r, hd⟩ := (show ObjOk X.prog X.w H s.heap d (.frz o (.dK kvs)) from I.hok d _ e)
  obtain ⟨ep, hd⟩ := hd.dictAt
  exact ⟨ho, hs, vs, ep, r, hd⟩
theorem frz_at {X : Cx} {pins : List (Addr × Obj)} {σ : St} {H : Hp} {s : Shared} {d : Addr} {o : Obj} {kvs : List (Key × V)} {es : Array DictEntry} {ep : Nat} (I : Inv X pins σ H s) (e : H d = some (.frz o (.dK kvs))) (hd : o.data = .dict es ep) : (d == sysModules) = false ∧ ∃ vs, KV kvs vs ∧ s.heap.DictAt (mixKind X.prog X.w) d vs ep := by
  obtain ⟨ho, hs, vs, ep', r, o', es', ho', c, hd', rest⟩ := frz_dict I e
  rw [ho] at ho'
  cases ho'
  rw [hd] at hd'
  injection hd' with e1 e2
  subst e1 e2
  exact ⟨hs, vs, r, o, es, ho, c, hd, rest⟩
theorem turn_keys (d it : Addr) (o : Obj) (kvs : List (Key × V)) {es : Array DictEntry} {ep : Nat} (hd : o.data = .dict es ep) : Turn P w K tg (ItK d o kvs) [it] it (fun i h => h.IsKeyIter it d i kvs.length ep) where
  mem := by simp
  obj := fun i h st b hb => by
    have e : b = it := by simpa using hb
    subst e
    obtain ⟨o, e, c, d⟩ := st
    exact ⟨o, e, fun v z => by rw [d] at z; cases z⟩
  keep := fun i h h' st k => by
    obtain ⟨o, e, r⟩ := st
    exact ⟨o, k it (by simp) o e, r⟩
  item := by
    intro X hP hw hK hc i pins s σ H E I hf st hg
    subst hP hw hK
    obtain ⟨hq, hi⟩ := hg
    obtain ⟨hs, vs, r, hm⟩ := frz_at I hq hd
    have hl : kvs.length = vs.length := KV.length r
    obtain ⟨u, hu, ru⟩ := kv_get r (List.getElem?_eq_getElem hi)
    obtain ⟨f0, f1, f2, f3, f4, f5⟩ := hf it (by simp)
    rw [hl] at st
    refine wpAny_pyNext_dict_item st hm hu fun key h' hk st' sb => ?_
    have I1 : Inv X pins σ H { s with heap := h' } := I.turned (t' := s.toks) (fun b o hb e => (sb.2 b hb).trans e) f0 f1 f3 f4 f5
    obtain ⟨o, e, c, d⟩ := id st'
    exact ⟨key, rfl, go_of (s := { s with heap := h' }) e c d (by decide) ⟨kV kvs[i].1, H, I1, rel_key hk, ⟨rfl, kvs[i], List.getElem?_eq_getElem hi, rfl⟩, by rw [hl]; exact st', fun b hb => (hf b hb).1⟩⟩
  done := by
    intro X hP hw hK hc i pins s σ H E I hf st hg
    subst hP hw hK
    obtain ⟨hq, hi⟩ := hg
    obtain ⟨hs, vs, r, hm⟩ := frz_at I hq hd
    have hl : kvs.length = vs.length := KV.length r
    obtain ⟨f0, f1, f2, f3, f4, f5⟩ := hf it (by simp)
    rw [hl] at st
    exact wpAny_pyNext_dict_end (I.ok.hd hc) st hm (List.getElem?_eq_none (by omega)) fun h' eb => ⟨rfl, I.turned (t' := s.toks) (fun b o hb e => eb b o hb e) f0 f1 f3 f4 f5⟩
  self := fun _ _ _ _ _ st h => wpAny_pyIter_keyiter st h
theorem turn_vals (d it : Addr) (o : Obj) (kvs : List (Key × V)) {es : Array DictEntry} {ep : Nat} (hd : o.data = .dict es ep) : Turn P w K tg (ItV d o kvs) [it] it (fun i h => h.IsValIter it d i kvs.length ep) where
  mem := by simp
  obj := fun i h st b hb => by
    have e : b = it := by simpa using hb
    subst e
    obtain ⟨o, e, c, d⟩ := st
    exact ⟨o, e, fun v z => by rw [d] at z; cases z⟩
  keep := fun i h h' st k => by
    obtain ⟨o, e, r⟩ := st
    exact ⟨o, k it (by simp) o e, r⟩
  item := by
    intro X hP hw hK hc i pins s σ H E I hf st hg
    subst hP hw hK
    obtain ⟨hq, hi⟩ := hg
    obtain ⟨hs, vs, r, hm⟩ := frz_at I hq hd
    have hl : kvs.length = vs.length := KV.length r
    obtain ⟨u, hu, ru⟩ := kv_get r (List.getElem?_eq_getElem hi)
    obtain ⟨f0, f1, f2, f3, f4, f5⟩ := hf it (by simp)
    rw [hl] at st
    refine wpAny_pyNext_values_item st hm hu fun h' st' sb => ?_
    have I1 : Inv X pins σ H { s with heap := h' } := I.turned (t' := s.toks) (fun b o hb e => (sb.2 b hb).trans e) f0 f1 f3 f4 f5
    obtain ⟨o, e, c, d⟩ := id st'
    exact ⟨u, rfl, go_of (s := { s with heap := h' }) e c d (by decide) ⟨kvs[i].2, H, I1, ru, ⟨rfl, kvs[i], List.getElem?_eq_getElem hi, rfl⟩, by rw [hl]; exact st', fun b hb => (hf b hb).1⟩⟩
  done := by
    intro X hP hw hK hc i pins s σ H E I hf st hg
    subst hP hw hK
    obtain ⟨hq, hi⟩ := hg
    obtain ⟨hs, vs, r, hm⟩ := frz_at I hq hd
    have hl : kvs.length = vs.length := KV.length r
    obtain ⟨f0, f1, f2, f3, f4, f5⟩ := hf it (by simp)
    rw [hl] at st
    exact wpAny_pyNext_values_end (I.ok.hd hc) st hm (List.getElem?_eq_none (by omega)) fun h' eb => ⟨rfl, I.turned (t' := s.toks) (fun b o hb e => eb b o hb e) f0 f1 f3 f4 f5⟩
  self := fun _ _ _ _ _ st h => wpAny_pyIter_valiter st h
end
section
variable {X : Cx} {tg l : Expr} {td : TE} {apos cpos : Pos}
def NoFrz (X : Cx) (d : Addr) : Prop := ∀ o t, X.H₀ d ≠ some (.frz o t)
def iD (X : Cx) (It' : Addr → Obj → List (Key × V) → It) (td : TE) : TI := fun σ H R => td σ H fun x H1 => ∃ d kvs, x = .ref d ∧ ((H1 d = some (.dK kvs) ∧ (NoFrz X d → ∀ o, R (It' d o kvs) (upd H1 d (.frz o (.dK kvs))))) ∨ ∃ o, H1 d = some (.frz o (.dK kvs)) ∧ R (It' d o kvs) H1)
theorem iD_frz {It' : Addr → Obj → List (Key × V) → It} {pins : List (Addr × Obj)} {σ : St} {H1 : Hp} {s : Shared} {R : It → Hp → Prop} {d : Addr} {kvs : List (Key × V)} (I : Inv X pins σ H1 s) (h : (H1 d = some (.dK kvs) ∧ (NoFrz X d → ∀ o, R (It' d o kvs) (upd H1 d (.frz o (.dK kvs))))) ∨ ∃ o, H1 d = some (.frz o (.dK kvs)) ∧ R (It' d o kvs) H1) :
    ∃ (o : Obj) (es : Array DictEntry) (ep : Nat) (H2 : Hp), o.data = .dict es ep ∧ Inv X pins σ H2 s ∧ H2 d = some (.frz o (.dK kvs)) ∧ R (It' d o kvs) H2 := by
  have dat : ∀ {H2 : Hp} {o : Obj}, Inv X pins σ H2 s → H2 d = some (.frz o (.dK kvs)) → ∃ es ep, o.data = .dict es ep := fun {H2 o} I2 e => by
    obtain ⟨ho, _, vs, ep, _, o', es, ho', _, hd', _⟩ := frz_dict I2 e
    rw [ho] at ho'; cases ho'
    exact ⟨es, ep, hd'⟩
  rcases h with ⟨e, h⟩ | ⟨o, e, h⟩
  · obtain ⟨o, ho, I2⟩ := I.freezeD e
    obtain ⟨es, ep, q⟩ := dat I2 upd_same
    exact ⟨o, es, ep, _, q, I2, upd_same, h (I.nofrz e fun _ _ z => nomatch z) o⟩
  · obtain ⟨es, ep, q⟩ := dat I e
    exact ⟨o, es, ep, H1, q, I, e, h⟩
theorem pi_dict (hl : PE X l td) : PI X tg l (iD X ItK td) := by
  intro pins s σ H R I h
  refine thn (hl pins s σ H _ I h) fun v s1 ⟨x, H1, I1, r1, q1⟩ => ?_
  obtain ⟨d, kvs, e, q1⟩ := q1
  subst e
  cases r1
  obtain ⟨o, es, ep, H2, hd, I2, e2, q2⟩ := iD_frz I1 q1
  obtain ⟨hs, vs, r, hm⟩ := frz_at I2 e2 hd
  have hl : kvs.length = vs.length := KV.length r
  refine wpAny_pyIter_dict hs hm ?_
  refine ⟨s1.heap.objs.size, [s1.heap.objs.size], _, _, H2, rfl, I2.kept (t' := s1.toks) fun b o e => Heap.get?_push_of_some _ e, turn_keys d _ o kvs hd, ⟨_, Heap.get?_push_size _ rfl, rfl, by rw [hl]; rfl⟩, fun b hb => ?_, q2⟩
  have e : b = s1.heap.objs.size := by simpa using hb
  subst e
  exact I2.fpOk (Nat.le_refl _) (I2.hok.fresh (Nat.le_refl _))
theorem pi_values (ho : PE X l td) (hbase : attributeBase l "values" X.env (eval l X.env) = eval l X.env := by rfl) (hline : (apos.endLine == cpos.line) = true := by rfl) : PI X tg (.Call (.Attribute l "values" apos) [] [] cpos) (iD X ItV td) := by
  intro pins s σ H R I h
  refine wpAny_Call_method0_late hbase hline (thn (ho pins s σ H _ I h) fun v s1 ⟨x, H1, I1, r1, q1⟩ => ?_)
  obtain ⟨d, kvs, e, q1⟩ := q1
  subst e
  cases r1
  obtain ⟨o, es, ep, H2, hd, I2, e2, q2⟩ := iD_frz I1 q1
  obtain ⟨hs, vs, r, hm⟩ := frz_at I2 e2 hd
  have hl : kvs.length = vs.length := KV.length r
  obtain ⟨o', es', ho', hc', _⟩ := id hm
  refine ⟨"dict", "dict.values", PySem.F.plainAttrs_dict, PySem.F.slot_dict_values, PySem.F.type_dict_values, hm.dictOf.typeIs, fun a e => by cases e; exact ⟨o', ho', hc'.2.1⟩, ?_⟩
  refine Calls.callWith_builtin rfl (PySem.evalArgs_none ?_)
  refine call_meetsIn PySem.F.slot_dict_values hm.dictOf.typeIs PySem.F.entry_dict_values (PySem.F.args_dict_values_1 _) (meets_dict_values (mixKind X.prog X.w) d hs) ⟨⟨vs, hm.dictOf⟩, ?_⟩
  have I3 : Inv X pins σ H2 { s1 with heap := s1.heap.push { cls := .type "dict_values", data := .fields #[.ref d] } } := I2.kept (t' := s1.toks) fun b o e => Heap.get?_push_of_some _ e
  refine wpAny_pyIter_values (knd := mixKind X.prog X.w) ⟨_, Heap.get?_push_size _ rfl, rfl, rfl⟩ (hm.push _) ?_
  refine ⟨_, [_], _, _, H2, rfl, I3.kept (t' := s1.toks) fun b o e => Heap.get?_push_of_some _ e, turn_vals d _ o kvs hd, ⟨_, Heap.get?_push_size _ rfl, rfl, by rw [hl]; rfl⟩, fun b hb => ?_, q2⟩
  rw [List.mem_singleton.mp hb]
  exact I3.fpOk (Nat.le_refl _) (I3.hok.fresh (Nat.le_refl _))
def starEnds (X : Cx) (D : Ends) : Ends := ⟨fun σ H => D.nx σ H ∨ ∃ d, NoFrz X d ∧ D.nx σ (thawAt d H), fun v H => D.rt v H ∨ ∃ d, NoFrz X d ∧ D.rt v (thawAt d H), fun σ H => D.bk σ H ∨ ∃ d, NoFrz X d ∧ D.bk σ (thawAt d H), fun σ H => D.ct σ H ∨ ∃ d, NoFrz X d ∧ D.ct σ (thawAt d H)⟩
theorem PS.star {X : Cx} {st : Stmt} {t : TS} (h : PS X st t) : PS X st (fun D σ H => t (starEnds X D) σ H) := by
  intro pins s σ H D I q
  refine thn (h pins s σ H (starEnds X D) I q) fun f s1 q1 => ?_
  cases f with
  | next =>
    obtain ⟨σ', H', I', q' | ⟨d, hf, q'⟩⟩ := q1
    · exact ⟨σ', H', I', q'⟩
    · exact ⟨σ', _, I'.thaw hf, q'⟩
  | brk =>
    obtain ⟨σ', H', I', q' | ⟨d, hf, q'⟩⟩ := q1
    · exact ⟨σ', H', I', q'⟩
    · exact ⟨σ', _, I'.thaw hf, q'⟩
  | cont =>
    obtain ⟨σ', H', I', q' | ⟨d, hf, q'⟩⟩ := q1
    · exact ⟨σ', H', I', q'⟩
    · exact ⟨σ', _, I'.thaw hf, q'⟩
  | ret u =>
    obtain ⟨v, σ', H', I', r', q' | ⟨d, hf, q'⟩⟩ := q1
    · exact ⟨v, σ', H', I', r', q'⟩
    · exact ⟨v, σ', _, I'.thaw hf, r', q'⟩
theorem PE.star {X : Cx} {e : Expr} {t : TE} (h : PE X e t) : PE X e (fun σ H Q => t σ H fun v H' => Q v H' ∨ ∃ d, NoFrz X d ∧ Q v (thawAt d H')) := by
  intro pins s σ H Q I q
  refine thn (h pins s σ H _ I q) fun u s1 ⟨v, H', I', r', q'⟩ => ?_
  rcases q' with q' | ⟨d, hf, q'⟩
  · exact ⟨v, H', I', r', q'⟩
  · exact ⟨v, _, I'.thaw hf, r', q'⟩
end
end L2
set_option Elab.async false
set_option linter.all false
set_option maxRecDepth 100000
set_option maxHeartbeats 4000000
namespace PL
open PySem PySem.Spec L2
open PyProof.Rows hiding St
def keyP : Key → PV
  | .inl i => .int i
  | .inr x => .str x
theorem den_key {K : PySem.W.Frag} {Fz : FZ} {H : Hp} (k : Key) : Den K Fz H (keyP k) (kV k) := by
  cases k <;> simp only [keyP, kV, Den]
theorem zip_get {ks : List Key} {xs : List V} {i : Nat} {kv : Key × V} (h : (ks.zip xs)[i]? = some kv) : ks[i]? = some kv.1 ∧ xs[i]? = some kv.2 := by
  rw [List.getElem?_zip_eq_some] at h
  exact h
section
variable {K : PySem.W.Frag} {Fz F' : FZ} {ρ : PEnv} {σ : St} {H H1 H' : Hp} {d : Addr} {o : Obj} {kvs : List (Key × V)}
theorem keep_freeze (e : H1 d = some (.dK kvs)) : Keep Fz H1 (upd H1 d (.frz o (.dK kvs))) where
  rd' b u pl f r := by
    by_cases hb : b = d
    · subst hb
      rcases r with r | ⟨o', r⟩
      · rw [e] at r; cases r; exact .inr ⟨o, upd_same⟩
      · rw [e] at r; cases r
    · rcases r with r | ⟨o', r⟩
      · exact .inl (by rw [upd_ne hb]; exact r)
      · exact .inr ⟨o', by rw [upd_ne hb]; exact r⟩
  tup b xs r := by
    have hb : b ≠ d := fun z => by subst z; rcases r with r | ⟨_, r⟩ <;> (rw [e] at r; cases r)
    rcases r with r | ⟨o', r⟩
    · exact .inl (by rw [upd_ne hb]; exact r)
    · exact .inr ⟨o', by rw [upd_ne hb]; exact r⟩
theorem thaw_eq {u : HO} (e : H' d = some (.frz o u)) : thawAt d H' = upd H' d u := by unfold thawAt; rw [e]
theorem keep_thaw (e : H' d = some (.frz o (.dK kvs))) : Keep F' H' (thawAt d H') where
  rd' b u pl f r := by
    rw [thaw_eq e]
    by_cases hb : b = d
    · subst hb
      rcases r with r | ⟨o', r⟩
      · rw [e] at r; cases r; exact pl.elim
      · rw [e] at r; cases r; exact .inl upd_same
    · rcases r with r | ⟨o', r⟩
      · exact .inl (by rw [upd_ne hb]; exact r)
      · exact .inr ⟨o', by rw [upd_ne hb]; exact r⟩
  tup b xs r := by
    rw [thaw_eq e]
    have hb : b ≠ d := fun z => by subst z; rcases r with r | ⟨_, r⟩ <;> (rw [e] at r; cases r)
    rcases r with r | ⟨o', r⟩
    · exact .inl (by rw [upd_ne hb]; exact r)
    · exact .inr ⟨o', by rw [upd_ne hb]; exact r⟩
theorem Rel.keep (R : Rel K Fz ρ σ H) (kp : Keep Fz H H') (ha : ∀ b, Fz b → H' b ≠ none) (ho : ∀ a w, ¬ Fz a → H a = some w → H' a = some w) : Rel K Fz ρ σ H' :=
  ⟨ha, R.len, fun i d e => by
    obtain ⟨v, q1, q2⟩ := R.frz i d e
    exact ⟨v, q1, Den.mono kp (fun _ h => h) _ _ q2⟩, fun i d e => by
    obtain ⟨a, q1, q2, q3⟩ := R.own i d e
    exact ⟨a, q1, q2, q3.mono kp (fun _ h => h) fun w hw => ho a w q2 hw⟩, R.inj⟩
theorem Rel.freeze (R : Rel K Fz ρ σ H1) (f : Fz d) (e : H1 d = some (.dK kvs)) : Rel K Fz ρ σ (upd H1 d (.frz o (.dK kvs))) :=
  R.keep (keep_freeze e) (fun b hb => by
    by_cases z : b = d
    · subst z; rw [upd_same]; exact fun z => nomatch z
    · rw [upd_ne z]; exact R.al b hb) fun a w na hw => by
    have : a ≠ d := fun z => by subst z; exact na f
    rw [upd_ne this]; exact hw
theorem Rel.thaw (R : Rel K F' ρ σ H') (f : F' d) (e : H' d = some (.frz o (.dK kvs))) : Rel K F' ρ σ (thawAt d H') := by
  have kp := keep_thaw (F' := F') e
  rw [thaw_eq e] at kp ⊢
  exact R.keep kp (fun b hb => by
    by_cases z : b = d
    · subst z; rw [upd_same]; exact fun z => nomatch z
    · rw [upd_ne z]; exact R.al b hb) fun a w na hw => by
    have : a ≠ d := fun z => by subst z; exact na f
    rw [upd_ne this]; exact hw
theorem Step.thaw (s : Step ρ σ Fz (upd H1 d (.frz o (.dK kvs))) F' H') (e : H1 d = some (.dK kvs)) (no : ¬ Owned ρ σ d) : Step ρ σ Fz H1 F' (thawAt d H') := by
  have e' : H' d = some (.frz o (.dK kvs)) := s.keep d _ upd_same no
  rw [thaw_eq e']
  refine ⟨s.sub, fun b hb => ?_, fun b w hw n => ?_⟩
  · rcases s.new b hb with z | z | z
    · exact .inl z
    · by_cases hbd : b = d
      · subst hbd; rw [upd_same] at z; cases z
      · rw [upd_ne hbd] at z; exact .inr (.inl z)
    · exact .inr (.inr z)
  · by_cases hbd : b = d
    · subst hbd; rw [e] at hw; cases hw; exact upd_same
    · rw [upd_ne hbd]
      exact s.keep b w (by rw [upd_ne hbd]; exact hw) n
theorem Ext.thaw (x : Ext Fz (upd H1 d (.frz o (.dK kvs))) F' H') (e : H1 d = some (.dK kvs)) : Ext Fz H1 F' (thawAt d H') := by
  have e' : H' d = some (.frz o (.dK kvs)) := x.same d _ upd_same
  rw [thaw_eq e']
  refine ⟨fun b w hw => ?_, x.sub, fun b hb => ?_, fun b hb => ?_⟩
  · by_cases hbd : b = d
    · subst hbd; rw [e] at hw; cases hw; exact upd_same
    · rw [upd_ne hbd]
      exact x.same b w (by rw [upd_ne hbd]; exact hw)
  · rcases x.new b hb with z | z
    · exact .inl z
    · by_cases hbd : b = d
      · subst hbd; rw [upd_same] at z; cases z
      · rw [upd_ne hbd] at z; exact .inr z
  · by_cases hbd : b = d
    · subst hbd; rw [upd_same]; exact fun z => nomatch z
    · rw [upd_ne hbd]; exact x.al b hb
end
def walkKs (V2 : Bool) : List Key → List PV → List PV := fun ks ds => if V2 then ds else ks.map keyP
def iDic (V2 : Bool) (te : TPE) : TPI := fun ρ Q => te ρ fun d k => ∃ ks ds, d = .dK ks ds ∧ Q (walkKs V2 ks ds) (isOwn k)
def ItX (V2 : Bool) : Addr → Obj → List (Key × V) → It := if V2 then ItV else ItK
theorem walk_dict {K : PySem.W.Frag} {Fz : FZ} {V2 : Bool} {d : Addr} {o : Obj} {ks : List Key} {ds : List PV} {xs : List V} {H : Hp} (hl : ks.length = xs.length) (f : Fz d) (e : H d = some (.frz o (.dK (ks.zip xs)))) (hd : DenL K Fz H ds xs) (ow : Bool)
    (hst : ∀ H2, (Same H H2 ∨ (ow = false ∧ KeepX Fz H H2)) → H2 d = some (.frz o (.dK (ks.zip xs))) ∧ Keep Fz H H2) : Walk K Fz ow (ItX V2 d o (ks.zip xs)) (walkKs V2 ks ds) H := fun H2 hH i => by
  obtain ⟨e2, kp⟩ := hst H2 hH
  have g3 : DenL K Fz H2 ds xs := DenL.mono kp (fun _ h => h) _ _ hd
  have hlen := g3.length
  have zl : (ks.zip xs).length = xs.length := by rw [List.length_zip]; omega
  cases V2 with
  | true =>
    refine ⟨fun c hc => ?_, fun hi => ⟨e2, by rw [zl]; have : ds.length ≤ i := hi; omega⟩⟩
    have hc' : ds[i]? = some c := hc
    obtain ⟨v, q1, q2⟩ := g3.get hc'
    have hi : i < xs.length := (List.getElem?_eq_some_iff.mp q1).1
    refine ⟨⟨e2, by omega⟩, fun x H3 ⟨e3, kv, y1, y2⟩ => ?_⟩
    subst e3
    have := (zip_get y1).2
    rw [q1] at this; cases this
    subst y2
    exact ⟨Same.refl _, q2⟩
  | false =>
    refine ⟨fun c hc => ?_, fun hi => ⟨e2, by rw [zl]; have : (ks.map keyP).length ≤ i := hi; rw [List.length_map] at this; omega⟩⟩
    have hc' : (ks.map keyP)[i]? = some c := hc
    rw [List.getElem?_map] at hc'
    cases hk : ks[i]? with
    | none => rw [hk] at hc'; cases hc'
    | some k =>
      rw [hk] at hc'; cases hc'
      have hi : i < ks.length := (List.getElem?_eq_some_iff.mp hk).1
      refine ⟨⟨e2, by omega⟩, fun x H3 ⟨e3, kv, y1, y2⟩ => ?_⟩
      subst e3
      have := (zip_get y1).1
      rw [hk] at this; cases this
      subst y2
      exact ⟨Same.refl _, den_key _⟩
structure PuID (X : Cx) (tg iter : Expr) (V2 : Bool) (te : TPE) : Prop where
  mono : ∀ ρ Q Q', (∀ d k, Q d k → Q' d k) → te ρ Q → te ρ Q'
  run : PI X tg iter (iD X (ItX V2) (lift X.K te))
theorem puid_keys {X : Cx} {tg e : Expr} {te : TPE} (he : PuE X e te) : PuID X tg e false te := ⟨he.mono, pi_dict he.run⟩
theorem puid_vals {X : Cx} {tg e : Expr} {te : TPE} {apos cpos : Pos} (he : PuE X e te) (hbase : attributeBase e "values" X.env (eval e X.env) = eval e X.env := by rfl) (hline : (apos.endLine == cpos.line) = true := by rfl) : PuID X tg (.Call (.Attribute e "values" apos) [] [] cpos) true te := ⟨he.mono, pi_values he.run hbase hline⟩
theorem iDic_mono {X : Cx} {tg iter : Expr} {V2 : Bool} {te : TPE} (h : PuID X tg iter V2 te) : ∀ ρ Q Q', (∀ its o, Q its o → Q' its o) → iDic V2 te ρ Q → iDic V2 te ρ Q' := fun ρ Q Q' m q => h.mono ρ _ _ (fun d k ⟨ks, ds, e, q⟩ => ⟨ks, ds, e, m _ _ q⟩) q
section
variable {X : Cx} {tg iter : Expr} {body : List Stmt} {V2 : Bool} {te : TPE} {g : TPG} {tb : TPS} {pos : Pos}
theorem pus_forD (hc : X.calm = true) (hp : PassesOwn (model X.prog X.w) X.A X.env X.xe) (hi : PuID X tg iter V2 te) (hg : PuG X tg g) (hb : PuSs X body tb) (hs : ∀ x, foldedSetIterable iter X.env x = pure x := by intro _; rfl) : PuS X (.For tg iter body [] pos) (pFor (iDic V2 te) g tb) where
  mono := pFor_mono (iDic_mono hi) hg.mono hb.mono
  run := PS.weak (ps_for hp hc hi.run hg.run hb.run hs).star fun D σ H h => by
    obtain ⟨ρ, Fz, R, h⟩ := h
    refine ⟨ρ, Fz, R, hi.mono ρ _ _ (fun d k q v Fz1 H1 p => ?_) h⟩
    obtain ⟨ks, ds, rfl, ho, Iv, h0, hstep, hdone⟩ := q
    have hk : k = .frz ∨ k = .new := by
      cases k with
      | frz => exact .inl rfl
      | new => exact .inr rfl
      | own j => cases ho
    obtain ⟨F2, x2, s2, dn⟩ := p.frozen hk
    simp only [Den] at dn
    obtain ⟨a, xs, rfl, fa, hr, hl, hd⟩ := dn
    have R2 := R.ext x2
    have no : ¬ Owned ρ σ a := fun ⟨i, e, h1, h2⟩ => by
      obtain ⟨b, q1, q2, _⟩ := R2.own i e h1
      rw [h2] at q1; cases q1; exact q2 fa
    refine ⟨a, ks.zip xs, rfl, ?_⟩
    rcases hr with hr | ⟨o, hr⟩
    · refine .inl ⟨hr, fun nf o => ?_⟩
      have kf := keep_freeze (Fz := F2) (o := o) hr
      have R3 : Rel X.K F2 ρ σ (upd H1 a (.frz o (.dK (ks.zip xs)))) := R2.freeze fa hr
      refine for_core hg.mono hb.mono R3 (walk_dict hl fa upd_same (DenL.mono kf (fun _ h => h) _ _ hd) false fun H2 hH => ?_) Iv h0 hstep ?_ hdone
      · rcases hH with hH | ⟨_, hH⟩
        · exact ⟨hH _ _ upd_same, .of hH⟩
        · exact ⟨hH _ _ upd_same (.inr trivial), .mk' hH⟩
      · have tr : ∀ {F' H'}, Step ρ σ F2 (upd H1 a (.frz o (.dK (ks.zip xs)))) F' H' → H' a = some (.frz o (.dK (ks.zip xs))) ∧ F' a ∧ Step ρ σ Fz H F' (thawAt a H') := fun {F' H'} s' =>
          ⟨s'.keep _ _ upd_same no, s'.sub _ fa, (Step.of x2).trans (OwnIn.refl ρ σ H) (s'.thaw hr no)⟩
        have ow : ∀ {ρ' σ'}, OwnIn ρ σ (upd H1 a (.frz o (.dK (ks.zip xs)))) ρ' σ' → OwnIn ρ σ H ρ' σ' := fun {ρ' σ'} o' b hb => by
          rcases o' b hb with z | z
          · exact .inl z
          · by_cases hba : b = a
            · subst hba; rw [upd_same] at z; cases z
            · rw [upd_ne hba] at z; exact .inr (x2.same.free z)
        refine ⟨fun ρ' q σ' F' H' s' o' R' => ?_, fun e ke q v F' H' s' al' r' => ?_, fun ρ' q σ' F' H' s' o' R' => ?_, fun ρ' q σ' F' H' s' o' R' => ?_⟩
        · obtain ⟨t1, t2, t3⟩ := tr s'
          exact .inr ⟨a, nf, q σ' F' _ t3 (ow o') (R'.thaw t2 t1)⟩
        · obtain ⟨t1, t2, t3⟩ := tr s'
          have kp := keep_thaw (F' := F') t1
          refine .inr ⟨a, nf, q v F' _ t3 (fun b hb => ?_) ?_⟩
          · rw [thaw_eq t1]
            by_cases hba : b = a
            · subst hba; rw [upd_same]; exact fun z => nomatch z
            · rw [upd_ne hba]; exact al' b hb
          · cases ke with
            | frz => exact Den.mono kp (fun _ h => h) _ _ r'
            | own j => exact r'
            | new =>
              obtain ⟨c, e, nfc, oc, w⟩ := r'
              have hca : c ≠ a := fun z => by subst z; exact nfc t2
              refine ⟨c, e, nfc, oc.mono kp (fun _ h => h) (fun w hw => by rw [thaw_eq t1, upd_ne hca]; exact hw), ?_⟩
              rcases w with w | w
              · exact .inl w
              · rw [upd_ne hca] at w; exact .inr (x2.same.free w)
        · obtain ⟨t1, t2, t3⟩ := tr s'
          exact .inr ⟨a, nf, q σ' F' _ t3 (ow o') (R'.thaw t2 t1)⟩
        · obtain ⟨t1, t2, t3⟩ := tr s'
          exact .inr ⟨a, nf, q σ' F' _ t3 (ow o') (R'.thaw t2 t1)⟩
    · refine .inr ⟨o, hr, for_core hg.mono hb.mono R2 (walk_dict hl fa hr hd false fun H2 hH => ?_) Iv h0 hstep ?_ hdone⟩
      · rcases hH with hH | ⟨_, hH⟩
        · exact ⟨hH _ _ hr, .of hH⟩
        · exact ⟨hH _ _ hr (.inr trivial), .mk' hH⟩
      · have le := outOf_le' (K := X.K) (D := D) (Step.of x2) (OwnIn.refl ρ σ H)
        exact ⟨fun ρ' q σ' F' H' s' o' R' => .inl (le.nx ρ' q σ' F' H' s' o' R'), fun e ke q v F' H' s' al' r' => .inl (le.rt e ke q v F' H' s' al' r'), fun ρ' q σ' F' H' s' o' R' => .inl (le.bk ρ' q σ' F' H' s' o' R'), fun ρ' q σ' F' H' s' o' R' => .inl (le.ct ρ' q σ' F' H' s' o' R')⟩
end
end PL
set_option Elab.async false
set_option linter.all false
set_option maxRecDepth 100000
set_option maxHeartbeats 4000000
namespace PL
open PySem PySem.Spec L2
open PyProof.Rows hiding St
def pCompD (k : Nat) (js : List Nat) (ti : TPI) (g : TPG) (tt : TPT) (te : TPE) : TPE := fun ρ Q => ti ρ fun its o => o = false ∧ its.length ≤ sizeLine ∧ ∃ Pv : Nat → List PV → Prop, Pv 0 [] ∧
  (∀ i d out, its[i]? = some d → out.length ≤ i → Pv i out → g d (blkP k js ρ) fun ρ2 => tt ρ2 fun b => if b = true then te ρ2 fun e ke => isOwn ke = false ∧ Pv (i + 1) (out ++ [e]) else Pv (i + 1) out) ∧
  ∀ out, out.length ≤ its.length → Pv its.length out → Q (.lst out) .new
section
variable {X : Cx} {elt tg iter : Expr} {ifs : List Expr} {sc : Scope} {pos : Pos} {N : List Str} {k : Nat} {js : List Nat} {V2 : Bool} {t0 : TPE} {g : TPG} {tt : TPT} {te : TPE}
theorem compD_mono (hi : PuID X tg iter V2 t0) : ∀ ρ Q Q', (∀ d k, Q d k → Q' d k) → pCompD k js (iDic V2 t0) g tt te ρ Q → pCompD k js (iDic V2 t0) g tt te ρ Q' :=
  fun ρ Q Q' m h => iDic_mono hi ρ _ _ (fun its o ⟨ho, hz, Pv, h0, hs, hd⟩ => ⟨ho, hz, Pv, h0, hs, fun out hl hp => m _ _ (hd out hl hp)⟩) h
theorem compD_lift (nd : js.Nodup) (hloc : LocG k g) (hi : PuID X tg iter V2 t0) (B : PBlk X N sc tg ifs elt g tt te) {σ : St} {H : Hp} {Q : VK} (h : lift X.K (pCompD k js (iDic V2 t0) g tt te) σ H Q) :
    tComp k js (iD X (ItX V2) (lift X.K t0)) (liftG X.K g) (liftT X.K tt) (lift X.K te) σ H (fun v H' => Q v H' ∨ ∃ d, NoFrz X d ∧ Q v (thawAt d H')) := by
  obtain ⟨ρ, Fz, R, h⟩ := h
  refine ⟨ρ, Fz, R, hi.mono ρ _ _ (fun d kd q v Fz1 H1 p => ?_) h⟩
  obtain ⟨ks, ds, rfl, ho, hz, Pv, h0, hstep, hdone⟩ := q
  have hk : kd = .frz ∨ kd = .new := by
    cases kd with
    | frz => exact .inl rfl
    | new => exact .inr rfl
    | own j => cases ho
  obtain ⟨F2, x2, s2, dn⟩ := p.frozen hk
  simp only [Den] at dn
  obtain ⟨a, xs, rfl, fa, hr, hl, hd⟩ := dn
  have R2 := R.ext x2
  refine ⟨a, ks.zip xs, rfl, ?_⟩
  rcases hr with hr | ⟨o, hr⟩
  · refine .inl ⟨hr, fun nf o l hll => ?_⟩
    have kf := keep_freeze (Fz := F2) (o := o) hr
    have R3 : Rel X.K F2 ρ σ (upd H1 a (.frz o (.dK (ks.zip xs)))) := R2.freeze fa hr
    have nla : l ≠ a := fun z => by subst z; rw [upd_same] at hll; cases hll
    have hl1 : H1 l = none := by rw [upd_ne nla] at hll; exact hll
    refine comp_core (H := H) (o := false) nd hloc B R3 (walk_dict hl fa upd_same (DenL.mono kf (fun _ h => h) _ _ hd) false fun H2 hH => ?_) hll hz Pv h0 hstep fun F' out ys H' x' hlx hout nfl hol hP => ?_
    · rcases hH with hH | ⟨_, hH⟩
      · exact ⟨hH _ _ upd_same, .of hH⟩
      · exact ⟨hH _ _ upd_same (.inr trivial), .mk' hH⟩
    · have t1 : H' a = some (.frz o (.dK (ks.zip xs))) := x'.same _ _ upd_same
      have kp := keep_thaw (F' := F') t1
      refine .inr ⟨a, nf, hdone out hol hP _ F' _ ⟨x2.trans (x'.thaw hr), l, rfl, x2.same.free hl1, nfl, ys, by rw [thaw_eq t1, upd_ne nla]; exact hlx, DenL.mono kp (fun _ h => h) _ _ hout⟩⟩
  · refine .inr ⟨o, hr, fun l hll => ?_⟩
    refine comp_core (H := H) (o := false) nd hloc B R2 (walk_dict hl fa hr hd false fun H2 hH => ?_) hll hz Pv h0 hstep fun F' out ys H' x' hlx hout nfl hol hP => ?_
    · rcases hH with hH | ⟨_, hH⟩
      · exact ⟨hH _ _ hr, .of hH⟩
      · exact ⟨hH _ _ hr (.inr trivial), .mk' hH⟩
    · exact .inl (hdone out hol hP _ F' H' ⟨x2.trans x', l, rfl, x2.same.free hll, nfl, ys, hlx, hout⟩)
theorem pu_compD (hc : X.calm = true) (S : CpScope X N k js sc) (nd : js.Nodup) (hloc : LocG k g) (hi : PuID X tg iter V2 t0) (B : PBlk X N sc tg ifs elt g tt te) (hs : ∀ x, foldedSetIterable iter X.env x = pure x := by intro _; rfl) :
    PuE X (.ListComp elt [⟨tg, iter, ifs, 0⟩] sc pos) (pCompD k js (iDic V2 t0) g tt te) :=
  ⟨compD_mono hi, PE.weak (PE.star (pe_comp hc S hi.run B.blk hs)) fun _ _ _ h => compD_lift nd hloc hi B h⟩
theorem pus_compD {i : Nat} {x : Str} {pos' pos2 : Pos} (hc : X.calm = true) (S : CpScope X N k js sc) (nd : js.Nodup) (hloc : LocG k g) (hi : PuID X tg iter V2 t0) (B : PBlk X N sc tg ifs elt g tt te) (hN : X.N.Nodup) (hx : X.N[i]? = some x) (hk : X.env.scope.names.lookup x = some .local)
    (hsw : swapsWith (.ListComp elt [⟨tg, iter, ifs, 0⟩] sc pos) (some (.Name x pos')) pos2.line X.env = pure true := by rfl) (hs : ∀ x, foldedSetIterable iter X.env x = pure x := by intro _; rfl) :
    PuS X (.Assign [.Name x pos'] (.ListComp elt [⟨tg, iter, ifs, 0⟩] sc pos) pos2) (pSet i (pCompD k js (iDic V2 t0) g tt te)) where
  mono := pSet_mono (pu_compD (pos := pos) hc S nd hloc hi B hs)
  run := PS.weak (PS.star (ps_comp hc S hi.run B.blk hN hx hk hsw hs)) fun D σ H h => by
    have q := set_lift (pu_compD (pos := pos) hc S nd hloc hi B hs) h
    exact compD_lift nd hloc hi B q
end
end PL
set_option Elab.async false
set_option linter.all false
set_option maxRecDepth 100000
set_option maxHeartbeats 4000000
namespace PL
open PySem PySem.Spec L2
open PyProof.Rows hiding St
def dgP {κ : Type} [DecidableEq κ] (ks : List κ) (ds : List PV) (k : κ) : Option PV := ((ks.zip ds).find? fun kv => decide (kv.1 = k)).map (·.2)
section
variable {K : PySem.W.Frag} {Fz : FZ} {H : Hp}
theorem dg_den {κ : Type} [DecidableEq κ] : ∀ (ks : List κ) (ds : List PV) (xs : List V) (k : κ), DenL K Fz H ds xs → (∀ d, dgP ks ds k = some d → ∃ v, valV (ks.zip xs) k = some v ∧ Den K Fz H d v) ∧ (dgP ks ds k = none → valV (ks.zip xs) k = none)
  | [], ds, xs, k, h => ⟨fun d e => by simp [dgP] at e, fun _ => rfl⟩
  | c :: ks, [], xs, k, h => by
    simp only [DenL] at h; subst h
    exact ⟨fun d e => by simp [dgP] at e, fun _ => rfl⟩
  | c :: ks, d0 :: ds, xs, k, h => by
    simp only [DenL] at h
    obtain ⟨v, r, rfl, h1, h2⟩ := h
    have ih := dg_den ks ds r k h2
    by_cases e : c = k
    · subst e
      refine ⟨fun d hd => ⟨v, by simp [valV], ?_⟩, fun hn => ?_⟩
      · have : d0 = d := by simpa [dgP] using hd
        subst this; exact h1
      · simp [dgP] at hn
    · refine ⟨fun d hd => ?_, fun hn => ?_⟩
      · have : dgP ks ds k = some d := by simpa [dgP, List.find?_cons, e] using hd
        obtain ⟨w, q1, q2⟩ := ih.1 d this
        exact ⟨w, by simpa [valV, List.find?_cons, e] using q1, q2⟩
      · have : dgP ks ds k = none := by simpa [dgP, List.find?_cons, e] using hn
        have := ih.2 this
        simpa [valV, List.find?_cons, e] using this
theorem root_key {k : Key} {x : V} (h : Root K Fz H (keyP k) x) : x = kV k := by
  cases k <;> simpa only [keyP, kV, Root, Den] using h
theorem root_dK {ks : List Key} {ds : List PV} {x : V} (h : Root K Fz H (.dK ks ds) x) : ∃ a xs, x = .ref a ∧ Rd H a (.dK (ks.zip xs)) ∧ ks.length = xs.length ∧ DenL K Fz H ds xs := by
  simpa only [Root] using h
def rDG : R2 := fun x y H Q => ∃ a v, x = .ref a ∧ DGet H a y (some v) ∧ Q v H
def pDG : P2 := fun d e Q => ∃ ks ds k v, d = .dK ks ds ∧ e = keyP k ∧ dgP ks ds k = some v ∧ Q v .frz
theorem po_dg : POp K rDG pDG where
  mono d e Q Q' m h := by obtain ⟨ks, ds, k, v, e1, e2, e3, q⟩ := h; exact ⟨ks, ds, k, v, e1, e2, e3, m _ _ q⟩
  run Fz H x y d e Q al rx ry h := by
    obtain ⟨ks, ds, k, d', rfl, rfl, e3, q⟩ := h
    obtain ⟨a, xs, rfl, r, hl, hd⟩ := root_dK rx
    obtain rfl := root_key ry
    obtain ⟨v, e4, h4⟩ := (dg_den ks ds xs k hd).1 d' e3
    exact ⟨a, v, rfl, .inl ⟨_, k, r, rfl, e4.symm⟩, q v Fz H (.val al h4)⟩
def pDI (neg : Bool) : P2 := fun e d Q => ∃ ks ds k, d = .dK ks ds ∧ e = keyP k ∧ Q (.bl (if neg then !(dgP ks ds k).isSome else (dgP ks ds k).isSome)) .frz
end
section
variable {X : Cx} {a b : Expr} {ta tb : TPE} {pos : Pos}
theorem pu_dget (hu : X.A.units + 1 < cLine) (ha : PuE X a ta) (hb : PuE X b tb) (hs : NoSl b := by exact fun _ _ => rfl) : PuE X (.Subscript a b pos) (t2 pDG ta tb) :=
  ⟨t2_mono po_dg ha hb, PE.weak (pe_dget hu ha.run hb.run hs) fun _ _ _ h => t2_run po_dg ha hb h⟩
end
end PL
set_option Elab.async false
set_option linter.all false
set_option maxRecDepth 100000
set_option maxHeartbeats 4000000
namespace PL
open PySem PySem.Spec L2
open PyProof.Rows hiding St
def tOrT (ta tb : TPE) : TPE := fun ρ Q => ta ρ fun d k => ∃ c, TruP d c ∧ if c = true then Q d k else tb ρ Q
section
variable {X : Cx} {a b c : Expr} {rest : List Expr} {pos : Pos} {ta tb tc : TPE}
theorem pe_orT {ta tb : TE} (ha : PE X a ta) (hb : PE X (.BoolOp .Or (b :: rest) pos) tb) :
    PE X (.BoolOp .Or (a :: b :: rest) pos) (fun σ H Q => ta σ H fun x H1 => ∃ k, TruV X.K x H1 k ∧ if k = true then Q x H1 else tb σ H1 Q) := by
  intro pins s σ H Q I h
  refine BoolOp_or (thn (ha pins s σ H _ I h) fun v s1 ⟨x, H1, I1, r1, k, ht, q1⟩ => ?_)
  refine thn (tru_ok pins s1 σ H1 x v (fun k' H2 => k' = k ∧ H2 = H1) I1 r1 ⟨k, ht, rfl, rfl⟩) fun c s2 ⟨H2, I2, e1, e2⟩ => ?_
  subst e1 e2
  cases c with
  | false => rw [if_neg Bool.false_ne_true] at q1 ⊢; exact hb pins s2 σ _ Q I2 q1
  | true => rw [if_pos rfl] at q1 ⊢; exact ⟨x, _, I2, r1, q1⟩
theorem pu_orT (ha : PuE X a ta) (hb : PuE X (.BoolOp .Or (b :: rest) pos) tb) : PuE X (.BoolOp .Or (a :: b :: rest) pos) (tOrT ta tb) where
  mono ρ Q Q' m h := ha.mono ρ _ _ (fun d k ⟨c, e, q⟩ => ⟨c, e, by
    cases c with
    | false => rw [if_neg Bool.false_ne_true] at q ⊢; exact hb.mono ρ _ _ m q
    | true => rw [if_pos rfl] at q ⊢; exact m _ _ q⟩) h
  run := PE.weak (pe_orT ha.run hb.run) fun σ H Q h => by
    obtain ⟨ρ, Fz, R, h⟩ := h
    refine ⟨ρ, Fz, R, ha.mono ρ _ _ (fun d k ⟨c, e, q⟩ v Fz' H' p => ⟨c, TruP.v (p.root R) e, ?_⟩) h⟩
    cases c with
    | false =>
      rw [if_neg Bool.false_ne_true] at q ⊢
      exact ⟨ρ, Fz', R.ext p.ext, hb.mono ρ _ _ (fun d k q v Fz2 H2 p2 => q v Fz2 H2 (p2.then p.ext)) q⟩
    | true => rw [if_pos rfl] at q ⊢; exact q _ Fz' H' p
def pChain (p p' : P2) (ta tb tc : TPE) : TPE := fun ρ Q => ta ρ fun d _ => tb ρ fun e _ => p d e fun z _ => ∃ k, z = .bl k ∧ if k = true then tc ρ fun f _ => p' e f Q else Q (.bl false) .frz
variable {r r' : R2} {p p' : P2}
theorem chain_mono (hp : POp X.K r p) (hp' : POp X.K r' p') (ha : PuE X a ta) (hb : PuE X b tb) (hc : PuE X c tc) : ∀ ρ Q Q', (∀ d k, Q d k → Q' d k) → pChain p p' ta tb tc ρ Q → pChain p p' ta tb tc ρ Q' := fun ρ Q Q' m h =>
  ha.mono ρ _ _ (fun d _ h => hb.mono ρ _ _ (fun e _ h => hp.mono d e _ _ (fun z _ ⟨k, e1, q⟩ => ⟨k, e1, by
    cases k with
    | false => rw [if_neg Bool.false_ne_true] at q ⊢; exact m _ _ q
    | true => rw [if_pos rfl] at q ⊢; exact hc.mono ρ _ _ (fun f _ q => hp'.mono e f _ _ m q) q⟩) h) h) h
theorem chain_run (hp : POp X.K r p) (hp' : POp X.K r' p') (ha : PuE X a ta) (hb : PuE X b tb) (hc : PuE X c tc) {σ : St} {H : Hp} {Q : VK} (h : lift X.K (pChain p p' ta tb tc) σ H Q) :
    tChain r r' (lift X.K ta) (lift X.K tb) (lift X.K tc) σ H Q := by
  obtain ⟨ρ, Fz, R, h⟩ := h
  refine lift2 ha hb ρ Fz R (ha.mono ρ _ _ (fun d kd h => hb.mono ρ _ _ (fun e ke h => ?_) h) h)
  intro x y Fz1 H1 Fz2 H2 p1 p2
  have R1 := R.ext p1.ext
  have R2 := R1.ext p2.ext
  have ry := p2.root R1
  refine hp.run Fz2 H2 x y d e _ p2.ext.al ((p1.root R).mono p2.ext.same p2.ext.sub) ry (hp.mono d e _ _ (fun z k q v Fz3 H3 p3 => ?_) h)
  obtain ⟨c', rfl, q⟩ := q
  have p3' : Post X.K ρ σ Fz2 H2 Fz3 H3 (.bl c') k v := ⟨p3.ext, p3.opd.up⟩
  refine ⟨c', root_bl (p3'.root R2), ?_⟩
  have R3 := R2.ext p3.ext
  cases c' with
  | false =>
    rw [if_neg Bool.false_ne_true] at q ⊢
    exact q _ Fz3 H3 ⟨(p1.ext.trans p2.ext).trans p3.ext, by show Den _ _ _ _ _; simp only [Den]⟩
  | true =>
    rw [if_pos rfl] at q ⊢
    refine ⟨ρ, Fz3, R3, hc.mono ρ _ _ (fun f kf q w Fz4 H4 p4 => ?_) q⟩
    refine hp'.run Fz4 H4 y w e f Q p4.ext.al ((ry.mono p3.ext.same p3.ext.sub).mono p4.ext.same p4.ext.sub) (p4.root R3) (hp'.mono e f _ _ (fun z k q v Fz' H' p5 => ?_) q)
    exact q v Fz' H' (p5.behind (((p1.ext.trans p2.ext).trans p3.ext).trans p4.ext))
theorem put_chain {op op' : CmpOp} (ho : OpR X (compareOp op) r) (ho' : OpR X (compareOp op') r') (hp : POp X.K r p) (hp' : POp X.K r' p') (ha : PuE X a ta) (hb : PuE X b tb) (hc : PuE X c tc)
    (hm : lastMarks [op, op'] [b, c] = false := by with_unfolding_all rfl) : PuT X (.Compare a [op, op'] [b, c] pos) (tBl (pChain p p' ta tb tc)) where
  mono ρ Q Q' m h := chain_mono hp hp' ha hb hc ρ _ _ (fun d _ ⟨b, e, q⟩ => ⟨b, e, m b q⟩) h
  run := PT.weak (pt_chain ho ho' ha.run hb.run hc.run hm) fun σ H Q h => by
    obtain ⟨ρ, Fz, R, h⟩ := h
    refine chain_run hp hp' ha hb hc ⟨ρ, Fz, R, chain_mono hp hp' ha hb hc ρ _ _ (fun d k ⟨b, e, q⟩ v Fz' H' p => ⟨b, ?_, q Fz' H' p.ext⟩) h⟩
    subst e
    have w := p.root R
    simpa only [Root, Den] using w
abbrev pILt : P2 := i0 fun i j => .bl (decide (i < j))
abbrev pILe : P2 := i0 fun i j => .bl (decide (i ≤ j))
theorem put_leLt (ha : PuE X a ta) (hb : PuE X b tb) (hc : PuE X c tc) (hm : lastMarks [.LtE, .Lt] [b, c] = false := by with_unfolding_all rfl) : PuT X (.Compare a [.LtE, .Lt] [b, c] pos) (tBl (pChain pILe pILt ta tb tc)) := put_chain op_le op_lt po_bool0 po_bool0 ha hb hc hm
end
def fMax2 : PF := fun ds Q => ∃ i j : Int, ds = [.int i, .int j] ∧ Q (.int (if j > i then j else i)) .frz
def fMin2 : PF := fun ds Q => ∃ i j : Int, ds = [.int i, .int j] ∧ Q (.int (if j < i then j else i)) .frz
theorem pc_max2 {K : PySem.W.Frag} : PCall K (fun xs H Q => ∃ i j, xs = [V.int i, .int j] ∧ Q (.int (if j > i then j else i)) H) fMax2 where
  mono ds Q Q' m h := by obtain ⟨i, j, e, q⟩ := h; exact ⟨i, j, e, m _ _ q⟩
  run Fz H ds vs Q al hr h := by
    obtain ⟨i, j, rfl, q⟩ := h
    obtain ⟨u, v, rfl, h1, h2⟩ := rootL2 hr
    exact ⟨i, j, by rw [root_int h1, root_int h2], q _ Fz H (.val al (by simp only [Den]))⟩
end PL
set_option Elab.async false
set_option linter.all false
set_option maxRecDepth 100000
set_option maxHeartbeats 4000000
namespace PL
open PySem PySem.Spec L2
open PyProof.Rows hiding St
section
variable {X : Cx} {e : Expr} {es : List Expr} {t : TPA} {p pos : Pos}
theorem pu_max2 (hc : X.calm = true) (hg : Gl X "max") (hm : X.mg "max" = none) (ha : PuA X (e :: es) t) (he : starEach (e :: es) X.env = (false, eval e X.env) :: starEach es X.env := by rfl) (hpl : (backTo pos (starEach es X.env)).any (·.1) = false := by rfl) : PuE X (.Call (.Name "max" p) (e :: es) [] pos) (tB fMax2 t) :=
  pu_callB (call_max2 hc) pc_max2 hg hm bMax ha (by decide) (by decide) he hpl
end
theorem DenL.rew' {K : PySem.W.Frag} {Fz : FZ} {H : Hp} {ds : List PV} {xs : List V} {a : Addr} {o u : HO} (ha : H a = some u) (hi : ¬ Imm u) (nf : ¬ Fz a) (h : DenL K Fz H ds xs) : DenL K Fz (upd H a o) ds xs :=
  DenL.mono (.mk' fun b w e hw => by
    have ne : b ≠ a := fun z => by
      subst z
      rcases hw with hw | hw
      · exact nf hw
      · rw [ha] at e; cases e; exact hi hw
    rw [upd_ne ne]; exact e) (fun _ h => h) _ _ h
theorem own_dK {K : PySem.W.Frag} {Fz : FZ} {ρ : PEnv} {σ : St} {H : Hp} {i : Nat} {ks : List Key} {ds : List PV} (R : Rel K Fz ρ σ H) (h : ρ[i]? = some (some (.dK ks ds, true))) : ∃ a xs, σ[i]? = some (some (.ref a)) ∧ H a = some (.dK (ks.zip xs)) ∧ ks.length = xs.length ∧ DenL K Fz H ds xs ∧ ¬ Fz a := by
  obtain ⟨a, e, nf, xs, h1, h2, h3⟩ := R.own i _ h
  exact ⟨a, xs, e, h1, h2, h3, nf⟩
def pSetIx (i : Nat) (ti tv : TPE) : TPS := fun ρ O => tv ρ fun d k => isOwn k = false ∧ ∃ ds, ρ[i]? = some (some (.lst ds, true)) ∧ ti ρ fun e _ => ∃ (j : Int) (n : Nat), e = .int j ∧ ixN ds.length j = some n ∧ O.nx (ρ.set i (some (.lst (ds.set n d), true)))
theorem frz_new {k : Kd} (hk : isOwn k = false) : k = .frz ∨ k = .new := by
  cases k with
  | frz => exact .inl rfl
  | new => exact .inr rfl
  | own j => cases hk
section
variable {X : Cx} {x : Str} {ei ev : Expr} {ti tv : TPE} {p pos pos' : Pos}
theorem pus_setIx (i : Nat) (hi : PuE X ei ti) (hv : PuE X ev tv) (hN : X.N[i]? = some x := by rfl) (hvs : Vis X.env.scope x := by first | exact Or.inl rfl | exact Or.inr (Or.inl rfl) | exact Or.inr (Or.inr rfl)) (hd : (x == ("__debug__" : Str)) = false := by decide) (hcd : (x == ("__classdict__" : Str)) = false := by decide)
    (hs : swapsWithSole [.Subscript (.Name x p) ei pos'] ev pos.line X.env = pure false := by rfl) (hw : swappedStores [.Subscript (.Name x p) ei pos'] ev X.env = pure none := by rfl)
    (h1 : (assignEach [.Subscript (.Name x p) ei pos'] X.env).map (·.2) = [assign (.Subscript (.Name x p) ei pos') X.env] := by rfl)
    (ha : ∀ v, assign (.Subscript (.Name x p) ei pos') X.env v = (do
      let ov ← holding [v] (eval (.Name x p) X.env)
      let iv ← holding [v, ov] (eval ei X.env)
      standAt pos'
      holding [v, ov, iv] (setItem ov iv v)
      release [v, ov, iv] []) := by intro _; rfl) : PuS X (.Assign [.Subscript (.Name x p) ei pos'] ev pos) (pSetIx i ti tv) where
  mono ρ O O' m h := hv.mono ρ _ _ (fun d k ⟨hk, ds, e1, h⟩ => ⟨hk, ds, e1, hi.mono ρ _ _ (fun e _ ⟨j, n, q1, q2, q⟩ => ⟨j, n, q1, q2, m.nx _ q⟩) h⟩) h
  run := PS.weak (ps_asg hv.run (pg_sub (pe_var hN hvs hd hcd) hi.run set_list ha) hs hw h1) fun D σ H h => by
    obtain ⟨ρ, Fz, R, h⟩ := h
    refine ⟨ρ, Fz, R, hv.mono ρ _ _ (fun d k q v F1 H1 p1 => ?_) h⟩
    obtain ⟨hk, ds, e1, q⟩ := q
    obtain ⟨F2, x2, s2, d2⟩ := p1.frozen (frz_new hk)
    have R2 := R.ext x2
    obtain ⟨a, xs, hs, ha, hd, nf⟩ := own_lst R2 e1
    refine ⟨_, hs, ρ, F2, R2, hi.mono ρ _ _ (fun e ke q u F3 H3 p3 => ?_) q⟩
    obtain ⟨j, n, rfl, q2, q⟩ := q
    have R3 := R2.ext p3.ext
    obtain ⟨a', xs', hs', ha', hd', nf'⟩ := own_lst R3 e1
    rw [hs] at hs'; cases hs'
    have hl := hd'.length
    refine ⟨a, xs', j, n, rfl, root_int (p3.root R2), ha', by rw [← hl]; exact q2, ?_⟩
    have ow : Own X.K F3 (upd H3 a (.lst (xs'.set n v))) (.lst (ds.set n d)) a := ⟨_, upd_same, (DenL.rew ha' nf' (DenL.set n hd' (Den.mono (.of p3.ext.same) p3.ext.sub _ _ d2)))⟩
    obtain ⟨R4, s4, o4⟩ := R3.mut e1 hs ha' ow
    have x3 := x2.trans p3.ext
    exact q σ F3 _ ((Step.of x3).trans (OwnIn.refl ρ σ H) s4) (OwnIn.trans (Step.of x3) (OwnIn.refl ρ σ H) o4) R4
end
def putD (ks : List Key) (ds : List PV) (k : Key) (d : PV) : List PV := (ks.zip ds).map fun kv => if kv.1 = k then d else kv.2
theorem put_zip {ks : List Key} {xs : List V} {k : Key} {v : V} : (ks.zip xs).map (fun kv => if kv.1 = k then (kv.1, v) else kv) = ks.zip ((ks.zip xs).map fun kv => if kv.1 = k then v else kv.2) := by
  induction ks generalizing xs with
  | nil => rfl
  | cons c ks ih =>
    cases xs with
    | nil => rfl
    | cons x xs =>
      simp only [List.zip_cons_cons, List.map_cons, ih]
      by_cases e : c = k <;> simp [e]
theorem put_den {K : PySem.W.Frag} {Fz : FZ} {H : Hp} (k : Key) {d : PV} {v : V} (hd : Den K Fz H d v) : ∀ (ks : List Key) (ds : List PV) (xs : List V), DenL K Fz H ds xs → DenL K Fz H (putD ks ds k d) ((ks.zip xs).map fun kv => if kv.1 = k then v else kv.2)
  | [], ds, xs, h => DenL.nil
  | c :: ks, [], xs, h => by simp only [DenL] at h; subst h; exact DenL.nil
  | c :: ks, d0 :: ds, xs, h => by
    simp only [DenL] at h
    obtain ⟨w, r, rfl, h1, h2⟩ := h
    have ih := put_den k hd ks ds r h2
    simp only [putD, List.zip_cons_cons, List.map_cons] at ih ⊢
    by_cases e : c = k
    · rw [if_pos e, if_pos e]; exact DenL.cons hd ih
    · rw [if_neg e, if_neg e]; exact DenL.cons h1 ih
def dropKs (ks : List Key) (k : Key) : List Key := ks.filter fun c => decide (c ≠ k)
def dropD (ks : List Key) (ds : List PV) (k : Key) : List PV := ((ks.zip ds).filter fun kv => decide (kv.1 ≠ k)).map (·.2)
theorem drop_den {K : PySem.W.Frag} {Fz : FZ} {H : Hp} {k : Key} : ∀ (ks : List Key) (ds : List PV) (xs : List V), ks.length = xs.length → DenL K Fz H ds xs →
    ∃ ys, dropK (ks.zip xs) k = (dropKs ks k).zip ys ∧ (dropKs ks k).length = ys.length ∧ DenL K Fz H (dropD ks ds k) ys
  | [], ds, xs, hl, h => ⟨[], rfl, rfl, DenL.nil⟩
  | c :: ks, ds, [], hl, h => by simp at hl
  | c :: ks, ds, x :: xs, hl, h => by
    cases ds with
    | nil => simp only [DenL] at h; cases h
    | cons d0 ds =>
      simp only [DenL] at h
      obtain ⟨w, r, e0, h1, h2⟩ := h
      cases e0
      obtain ⟨ys, g1, g2, g3⟩ := drop_den (k := k) ks ds _ (by simpa using hl) h2
      by_cases e : c = k
      · refine ⟨ys, ?_, ?_, ?_⟩
        · have : dropKs (c :: ks) k = dropKs ks k := by simp [dropKs, e]
          rw [this, ← g1]; simp [dropK, e]
        · have : dropKs (c :: ks) k = dropKs ks k := by simp [dropKs, e]
          rw [this]; exact g2
        · have : dropD (c :: ks) (d0 :: ds) k = dropD ks ds k := by simp [dropD, e]
          rw [this]; exact g3
      · refine ⟨x :: ys, ?_, ?_, ?_⟩
        · have : dropKs (c :: ks) k = c :: dropKs ks k := by simp [dropKs, e]
          rw [this]; simp only [List.zip_cons_cons]; rw [← g1]; simp [dropK, e]
        · have : dropKs (c :: ks) k = c :: dropKs ks k := by simp [dropKs, e]
          rw [this]; simpa using g2
        · have : dropD (c :: ks) (d0 :: ds) k = d0 :: dropD ks ds k := by simp [dropD, e]
          rw [this]; exact DenL.cons h1 g3
def hasK (ks : List Key) (c : Key) : Bool := ks.any fun c' => decide (c' = c)
def pPutIx (i : Nat) (ti tv : TPE) : TPS := fun ρ O => tv ρ fun d k => isOwn k = false ∧ ∃ ks ds, ρ[i]? = some (some (.dK ks ds, true)) ∧ ks.length < sizeLine ∧ ti ρ fun e _ => ∃ c : Key, e = keyP c ∧
  O.nx (ρ.set i (some (if hasK ks c = true then .dK ks (putD ks ds c d) else .dK (ks ++ [c]) (ds ++ [d]), true)))
theorem zip_any {ks : List Key} {xs : List V} {c : Key} (h : ks.length = xs.length) : ((ks.zip xs).any fun kv => decide (kv.1 = c)) = hasK ks c := by
  unfold hasK
  induction ks generalizing xs with
  | nil => simp
  | cons d ks ih =>
    cases xs with
    | nil => simp at h
    | cons x xs =>
      simp only [List.zip_cons_cons, List.any_cons, ih (by simpa using h)]
section
variable {X : Cx} {x : Str} {ei ev : Expr} {ti tv : TPE} {p pos pos' apos cpos : Pos}
end
def mDPop (i : Nat) (te : TPE) : TPM := fun ρ Q => ∃ ks ds, ρ[i]? = some (some (.dK ks ds, true)) ∧ te ρ fun e _ => ∃ (c : Key) (d : PV), e = keyP c ∧ dgP ks ds c = some d ∧ Q d (ρ.set i (some (.dK (dropKs ks c) (dropD ks ds c), true)))
section
variable {X : Cx} {x : Str} {e : Expr} {te : TPE} {p apos cpos : Pos}
theorem pum_dpop (i : Nat) (he : PuE X e te) (hN : X.N[i]? = some x := by rfl) (hv : Vis X.env.scope x := by first | exact Or.inl rfl | exact Or.inr (Or.inl rfl) | exact Or.inr (Or.inr rfl)) (hd : (x == ("__debug__" : Str)) = false := by decide) (hcd : (x == ("__classdict__" : Str)) = false := by decide)
    (m : M1 X (.Name x p) "pop" apos e cpos := by exact ⟨rfl, rfl, rfl, rfl⟩) : PuM X (.Call (.Attribute (.Name x p) "pop" apos) [e] [] cpos) (mDPop i te) where
  mono ρ Q Q' m h := by
    obtain ⟨ks, ds, e1, h⟩ := h
    exact ⟨ks, ds, e1, he.mono ρ _ _ (fun d _ ⟨c, d', q1, q2, q⟩ => ⟨c, d', q1, q2, m _ _ q⟩) h⟩
  run := PE.weak (pe_dpop1 (pe_var hN hv hd hcd) he.run m) fun σ H Q h => by
    obtain ⟨ρ, Fz, R, ks, ds, e1, h⟩ := h
    obtain ⟨a, xs, hs, ha, hl, hd, nf⟩ := own_dK R e1
    refine ⟨_, hs, a, rfl, ?_, ρ, Fz, R, he.mono ρ _ _ (fun d k q v F1 H1 p1 => ?_) h⟩
    · exact .inl ⟨_, .inl ha⟩
    obtain ⟨c, d', rfl, q2, q⟩ := q
    have R2 := R.ext p1.ext
    obtain ⟨a', xs', hs', ha', hl', hd', nf'⟩ := own_dK R2 e1
    rw [hs] at hs'; cases hs'
    obtain ⟨y, y1, y2⟩ := (dg_den ks ds xs' c hd').1 d' q2
    refine ⟨_, c, y, ha', root_key (p1.root R), y1, ?_⟩
    obtain ⟨ys, g1, g2, g3⟩ := drop_den (k := c) ks ds xs' hl' hd'
    rw [g1]
    have ow : Own X.K F1 (upd H1 a (.dK ((dropKs ks c).zip ys))) (.dK (dropKs ks c) (dropD ks ds c)) a := ⟨_, upd_same, g2, DenL.rew' ha' (fun z => z) nf' g3⟩
    obtain ⟨R3, s3, o3⟩ := R2.mut e1 hs ha' ow
    refine q y F1 _ ((Step.of p1.ext).trans (OwnIn.refl ρ σ H) s3) (OwnIn.trans (Step.of p1.ext) (OwnIn.refl ρ σ H) o3) R3 ?_
    have := DenL.rew' (o := .dK ((dropKs ks c).zip ys)) ha' (fun z => z) nf' (DenL.cons y2 DenL.nil)
    simp only [DenL] at this
    obtain ⟨v', r', e', g1, _⟩ := this
    cases e'
    exact g1
end
end PL
set_option Elab.async false
set_option linter.all false
set_option maxRecDepth 100000
set_option maxHeartbeats 4000000
namespace PySem
open Sem (wp)
theorem am_enum_getattr_none : typeLookup (.type "enumerate") "__getattr__" = pure none := by rw [typeLookup_type, builtinLookup_eq_fast]; kernel_rfl
theorem am_enum_keys_none : typeLookup (.type "enumerate") (Str.ofString "keys") = pure none := by rw [typeLookup_type, builtinLookup_eq_fast]; kernel_rfl
theorem am_entry_enum_getattribute : entryFor table "enumerate.__getattribute__" = some Builtin.«object.__getattribute__» :=
  entryFor_alias (id' := "object.__getattribute__") (by kernel_rfl) (by decide +kernel) (by decide +kernel) (by kernel_rfl)
theorem meets_getattribute_miss_enum (a : Addr) (xs : Array Value) (sl : Array (Option Value)) (name : Str) (u : Tok) (hmiss : typeLookup (.type "enumerate") name = pure none) (hname : (["__module__", "__name__", "__qualname__", "__doc__", "__annotations__"] : List Str).contains name = false) (hsz : name.length + 100 ≤ sizeLine := by size_fits) :
    Meets (Builtin.«object.__getattribute__» ⟨[.ref a, .str name u], []⟩) (fun A R s => s.heap.get? a = some { cls := .type "enumerate", dict := none, data := .fields xs, slots := sl } ∧ raisesAttr (.ref a) name A R s) :=
  Meets.of_wp fun prog w A R s hs => by
    obtain ⟨hp, g, d, tk, os⟩ := s
    obtain ⟨hx, hs⟩ := hs
    have hT : (⟨hp, g, d, tk, os⟩ : Shared).TypeIs (.ref a) "enumerate" := ⟨_, hx, rfl⟩
    unfold Builtin.«object.__getattribute__»
    repeat (any_goals (first | assumption | wp_step))
    simp only [hname, Bool.false_eq_true, if_false]
    repeat (any_goals (first | assumption | wp_step))
    exact wpAny_raiseAttrError hs.1 hs.2 (attrMsg_fits (by decide +kernel) hsz)
theorem keys_miss_enum {prog : Program} {w : World} {A : Around} {E : Value → Shared → Prop} {s : Shared} {a : Addr} {xs : Array Value} {sl : Array (Option Value)} {Q : Option Value → Shared → Prop}
    (hx : s.heap.get? a = some { cls := .type "enumerate", dict := none, data := .fields xs, slots := sl }) (hA : A.handled = none)
    (h : ∀ h' tk, (∀ b o, s.heap.get? b = some o → h'.get? b = some o) → Q none { s with heap := h', toks := tk }) :
    wpAny (model prog w) A (getAttr? (.ref a) "keys") Q E s := by
  obtain ⟨hp, g, d, tk, os⟩ := s
  have hT : ∀ tk', (⟨hp, g, d, tk', os⟩ : Shared).TypeIs (.ref a) "enumerate" := fun _ => ⟨_, hx, rfl⟩
  have f1 := sub_AttributeError
  have f3 := F.slot_enumerate_getattribute.lookup
  have f4 := F.slot_enumerate_getattribute.bind (.ref a)
  have f5 := am_enum_getattr_none
  unfold getAttr? getAttrBy? getAttrBy
  repeat (any_goals (first | assumption | exact hT _ | ((with_reducible show wpAny _ _ (call (Value.builtin "enumerate.__getattribute__") _ _) _ _ _); refine call_meets F.slot_enumerate_getattribute (hT _) am_entry_enum_getattribute (F.args_enumerate_getattribute_2 _ _) (meets_getattribute_miss_enum a xs sl _ _ am_enum_keys_none (by decide +kernel) (by decide +kernel)) ⟨hx, hA, fun h' tk' e hx' => ?_⟩) | wp_step))
  obtain ⟨t', u', he⟩ := hx'.there
  show wpAny _ _ (getattributeRaised _ _ _ _ _ _ _) _ _ _
  unfold getattributeRaised
  repeat (any_goals (first | assumption | wp_step))
  exact h h' tk' hx'.keeps
section
variable {prog : Program} {w : World} {A : Around} {E : Value → Shared → Prop} {s : Shared}
theorem wpAny_loadIfAlive_some {a : Addr} {o : Obj} {Q : Option Obj → Shared → Prop} (ho : s.heap.get? a = some o) (h : Q (some o) s) : wpAny (model prog w) A (loadIfAlive a) Q E s := fun Γ p _ => by
  unfold loadIfAlive
  rw [Sem.wp_loadIfAlive, ho]
  rw [Sem.wp_pure]; exact h
abbrev EnumK (h : Heap) (e it : Addr) (i : Int) (a : Addr) (b : Bool) (old : Value) : Prop :=
  h.get? e = some { cls := .type "enumerate", dict := none, data := .fields #[rawInt a, .bool b, .ref it, rawInt i, .none, old], slots := #[] }
theorem enumK_next_item {e it l a : Addr} {i : Nat} {items : Array Value} {x old : Value} {b : Bool} {oa : Obj} {Q : Value → Shared → Prop}
    (he : EnumK s.heap e it i a b old) (ha : s.heap.get? a = some oa) (hae : a ≠ e) (hai : a ≠ it) (hit : s.heap.IsListIter it l i) (hl : s.heap.IsList l items) (hx : items[i]? = some x) (hne : e ≠ it)
    (hQ : ∀ h', EnumK h' e it ((i : Int) + 1) a true old → h'.IsListIter it l (i + 1) →
      h'.get? s.heap.objs.size = some { cls := .type "tuple", data := .seq #[.int i s.toks, x] } → h'.objs.size = s.heap.objs.size + 1 →
      (∀ b o, b ≠ e → b ≠ it → s.heap.get? b = some o → h'.get? b = some o) → Q (.ref s.heap.objs.size) { s with heap := h', toks := s.toks + 1 }) :
    wpAny (model prog w) A (Builtin.«enumerate.__next__» ⟨[.ref e], []⟩) (fun fin s' => ∃ v, fin = .done (.ret v) ∧ Q v s') E s := by
  obtain ⟨hp, g, d, tk, os⟩ := s
  show wpAny _ _ (field (.ref e) 2 >>= _) _ _ _
  refine wpAny_bind (wpAny_field he rfl (x := .ref it) rfl ?_)
  refine wpAny_bind (wpAny_nextOf_list_item hit hl hx fun h₁ hit₁ hs₁ => ?_)
  replace hs₁ : Heap.SameBut it hp h₁ := hs₁
  have he₁ : EnumK h₁ e it i a b old := (hs₁.2 e hne).trans he
  show wpAny _ _ (field (.ref e) 3 >>= _) _ _ ⟨h₁, g, d, tk, os⟩
  refine wpAny_bind (wpAny_field he₁ rfl (x := rawInt i) rfl ?_)
  show wpAny _ _ (field (.ref e) 4 >>= _) _ _ ⟨h₁, g, d, tk, os⟩
  refine wpAny_bind (wpAny_field he₁ rfl (x := .none) rfl ?_)
  show wpAny _ _ (mkInt i >>= _) _ _ ⟨h₁, g, d, tk, os⟩
  refine wpAny_bind (wpAny_mkInt ?_)
  show wpAny _ _ (setField (.ref e) 3 (rawInt ((i : Int) + 1)) >>= _) _ _ ⟨h₁, g, d, tk + 1, os⟩
  refine wpAny_bind (wpAny_setField_rec he₁ (by simp) fun h₂ he₂ hs₂ => ?_)
  replace hs₂ : Heap.SameBut e h₁ h₂ := hs₂
  replace he₂ : EnumK h₂ e it ((i : Int) + 1) a b old := he₂
  show wpAny _ _ (setField (.ref e) 4 .none >>= _) _ _ ⟨h₂, g, d, tk + 1, os⟩
  refine wpAny_bind (wpAny_setField_rec he₂ (by simp) fun h₃ he₃ hs₃ => ?_)
  replace hs₃ : Heap.SameBut e h₂ h₃ := hs₃
  replace he₃ : EnumK h₃ e it ((i : Int) + 1) a b old := he₃
  show wpAny _ _ (newTuple [.int i tk, x] >>= _) _ _ ⟨h₃, g, d, tk + 1, os⟩
  refine wpAny_bind (wpAny_newTuple ?_)
  have he₄ : EnumK (h₃.push { cls := .type "tuple", data := .seq #[.int i tk, x] }) e it ((i : Int) + 1) a b old := Heap.get?_push_of_some _ he₃
  generalize hh₄ : h₃.push { cls := .type "tuple", data := .seq #[.int i tk, x] } = h₄ at he₄
  have hsz : h₃.objs.size = hp.objs.size := by rw [hs₃.1, hs₂.1, hs₁.1]
  have hel : e < hp.objs.size := Heap.lt_size he
  have ht₄ : h₄.get? hp.objs.size = some { cls := .type "tuple", data := .seq #[.int i tk, x] } := by rw [← hh₄, ← hsz]; exact Heap.get?_push_size _ rfl
  have hz₄ : h₄.objs.size = hp.objs.size + 1 := by rw [← hh₄, Heap.size_push, hsz]
  have hk₄ : ∀ b o, b ≠ e → b ≠ it → hp.get? b = some o → h₄.get? b = some o := fun b o hbe hbi hb => by
    rw [← hh₄]; exact Heap.get?_push_of_some _ (hs₃.extBut b o hbe (hs₂.extBut b o hbe (hs₁.extBut b o hbi hb)))
  have hit₄ : h₄.IsListIter it l (i + 1) := by
    rw [← hh₄]; obtain ⟨o, ho, r⟩ := (hit₁.extBut hs₂.extBut (Ne.symm hne)).extBut hs₃.extBut (Ne.symm hne); exact ⟨o, Heap.get?_push_of_some _ ho, r⟩
  have ha₄ : h₄.get? a = some oa := hk₄ a oa hae hai ha
  show wpAny _ _ (Builtin.SmallTypes.ownedTupleIsFree (.ref e) >>= _) _ _ ⟨h₄, g, d, tk + 1, os⟩
  rw [hsz]
  clear hh₄ he₃ hs₃ he₂ hs₂ he₁ hs₁ hit₁ hsz h₃ h₂ h₁
  refine wpAny_bind ?_
  unfold Builtin.SmallTypes.ownedTupleIsFree
  refine wpAny_bind (wpAny_field he₄ rfl (x := rawInt a) rfl ?_)
  show wpAny _ _ (loadIfAlive ((a : Int).toNat) >>= _) _ _ _
  refine wpAny_bind (wpAny_loadIfAlive_some (o := oa) (by simpa using ha₄) ?_)
  show wpAny _ _ (field (.ref e) 1 >>= _) _ _ _
  refine wpAny_bind (wpAny_field he₄ rfl (x := .bool b) rfl ?_)
  cases b with
  | false =>
    show wpAny _ _ (setField (.ref e) 1 (.bool true) >>= _) _ _ _
    refine wpAny_bind (wpAny_setField_rec he₄ (by simp) fun h₅ he₅ hs₅ => ?_)
    replace hs₅ : Heap.SameBut e h₄ h₅ := hs₅
    replace he₅ : EnumK h₅ e it ((i : Int) + 1) a true old := he₅
    refine wpAny_pure ?_
    show wpAny _ _ (ret (.ref hp.objs.size)) _ _ _
    refine wpAny_pure ⟨_, rfl, hQ h₅ he₅ (hit₄.extBut hs₅.extBut (Ne.symm hne)) (hs₅.extBut _ _ (Nat.ne_of_gt hel) ht₄) (by rw [hs₅.1, hz₄]) fun b o hbe hbi hb => hs₅.extBut b o hbe (hk₄ b o hbe hbi hb)⟩
  | true =>
    refine wpAny_pure ?_
    show wpAny _ _ (ret (.ref hp.objs.size)) _ _ _
    exact wpAny_pure ⟨_, rfl, hQ h₄ he₄ hit₄ ht₄ hz₄ hk₄⟩
theorem wpAny_pyNext_enumK_item {e it l a : Addr} {i : Nat} {items : Array Value} {x old : Value} {b : Bool} {oa : Obj} {Q : Option Value → Shared → Prop}
    (he : EnumK s.heap e it i a b old) (ha : s.heap.get? a = some oa) (hae : a ≠ e) (hai : a ≠ it) (hit : s.heap.IsListIter it l i) (hl : s.heap.IsList l items) (hx : items[i]? = some x) (hne : e ≠ it)
    (hQ : ∀ h', EnumK h' e it ((i : Int) + 1) a true old → h'.IsListIter it l (i + 1) →
      h'.get? s.heap.objs.size = some { cls := .type "tuple", data := .seq #[.int i s.toks, x] } → h'.objs.size = s.heap.objs.size + 1 →
      (∀ b o, b ≠ e → b ≠ it → s.heap.get? b = some o → h'.get? b = some o) → Q (some (.ref s.heap.objs.size)) { s with heap := h', toks := s.toks + 1 }) :
    wpAny (model prog w) A (pyNext (.ref e)) Q E s := by
  have hT : s.TypeIs (.ref e) "enumerate" := ⟨_, he, rfl⟩
  unfold pyNext
  exact wpAny_bind (wpAny_attempt (wpAny_callSpecial?_slot (name := Str.ofString "__next__") hT F.slot_enumerate_next
    (wpAny_call_entry F.slot_enumerate_next hT F.entry_enumerate_next
      (enumK_next_item he ha hae hai hit hl hx hne fun h' a b c d k => wpAny_pure (hQ h' a b c d k)) (F.args_enumerate_next_1 _))))
theorem wpAny_pyNext_enumK_end {e it l a : Addr} {i : Nat} {items : Array Value} {old : Value} {b : Bool} {Q : Option Value → Shared → Prop} (hh : A.handled = none)
    (he : EnumK s.heap e it i a b old) (hit : s.heap.IsListIter it l i) (hl : s.heap.IsList l items) (hx : items[i]? = none)
    (hQ : ∀ h', Heap.ExtBut it s.heap h' → Q none { s with heap := h' }) : wpAny (model prog w) A (pyNext (.ref e)) Q E s := by
  have hT : s.TypeIs (.ref e) "enumerate" := ⟨_, he, rfl⟩
  unfold pyNext
  refine wpAny_bind (wpAny_attempt (wpAny_callSpecial?_slot (name := Str.ofString "__next__") hT F.slot_enumerate_next
    (wpAny_call_entry F.slot_enumerate_next hT F.entry_enumerate_next ?_ (F.args_enumerate_next_1 _))))
  show wpAny _ _ (field (.ref e) 2 >>= _) _ _ _
  refine wpAny_bind (wpAny_field he rfl (x := .ref it) rfl ?_)
  refine wpAny_bind (wpAny_nextOf_list_end hh hit hl hx fun h' x he' hx' => ?_)
  obtain ⟨o, ho, hc⟩ := hx'
  refine wpAny_bind (wpAny_isInstance (T := "StopIteration") (b := true) ⟨o, ho, hc⟩ isSubtype_stop ?_)
  exact wpAny_pure (hQ _ he')
end
end PySem
set_option Elab.async false
set_option linter.all false
set_option maxRecDepth 100000
set_option maxHeartbeats 4000000
namespace PySem
open Sem (wp)
namespace F
theorem entry_dict_update_loop : entryFor table "dict.update.loop" = some Builtin.«dict.update.loop» := entryFor_of_tree (by kernel_rfl)
theorem plain_dict_update_loop : plainId "dict.update.loop" = true := by decide +kernel
end F
section
variable {prog : Program} {w : World} {A : Around} {E : Value → Shared → Prop} {K : Type} [DecidableEq K] {knd : KeyKind prog w K}
def EnumAt (h : Heap) (e it l : Addr) (i : Nat) : Prop := (∃ old, IsEnum h e it i old) ∨ ∃ a b old oa, EnumK h e it i a b old ∧ h.get? a = some oa ∧ a ≠ e ∧ a ≠ it
theorem enumAt_item {s : Shared} {e it l : Addr} {i : Nat} {items : Array Value} {x : Value} {Q : Option Value → Shared → Prop}
    (he : EnumAt s.heap e it l i) (hit : s.heap.IsListIter it l i) (hl : s.heap.IsList l items) (hx : items[i]? = some x) (hne : e ≠ it) (hle : l ≠ e) (hli : l ≠ it)
    (hQ : ∀ h', EnumAt h' e it l (i + 1) → h'.IsListIter it l (i + 1) → h'.IsList l items →
      h'.get? s.heap.objs.size = some { cls := .type "tuple", data := .seq #[.int i s.toks, x] } → h'.objs.size = s.heap.objs.size + 1 →
      (∀ b o, b ≠ e → b ≠ it → s.heap.get? b = some o → h'.get? b = some o) → Q (some (.ref s.heap.objs.size)) { s with heap := h', toks := s.toks + 1 }) :
    wpAny (model prog w) A (pyNext (.ref e)) Q E s := by
  have hitl : it < s.heap.objs.size := by obtain ⟨_, x, _⟩ := hit; exact Heap.lt_size x
  rcases he with ⟨old, he⟩ | ⟨a, b, old, oa, he, ha, hae, hai⟩
  · have hel := Heap.lt_size he
    refine wpAny_pyNext_enum_item he hit hl hx hne fun h' ho hit' hT hsz hk => ?_
    exact hQ h' (.inr ⟨_, false, x, _, by simpa using ho, hT, Nat.ne_of_gt hel, Nat.ne_of_gt hitl⟩) hit' (hl.at fun o y => hk l o hle hli y) hT hsz hk
  · refine wpAny_pyNext_enumK_item he ha hae hai hit hl hx hne fun h' ho hit' hT hsz hk => ?_
    exact hQ h' (.inr ⟨a, true, old, oa, by simpa using ho, hk a oa hae hai ha, hae, hai⟩) hit' (hl.at fun o y => hk l o hle hli y) hT hsz hk
theorem enumAt_end {s : Shared} {e it l : Addr} {i : Nat} {items : Array Value} {Q : Option Value → Shared → Prop} (hh : A.handled = none)
    (he : EnumAt s.heap e it l i) (hit : s.heap.IsListIter it l i) (hl : s.heap.IsList l items) (hx : items[i]? = none)
    (hQ : ∀ h', Heap.ExtBut it s.heap h' → Q none { s with heap := h' }) : wpAny (model prog w) A (pyNext (.ref e)) Q E s := by
  rcases he with ⟨old, he⟩ | ⟨a, b, old, oa, he, ha, hae, hai⟩
  · exact wpAny_pyNext_enum_end hh he hit hl hx hQ
  · exact wpAny_pyNext_enumK_end hh he hit hl hx hQ
theorem codeAny_dict_enum {R : Result → Shared → Prop} (hh : A.handled = none) (d e it l : Addr) (items : Array Value) (key : Nat → K) (hkey : ∀ i t, knd.is (key i) (.int i t) = true) (inj : ∀ i j, key i = key j → i = j)
    (hne : e ≠ it) (hle : l ≠ e) (hli : l ≠ it) (hde : d ≠ e) (hdi : d ≠ it) (hdl : d ≠ l) (hz : items.size ≤ sizeLine) :
    ∀ (k i : Nat) (s : Shared) (tn : Tok), items.size - i = k → i ≤ items.size → EnumAt s.heap e it l i → s.heap.IsListIter it l i → s.heap.IsList l items →
      s.heap.DictOf knd d ((items.toList.take i).zipIdx.map fun p => (key p.2, p.1)) →
      (∀ s', s'.heap.DictOf knd d (items.toList.zipIdx.map fun p => (key p.2, p.1)) → (∀ b o, b ≠ d → b ≠ e → b ≠ it → s.heap.get? b = some o → s'.heap.get? b = some o) → (∃ h' tk, s' = { s with heap := h', toks := tk }) → R (.ok (.ret .none)) s') →
      codeAny (model prog w) A (.builtin "dict.update.loop" ⟨[.ref d, .ref e, .int i tn, .none], []⟩) R s := by
  intro k
  induction k with
  | zero =>
    intro i s tn hk hi he hit hl hD hR
    have hin : i = items.size := by omega
    subst hin
    refine codeAny_builtin F.entry_dict_update_loop ?_
    rw [Around.under_plainId F.plain_dict_update_loop _]
    show wpAny _ A.in1 (pyNext (.ref e) >>= _) _ _ s
    refine wpAny_bind (enumAt_end (A := A.in1) hh he hit hl (by simp) fun h' hx => ?_)
    show wpAny _ A.in1 (Builtin.Dict.addKeywords d [] >>= _) _ _ _
    refine wpAny_bind (wpAny_pure ?_)
    refine wpAny_pure (hR _ ?_ (fun b o _ _ hb e => hx b o hb e) ⟨h', s.toks, rfl⟩)
    rw [List.take_of_length_le (by simp)] at hD
    obtain ⟨o, es, ep, ho, rest⟩ := hD
    exact ⟨o, es, ep, hx _ _ hdi ho, rest⟩
  | succ k ih =>
    intro i s tn hk hi he hit hl hD hR
    have hlt : i < items.size := by omega
    refine codeAny_builtin F.entry_dict_update_loop ?_
    rw [Around.under_plainId F.plain_dict_update_loop _]
    show wpAny _ A.in1 (pyNext (.ref e) >>= _) _ _ s
    refine wpAny_bind (enumAt_item he hit hl (Array.getElem?_eq_getElem hlt) hne hle hli fun h' he' hit' hl' hT hsz hk' => ?_)
    show wpAny _ A.in1 (holding [Value.ref s.heap.objs.size] _ >>= _) _ _ _
    refine wpAny_bind (wpAny_holding ?_)
    refine wpAny_bind (wpAny_tryCatch ?_)
    unfold Builtin.Dict.pairItems
    refine wpAny_bind (wpAny_typeOf (T := "tuple") ⟨_, hT, rfl⟩ ?_)
    simp only [show (Value.type "tuple" == Value.type "list") = false from by decide, show (Value.type "tuple" == Value.type "tuple") = true from by decide, Bool.false_or, if_true]
    refine wpAny_bind (wpAny_seqItems hT rfl (wpAny_pure ?_))
    show wpAny _ A.in1 (holding [Value.int i s.toks, items[i]] (dictSet d (.int i s.toks) items[i])) _ _ _
    have hD' : h'.DictOf knd d ((items.toList.take i).zipIdx.map fun p => (key p.2, p.1)) := by
      obtain ⟨o, es, ep, ho, rest⟩ := hD
      exact ⟨o, es, ep, hk' _ _ hde hdi ho, rest⟩
    refine wpAny_holding (wpAny_dictSet_pairs (knd := knd) (k := key i) (hkey i _) (s := { s with heap := h', toks := s.toks + 1 }) hD' (fun h'' hD2 hs => ?_) (by simp; omega))
    refine wpAny_pure ⟨plainId_quiet F.plain_dict_update_loop _, ?_⟩
    have hnew : stored ((items.toList.take i).zipIdx.map fun p => (key p.2, p.1)) (key i) items[i] = (items.toList.take (i + 1)).zipIdx.map fun p => (key p.2, p.1) := by
      have hno : ¬ (((items.toList.take i).zipIdx.map fun p => (key p.2, p.1)).any fun kv => decide (kv.1 = key i)) = true := by
        intro h
        rw [List.any_eq_true] at h
        obtain ⟨kv, hm, hv⟩ := h
        rw [List.mem_map] at hm
        obtain ⟨p, hp, rfl⟩ := hm
        have h1 := inj _ _ (of_decide_eq_true hv)
        obtain ⟨p1, p2⟩ := p
        have h2 := List.snd_lt_of_mem_zipIdx hp
        simp at h1 h2
        omega
      unfold stored
      rw [if_neg hno, List.take_succ, List.zipIdx_append, List.map_append]
      have : (items.toList[i]?).toList = [items[i]] := by simp [hlt]
      rw [this]
      simp [Nat.min_eq_left (Nat.le_of_lt hlt)]
    rw [hnew] at hD2
    have hl2 : l ≠ d := fun z => hdl z.symm
    have hkeep : ∀ b o, b ≠ d → h'.get? b = some o → h''.get? b = some o := fun b o hb x => (hs.2 b hb).trans x
    refine ih (i + 1) _ _ (by omega) hlt ?_ (hit'.at fun o x => hkeep _ _ (Ne.symm hdi) x) (hl'.at fun o x => hkeep _ _ hl2 x) hD2 fun s' hD3 hk3 ⟨h3, tk3, e3⟩ => hR s' hD3 (fun b o b1 b2 b3 x => hk3 b o b1 b2 b3 (hkeep b o b1 (hk' b o b2 b3 x))) ⟨h3, tk3, e3⟩
    rcases he' with ⟨old, he'⟩ | ⟨a, b, old, oa, he', ha, hae, hai⟩
    · exact .inl ⟨old, hkeep _ _ (Ne.symm hde) he'⟩
    · by_cases had : a = d
      · subst had
        obtain ⟨o, es, ep, ho, rest⟩ := hD2
        exact .inr ⟨a, b, old, o, hkeep _ _ (Ne.symm hde) he', ho, hae, hai⟩
      · exact .inr ⟨a, b, old, oa, hkeep _ _ (Ne.symm hde) he', hkeep _ _ had ha, hae, hai⟩
end
end PySem
set_option Elab.async false
set_option linter.all false
set_option maxRecDepth 100000
set_option maxHeartbeats 4000000
namespace PySem
section
variable {prog : Program} {w : World} {A : Around} {E : Value → Shared → Prop} {s : Shared} {K : Type} [DecidableEq K] {knd : KeyKind prog w K}
theorem call_dict_enum {e it l : Addr} {items : Array Value} {Q : Value → Shared → Prop} (hh : A.handled = none) (key : Nat → K) (hkey : ∀ i t, knd.is (key i) (.int i t) = true) (inj : ∀ i j, key i = key j → i = j)
    (he : IsEnum s.heap e it 0 .none) (hit : s.heap.IsListIter it l 0) (hl : s.heap.IsList l items) (hne : e ≠ it) (hle : l ≠ e) (hli : l ≠ it) (hz : items.size ≤ sizeLine)
    (h : ∀ h' tk, h'.DictOf knd s.heap.objs.size (items.toList.zipIdx.map fun p => (key p.2, p.1)) → (∀ b o, b ≠ e → b ≠ it → s.heap.get? b = some o → h'.get? b = some o) → Q (.ref s.heap.objs.size) { s with heap := h', toks := tk }) :
    wpAny (model prog w) A (call (.type "dict") [.ref e]) Q E s := by
  refine callType_codes (Q₁ := fun obj s₁ => obj = .ref s.heap.objs.size ∧ s₁ = { s with heap := s.heap.push { cls := .type "dict", data := .dict #[] } }) F.kt_called_dict (F.kt_typeCall_dict_1 _) F.entry_dict_init (kt_code_dict_new _ ⟨rfl, rfl⟩) ?_
  rintro obj s₁ ⟨rfl, rfl⟩
  have hnew : (s.heap.push { cls := .type "dict", data := .dict #[] }).DictOf knd s.heap.objs.size [] := Heap.DictOf.new s.heap
  have hel : e < s.heap.objs.size := Heap.lt_size he
  have hitl : it < s.heap.objs.size := by obtain ⟨_, x, _⟩ := hit; exact Heap.lt_size x
  have hll : l < s.heap.objs.size := by obtain ⟨_, x, _⟩ := hl; exact Heap.lt_size x
  refine ⟨hnew.typeIs, F.args_dict_init_2 _ _, ?_⟩
  unfold Builtin.«dict.__init__»
  refine wpAny_bind ?_
  unfold Builtin.Dict.selfAndRest
  refine wpAny_bind (wpAny_notOrdered_dict hnew.typeIs ?_)
  show wpAny _ _ (pure (s.heap.objs.size, [Value.ref e])) _ _ _
  refine wpAny_pure ?_
  show wpAny _ _ (Builtin.Dict.updateFrom "dict.__init__" s.heap.objs.size (.ref e) [] .none) _ _ _
  unfold Builtin.Dict.updateFrom
  have he1 : IsEnum (s.heap.push { cls := .type "dict", data := .dict #[] }) e it 0 .none := Heap.get?_push_of_some _ he
  refine wpAny_bind (wpAny_typeOf (T := "enumerate") ⟨_, he1, rfl⟩ ?_)
  rw [if_pos (by decide)]
  refine wpAny_bind (keys_miss_enum (s := { s with heap := s.heap.push { cls := .type "dict", data := .dict #[] } }) he1 hh fun h' tk hk => ?_)
  rw [if_pos (show (none : Option Value).isNone = true from rfl)]
  refine wpAny_bind (wpAny_rule ?_)
  have kp : ∀ b o, s.heap.get? b = some o → h'.get? b = some o := fun b o x => hk b o (Heap.get?_push_of_some _ x)
  refine wpAny_bind (wpAny_pyIter_enum (s := { s with heap := h', toks := tk }) (kp _ _ he) ?_)
  refine wpAny_pure ⟨plainId_quiet F.plain_dict_update_loop _, ?_⟩
  have hD : h'.DictOf knd s.heap.objs.size [] := by
    obtain ⟨o, es, ep, ho, rest⟩ := hnew
    exact ⟨o, es, ep, hk _ _ ho, rest⟩
  refine codeAny_dict_enum (knd := knd) (A := A.in1) hh s.heap.objs.size e it l items key hkey inj hne hle hli (Nat.ne_of_gt hel) (Nat.ne_of_gt hitl) (Nat.ne_of_gt hll) hz items.size 0 _ _ (by simp) (Nat.zero_le _)
    (.inl ⟨.none, kp _ _ he⟩) (hit.at fun o x => kp _ _ x) (hl.at fun o x => kp _ _ x) (by simpa using hD) ?_
  rintro s' hD2 hk2 ⟨h3, tk3, rfl⟩
  refine ⟨rfl, ?_⟩
  exact h h3 tk3 hD2 fun b o b1 b2 x => hk2 b o (Nat.ne_of_lt (Heap.lt_size x)) b1 b2 (kp b o x)
end
end PySem
namespace PL
open PySem PySem.Spec L2
open PyProof.Rows hiding St
theorem bEnum : bootBuiltins "enumerate" = some (.type "enumerate") := by decide +kernel
def enumKV (xs : List V) : List (Key × V) := xs.zipIdx.map fun p => (.inl (p.2 : Int), p.1)
theorem kv_enum {xs : List V} {its : List Value} (r : Vals xs its) : KV (enumKV xs) (its.zipIdx.map fun p => ((Sum.inl (p.2 : Int) : Key), p.1)) := by
  have : ∀ n, KV ((xs.zipIdx n).map fun p => ((Sum.inl (p.2 : Int) : Key), p.1)) ((its.zipIdx n).map fun p => ((Sum.inl (p.2 : Int) : Key), p.1)) := by
    induction r with
    | nil => intro n; exact .nil
    | cons h1 h2 ih => intro n; exact .cons ⟨rfl, h1⟩ (ih (n + 1))
  exact this 0
section
variable {X : Cx} {e : Expr} {te : TE} {p p2 pos pos2 : Pos}
theorem pe_dictEnum (hc : X.calm = true) (hg : Gl X "dict") (hm : X.mg "dict" = none) (hg2 : Gl X "enumerate") (hm2 : X.mg "enumerate" = none) (he : PE X e te)
    (hs1 : starEach [e] X.env = (false, eval e X.env) :: starEach [] X.env := by rfl) (hpl1 : (backTo pos2 (starEach [] X.env)).any (·.1) = false := by rfl)
    (hs2 : starEach [Expr.Call (.Name "enumerate" p2) [e] [] pos2] X.env = (false, eval (Expr.Call (.Name "enumerate" p2) [e] [] pos2) X.env) :: starEach [] X.env := by rfl) (hpl2 : (backTo pos (starEach [] X.env)).any (·.1) = false := by rfl) :
    PE X (.Call (.Name "dict" p) [.Call (.Name "enumerate" p2) [e] [] pos2] [] pos) (fun σ H Q => te σ H fun x H1 => ∃ l xs, x = .ref l ∧ SqL X.K H1 l xs ∧ ∀ a, H1 a = none → Q (.ref a) (upd H1 a (.dK (enumKV xs)))) := by
  intro pins s σ H Q I h
  refine wpAny_Call_Name_kw (ld_blt I hg hm bDict ?_ (by decide) (by decide))
  refine PyProof.Rows.callWith_type1 ?_ hs2 hpl2
  rw [hs2]
  show wpAny _ _ (spliced ((false, eval _ X.env) :: backTo pos (starEach [] X.env))) _ _ s
  refine Calls.spliced_cons (wpAny_Call_Name_kw (ld_blt I hg2 hm2 bEnum ?_ (by decide) (by decide)))
  refine PyProof.Rows.callWith_type1 ?_ hs1 hpl1
  rw [hs1]
  show wpAny _ _ (spliced ((false, eval _ X.env) :: backTo pos2 (starEach [] X.env))) _ _ s
  refine Calls.spliced_cons (thn (he pins s σ H _ I h) fun u s1 ⟨x, H1, I1, r1, l, xs, ex, hq, q⟩ => Calls.spliced_nil ?_)
  subst ex
  obtain rfl : u = Value.ref l := r1
  obtain ⟨its, r, pl, hz⟩ := I1.list hq
  have hL := pl.isList
  have hll : l < s1.heap.objs.size := by obtain ⟨_, x, _⟩ := hL; exact Heap.lt_size x
  refine call_enumerate_list hL fun h' hE hit hsz hk => Calls.spliced_nil ?_
  have hlen := r.length
  refine call_dict_enum (knd := mixKind X.prog X.w) (s := { s1 with heap := h' }) (I1.ok.hd hc) (fun i => (Sum.inl (i : Int) : Key)) (fun i t => mixKind_int _ _ _ _) (fun i j z => by injection z with z; omega) hE hit (hL.at fun o x => hk l o x)
    (Nat.succ_ne_self _) (Nat.ne_of_lt (Nat.lt_succ_of_lt hll)) (Nat.ne_of_lt hll) (by simp; omega) fun h2 tk hD hk2 => ?_
  have hsz2 : h'.objs.size = s1.heap.objs.size + 2 := hsz
  have kp : ∀ b o, s1.heap.get? b = some o → h2.get? b = some o := fun b o x => hk2 b o (Nat.ne_of_lt (Nat.lt_succ_of_lt (Heap.lt_size x))) (Nat.ne_of_lt (Heap.lt_size x)) (hk b o x)
  have hfr : s1.heap.objs.size ≤ h'.objs.size := by omega
  refine ⟨.ref h'.objs.size, upd H1 h'.objs.size (.dK (enumKV xs)), I1.laid (t' := tk) kp hfr (dk_new (by simp [enumKV]; omega) ?_ (kv_enum r) ?_), rfl, q _ (I1.hok.fresh hfr)⟩
  · have hne : h'.objs.size ≠ sysModules := Nat.ne_of_gt (Nat.lt_of_lt_of_le I1.big hfr)
    simpa using hne
  · simpa using hD
end
end PL
set_option Elab.async false
set_option linter.all false
set_option maxRecDepth 100000
set_option maxHeartbeats 4000000
namespace PL
open PySem PySem.Spec L2
open PyProof.Rows hiding St
def enumKs (n : Nat) : List Key := (List.range n).map fun (i : Nat) => (Sum.inl (i : Int) : Key)
theorem enum_zip (xs : List V) : enumKV xs = (enumKs xs.length).zip xs := by
  refine List.ext_getElem? fun i => ?_
  rcases Nat.lt_or_ge i xs.length with h | h
  · simp [enumKV, enumKs, List.zip, List.getElem?_eq_getElem h, List.getElem?_zipWith, List.getElem?_range, h]
  · simp [enumKV, enumKs, List.zip, List.getElem?_eq_none h, List.getElem?_zipWith]
theorem Post.newD {K : PySem.W.Frag} {Fz : FZ} {H : Hp} {p : Addr} {ks : List Key} {ds : List PV} {xs : List V} (al : ∀ b, Fz b → H b ≠ none) (hp : H p = none) (hl : ks.length = xs.length) (h : DenL K Fz H ds xs) : Post K [] [] Fz H Fz (upd H p (.dK (ks.zip xs))) (.dK ks ds) .new (.ref p) :=
  ⟨Ext.laid ⟨Same.refl H, fun _ h => h, fun _ h => .inl h, al⟩ hp, p, rfl, hp, fun z => al p z hp, xs, upd_same, hl, DenL.mono (.of (Ext.laid (Fz := Fz) ⟨Same.refl H, fun _ h => h, fun _ h => .inl h, al⟩ hp).same) (fun _ h => h) _ _ h⟩
def pDictEnum (te : TPE) : TPE := fun ρ Q => te ρ fun d _ => ∃ ds, d = .lst ds ∧ Q (.dK (enumKs ds.length) ds) .new
section
variable {X : Cx} {e : Expr} {te : TPE} {p p2 pos pos2 : Pos}
theorem pu_dictEnum (hc : X.calm = true) (hg : Gl X "dict") (hm : X.mg "dict" = none) (hg2 : Gl X "enumerate") (hm2 : X.mg "enumerate" = none) (he : PuE X e te)
    (hs1 : starEach [e] X.env = (false, eval e X.env) :: starEach [] X.env := by rfl) (hpl1 : (backTo pos2 (starEach [] X.env)).any (·.1) = false := by rfl)
    (hs2 : starEach [Expr.Call (.Name "enumerate" p2) [e] [] pos2] X.env = (false, eval (Expr.Call (.Name "enumerate" p2) [e] [] pos2) X.env) :: starEach [] X.env := by rfl) (hpl2 : (backTo pos (starEach [] X.env)).any (·.1) = false := by rfl) :
    PuE X (.Call (.Name "dict" p) [.Call (.Name "enumerate" p2) [e] [] pos2] [] pos) (pDictEnum te) where
  mono ρ Q Q' m h := he.mono ρ _ _ (fun d k ⟨ds, e1, q⟩ => ⟨ds, e1, m _ _ q⟩) h
  run := PE.weak (pe_dictEnum hc hg hm hg2 hm2 he.run hs1 hpl1 hs2 hpl2) fun σ H Q h => by
    obtain ⟨ρ, Fz, R, h⟩ := h
    refine ⟨ρ, Fz, R, he.mono ρ _ _ (fun d k q v F1 H1 p1 => ?_) h⟩
    obtain ⟨ds, rfl, q⟩ := q
    obtain ⟨a, xs, rfl, h1, h2⟩ := root_lst (p1.root R)
    refine ⟨a, xs, rfl, h1, fun l hl => ?_⟩
    have hlen := h2.length
    rw [enum_zip, ← hlen]
    exact q _ F1 _ ((Post.newD p1.ext.al hl (by simp [enumKs, hlen]) h2).behind p1.ext)
end
theorem bAll : bootBuiltins "all" = some (.builtin "all") := by decide +kernel
section
variable {X : Cx}
theorem call_allP (hc : X.calm = true) : CallR X (.builtin "all") (fun xs H Q => ∃ (p : Addr) (bs : List Bool), xs = [V.ref p] ∧ SqL X.K H p (bs.map V.bl) ∧ Q (.bl (bs.all id)) H) := by
  intro pins s σ H xs us Q I r h
  obtain ⟨p, bs, rfl, hq, q⟩ := h
  obtain ⟨u, rfl, rx⟩ := vals1 r
  cases rx
  obtain ⟨its, r', pl, hz⟩ := I.list hq
  have hL := pl.isList
  have hpl : p < s.heap.objs.size := by obtain ⟨_, x, _⟩ := hL; exact Heap.lt_size x
  have hlen : its.length = bs.length := by rw [← r'.length]; simp
  refine call_all_walk (wpAny_pyIter_list hL ?_)
  refine ⟨_, [_, p], [_], _, _, _, fun i => bs.getD i true, rfl, Walks.list (A := X.A.in1) (I.ok.hd hc) _ p (Nat.ne_of_lt hpl) its.toArray, ⟨⟨_, Heap.get?_push_size _ rfl, rfl, rfl⟩, hL.push _⟩, ?_, fun h' tk hk => ?_⟩
  · intro i v s' Q' E' hP hQ
    have hv : its[i]? = some v := by simpa using hP
    have hi : i < bs.length := by rw [← hlen]; exact (List.getElem?_eq_some_iff.mp hv).1
    obtain ⟨v', hv', rv⟩ := r'.get (i := i) (x := .bl bs[i]) (by simp [hi])
    rw [hv] at hv'; cases hv'
    cases rv
    refine wpAny_truthy_bool ?_
    have : bs.getD i true = bs[i] := by rw [List.getD_eq_getElem?_getD, List.getElem?_eq_getElem hi]; rfl
    rw [← this]
    exact hQ
  · refine ⟨.bl (bs.all id), H, I.kept (t' := tk) (fun b o x => hk b o ?_ (Heap.get?_push_of_some _ x)), ?_, q⟩
    · have := Heap.lt_size x
      simp
      exact Nat.ne_of_lt this
    · have : (List.range its.toArray.size).all (fun i => bs.getD i true) = bs.all id := by
        rw [List.size_toArray, hlen]
        rw [Bool.eq_iff_iff, List.all_eq_true, List.all_eq_true]
        constructor
        · intro h x hx
          obtain ⟨i, hi, e⟩ := List.getElem_of_mem hx
          have := h i (List.mem_range.mpr hi)
          rw [List.getD_eq_getElem?_getD, List.getElem?_eq_getElem hi] at this
          simpa [← e] using this
        · intro h i hi
          have hi := List.mem_range.mp hi
          rw [List.getD_eq_getElem?_getD, List.getElem?_eq_getElem hi]
          simpa using h _ (List.getElem_mem hi)
      show RelV _ _
      rw [this]; rfl
theorem denl_bls {K : PySem.W.Frag} {Fz : FZ} {H : Hp} : ∀ {bs : List Bool} {xs : List V}, DenL K Fz H (bs.map PV.bl) xs → xs = bs.map V.bl
  | [], xs, h => by simpa only [List.map, DenL] using h
  | b :: bs, xs, h => by
    simp only [List.map, DenL, Den] at h
    obtain ⟨v, r, rfl, rfl, h⟩ := h
    rw [denl_bls h]; rfl
def fAll : PF := fun ds Q => ∃ bs : List Bool, ds = [.lst (bs.map PV.bl)] ∧ Q (.bl (bs.all id)) .frz
theorem pc_all : PCall X.K (fun xs H Q => ∃ (p : Addr) (bs : List Bool), xs = [V.ref p] ∧ SqL X.K H p (bs.map V.bl) ∧ Q (.bl (bs.all id)) H) fAll where
  mono ds Q Q' m h := by obtain ⟨bs, e, q⟩ := h; exact ⟨bs, e, m _ _ q⟩
  run Fz H ds vs Q al hr h := by
    obtain ⟨bs, rfl, q⟩ := h
    obtain ⟨v, rfl, h1⟩ := rootL1 hr
    obtain ⟨a, xs, rfl, h2, h3⟩ := root_lst h1
    rw [denl_bls h3] at h2
    exact ⟨a, bs, rfl, h2, q _ Fz H (.val al (by simp only [Den]))⟩
variable {e : Expr} {es : List Expr} {t : TPA} {p pos : Pos}
theorem pu_all (hc : X.calm = true) (hg : Gl X "all") (hm : X.mg "all" = none) (ha : PuA X (e :: es) t) (he : starEach (e :: es) X.env = (false, eval e X.env) :: starEach es X.env := by rfl) (hpl : (backTo pos (starEach es X.env)).any (·.1) = false := by rfl) : PuE X (.Call (.Name "all" p) (e :: es) [] pos) (tB fAll t) :=
  pu_callB (call_allP hc) pc_all hg hm bAll ha (by decide) (by decide) he hpl
end
end PL
set_option Elab.async false
set_option linter.all false
set_option maxRecDepth 100000
set_option maxHeartbeats 4000000
namespace PL
open PySem PySem.Spec L2
open PyProof.Rows hiding St
theorem vals_items {P : Nat → Value → Prop} {acc : Array Value} {xs : List V} (h : ItemsOf P acc xs.length) (f : ∀ (i : Nat) (v : Value) (x : V), xs[i]? = some x → P i v → RelV x v) : Vals xs acc.toList := by
  obtain ⟨hs, hv⟩ := h
  obtain ⟨acc⟩ := acc
  simp only [List.size_toArray] at hs
  have : ∀ (xs : List V) (its : List Value) (n : Nat), its.length = xs.length → (∀ (j : Nat) (v : Value) (x : V), its[j]? = some v → xs[j]? = some x → RelV x v) → Vals xs its := by
    intro xs
    induction xs with
    | nil => intro its n hl _; cases its with
      | nil => exact .nil
      | cons _ _ => simp at hl
    | cons x xs ih => intro its n hl hr; cases its with
      | nil => simp at hl
      | cons u us => exact .cons (hr 0 u x rfl rfl) (ih us n (by simpa using hl) fun j v y h1 h2 => hr (j + 1) v y (by simpa using h1) (by simpa using h2))
  exact this xs acc 0 hs fun j v x h1 h2 => f j v x h2 (hv j v (by simpa using h1))
section
variable {X : Cx}
theorem call_listS (hc : X.calm = true) : CallR X (.type "list") (fun xs H Q => ∃ x : Str, xs = [V.str x] ∧ x.length ≤ sizeLine ∧ ∀ l, H l = none → Q (.ref l) (upd H l (.lst ((signs x).map V.str)))) := by
  intro pins s σ H xs us Q I r h
  obtain ⟨x, rfl, hz, q⟩ := h
  obtain ⟨u, rfl, t, rfl⟩ := vals1 r
  refine call_list_str (I.ok.hd hc) x t (hn := hz) fun h' tk acc c kp e hacc => ?_
  have hl : x.cps.size = ((signs x).map V.str).length := by simp [signs]
  rw [hl] at hacc
  have rv : Vals ((signs x).map V.str) acc.toList := vals_items hacc fun i v y hy ⟨c, u, hc, ev⟩ => by
    subst ev
    have : y = .str ⟨#[c]⟩ := by
      simp only [signs, List.getElem?_map, Array.getElem?_toList, hc, Option.map_some] at hy
      exact (Option.some.inj hy).symm
    subst this
    exact ⟨u, rfl⟩
  exact ⟨.ref s.heap.objs.size, _, I.laid (t' := tk) kp (Nat.le_refl _) (show ObjOk X.prog X.w _ h' _ (.lst ((signs x).map V.str)) from ⟨by rw [← hl]; exact hz, acc.toList, c, rv, by simpa using e⟩), rfl, q _ (I.hok.fresh (Nat.le_refl _))⟩
theorem call_listD (hc : X.calm = true) : CallR X (.type "list") (fun xs H Q => ∃ (a : Addr) (kvs : List (Key × V)), xs = [V.ref a] ∧ Rd H a (.dK kvs) ∧ ∀ l, H l = none → Q (.ref l) (upd H l (.lst (kvs.map fun kv => kV kv.1)))) := by
  intro pins s σ H xs us Q I r h
  obtain ⟨a, kvs, rfl, hq, q⟩ := h
  obtain ⟨u, rfl, rx⟩ := vals1 r
  cases rx
  obtain ⟨z, lo, vs, rel, dd⟩ := dk_rd I.hok hq
  obtain ⟨ep, hat⟩ := dd.dictAt
  have hlen : kvs.length = vs.length := KV.length rel
  refine PySem.W.kdl_call (PySem.W.kdl_dict (knd := mixKind X.prog X.w) (kvs := vs) (ep := ep) lo) (I.ok.hd hc) hat (by omega) fun h' tk acc c kp e hacc => ?_
  have hl : vs.length = (kvs.map fun kv => kV kv.1).length := by simp [hlen]
  rw [hl] at hacc
  have rv : Vals (kvs.map fun kv => kV kv.1) acc.toList := vals_items hacc fun i v y hy ⟨k, x, hx, hk⟩ => by
    simp only [List.getElem?_map] at hy
    cases e2 : kvs[i]? with
    | none => rw [e2] at hy; cases hy
    | some kv =>
      rw [e2] at hy; cases hy
      obtain ⟨u2, hu2, _⟩ := kv_get rel e2
      rw [hx] at hu2
      cases hu2
      exact rel_key hk
  exact ⟨.ref s.heap.objs.size, _, I.laid (t' := tk) kp (Nat.le_refl _) (show ObjOk X.prog X.w _ h' _ (.lst (kvs.map fun kv => kV kv.1)) from ⟨by rw [← hl]; omega, acc.toList, c, rv, by simpa using e⟩), rfl, q _ (I.hok.fresh (Nat.le_refl _))⟩
def fListS : PF := fun ds Q => ∃ x : Str, ds = [.str x] ∧ x.length ≤ sizeLine ∧ Q (.lst ((signs x).map PV.str)) .new
def fListD : PF := fun ds Q => ∃ ks es, ds = [.dK ks es] ∧ Q (.lst (ks.map keyP)) .new
theorem keys_denl {K : PySem.W.Frag} {Fz : FZ} {H : Hp} : ∀ (ks : List Key), DenL K Fz H (ks.map keyP) (ks.map kV)
  | [] => DenL.nil
  | k :: ks => DenL.cons (den_key k) (keys_denl ks)
theorem pc_listS : PCall X.K (fun xs H Q => ∃ x : Str, xs = [V.str x] ∧ x.length ≤ sizeLine ∧ ∀ l, H l = none → Q (.ref l) (upd H l (.lst ((signs x).map V.str)))) fListS where
  mono ds Q Q' m h := by obtain ⟨x, e, e2, q⟩ := h; exact ⟨x, e, e2, m _ _ q⟩
  run Fz H ds vs Q al hr h := by
    obtain ⟨x, rfl, e2, q⟩ := h
    obtain ⟨v, rfl, h1⟩ := rootL1 hr
    exact ⟨x, by rw [root_str h1], e2, fun l hl => q _ Fz _ (.newL al hl (strs_denl _))⟩
theorem pc_listD : PCall X.K (fun xs H Q => ∃ (a : Addr) (kvs : List (Key × V)), xs = [V.ref a] ∧ Rd H a (.dK kvs) ∧ ∀ l, H l = none → Q (.ref l) (upd H l (.lst (kvs.map fun kv => kV kv.1)))) fListD where
  mono ds Q Q' m h := by obtain ⟨ks, es, e, q⟩ := h; exact ⟨ks, es, e, m _ _ q⟩
  run Fz H ds vs Q al hr h := by
    obtain ⟨ks, es, rfl, q⟩ := h
    obtain ⟨v, rfl, h1⟩ := rootL1 hr
    obtain ⟨a, xs, rfl, rd, hl, hd⟩ := root_dK h1
    refine ⟨a, _, rfl, rd, fun l hl2 => ?_⟩
    have : ((ks.zip xs).map fun kv => kV kv.1) = ks.map kV := by
      rw [show (fun kv : Key × V => kV kv.1) = kV ∘ Prod.fst from rfl, ← List.map_map, List.map_fst_zip (by omega)]
    rw [this]
    exact q _ Fz _ (.newL al hl2 (keys_denl _))
variable {e : Expr} {es : List Expr} {t : TPA} {p pos : Pos}
theorem pu_listS (hc : X.calm = true) (hg : Gl X "list") (hm : X.mg "list" = none) (ha : PuA X (e :: es) t) (he : starEach (e :: es) X.env = (false, eval e X.env) :: starEach es X.env := by rfl) (hpl : (backTo pos (starEach es X.env)).any (·.1) = false := by rfl) : PuE X (.Call (.Name "list" p) (e :: es) [] pos) (tB fListS t) :=
  pu_callTy (call_listS hc) pc_listS hg hm bList ha (by decide) (by decide) he hpl
theorem pu_listD (hc : X.calm = true) (hg : Gl X "list") (hm : X.mg "list" = none) (ha : PuA X (e :: es) t) (he : starEach (e :: es) X.env = (false, eval e X.env) :: starEach es X.env := by rfl) (hpl : (backTo pos (starEach es X.env)).any (·.1) = false := by rfl) : PuE X (.Call (.Name "list" p) (e :: es) [] pos) (tB fListD t) :=
  pu_callTy (call_listD hc) pc_listD hg hm bList ha (by decide) (by decide) he hpl
theorem call_min3 (hc : X.calm = true) : CallR X (.builtin "min") (fun xs H Q => ∃ i j k, xs = [V.int i, .int j, .int k] ∧ Q (.int (if j < i then (if k < j then k else j) else (if k < i then k else i))) H) := by
  intro pins s σ H xs us Q I r h
  obtain ⟨i, j, k, rfl, q⟩ := h
  obtain ⟨u, us2, rfl, ⟨t, rfl⟩, r2⟩ : ∃ u us2, us = u :: us2 ∧ RelV (.int i) u ∧ Vals [V.int j, .int k] us2 := by cases r with | cons a b => exact ⟨_, _, rfl, a, b⟩
  obtain ⟨u1, u2, rfl, ⟨t1, rfl⟩, ⟨t2, rfl⟩⟩ := vals2 r2
  refine min_three_ints (I.ok.hd hc) fun h' tk kp => ⟨_, H, I.kept kp, ?_, q⟩
  by_cases h1 : j < i
  · rw [if_pos h1, if_pos h1]
    by_cases h2 : k < j
    · rw [if_pos h2, if_pos h2]; exact ⟨_, rfl⟩
    · rw [if_neg h2, if_neg h2]; exact ⟨_, rfl⟩
  · rw [if_neg h1, if_neg h1]
    by_cases h2 : k < i
    · rw [if_pos h2, if_pos h2]; exact ⟨_, rfl⟩
    · rw [if_neg h2, if_neg h2]; exact ⟨_, rfl⟩
def fMin3 : PF := fun ds Q => ∃ i j k : Int, ds = [.int i, .int j, .int k] ∧ Q (.int (if j < i then (if k < j then k else j) else (if k < i then k else i))) .frz
theorem rootL3 {K : PySem.W.Frag} {Fz : FZ} {H : Hp} {d e f : PV} {vs : List V} (h : RootL K Fz H [d, e, f] vs) : ∃ v u w, vs = [v, u, w] ∧ Root K Fz H d v ∧ Root K Fz H e u ∧ Root K Fz H f w := by
  cases h with
  | cons a b =>
    obtain ⟨u, w, rfl, h1, h2⟩ := rootL2 b
    exact ⟨_, u, w, rfl, a, h1, h2⟩
theorem pc_min3 {K : PySem.W.Frag} : PCall K (fun xs H Q => ∃ i j k, xs = [V.int i, .int j, .int k] ∧ Q (.int (if j < i then (if k < j then k else j) else (if k < i then k else i))) H) fMin3 where
  mono ds Q Q' m h := by obtain ⟨i, j, k, e, q⟩ := h; exact ⟨i, j, k, e, m _ _ q⟩
  run Fz H ds vs Q al hr h := by
    obtain ⟨i, j, k, rfl, q⟩ := h
    obtain ⟨u, v, w, rfl, h1, h2, h3⟩ := rootL3 hr
    exact ⟨i, j, k, by rw [root_int h1, root_int h2, root_int h3], q _ Fz H (.val al (by simp only [Den]))⟩
theorem pu_min3 (hc : X.calm = true) (hg : Gl X "min") (hm : X.mg "min" = none) (ha : PuA X (e :: es) t) (he : starEach (e :: es) X.env = (false, eval e X.env) :: starEach es X.env := by rfl) (hpl : (backTo pos (starEach es X.env)).any (·.1) = false := by rfl) : PuE X (.Call (.Name "min" p) (e :: es) [] pos) (tB fMin3 t) :=
  pu_callB (call_min3 hc) pc_min3 hg hm bMin ha (by decide) (by decide) he hpl
theorem sl_str : SlR X (fun x lo hi H Q => ∃ z : Str, x = .str z ∧ z.length ≤ sizeLine ∧ Q (.str (Txt.slice z lo hi)) H) := by
  intro pins s σ H x v vl vu lo hi sl Q I rx hs pl pu h
  obtain ⟨z, rfl, hz, q⟩ := h
  obtain ⟨t, rfl⟩ := rx
  refine ⟨"str", _, PySem.F.slot_str_getitem.lookup, typeIs_str _ _ _, ?_⟩
  have fin : ∀ (l u : Option (Int × Tok)), s.heap.IsSlice sl l u none → l.map (·.1) = lo → u.map (·.1) = hi → wpAny (model X.prog X.w) X.A (getItem (.str z t) (.ref sl)) (EP X pins σ Q) X.xe s := fun l u h1 h2 h3 => by
    subst h2 h3
    refine wpAny_getItem_str_slice (st := none) h1 rfl (post_val_or_str ⟨Nat.le_trans (Txt.slice_le z _ _) hz, fun t' k => ?_⟩)
    exact ⟨.str (Txt.slice z (l.map (·.1)) (u.map (·.1))), H, I.tok _, ⟨t', rfl⟩, q⟩
  cases pl with
  | none => cases pu with
    | none => exact fin none none hs rfl rfl
    | int j t2 => exact fin none (some (j, t2)) hs rfl rfl
  | int i t1 => cases pu with
    | none => exact fin (some (i, t1)) none hs rfl rfl
    | int j t2 => exact fin (some (i, t1)) (some (j, t2)) hs rfl rfl
def pSlS (te : TPE) (tl th : TPO) : TPE := fun ρ Q => te ρ fun d _ => tl ρ fun l => th ρ fun u => ∃ z : Str, d = .str z ∧ z.length ≤ sizeLine ∧ Q (.str (Txt.slice z l u)) .frz
variable {e : Expr} {te : TPE} {lo hi : Option Expr} {tl th : TPO} {p2 pos : Pos}
theorem pu_sliceS (he : PuE X e te) (hl : PuO X lo tl) (hu : PuO X hi th) : PuE X (.Subscript e (.Slice lo hi none p2) pos) (pSlS te tl th) where
  mono ρ Q Q' m h := he.mono ρ _ _ (fun d k h => hl.mono ρ _ _ (fun l h => hu.mono ρ _ _ (fun u ⟨ds, e, e2, q⟩ => ⟨ds, e, e2, m _ _ q⟩) h) h) h
  run := PE.weak (pe_slice sl_str he.run hl.run hu.run) fun σ H Q h => by
    obtain ⟨ρ, Fz, R, h⟩ := h
    refine ⟨ρ, Fz, R, he.mono ρ _ _ (fun d k q v F1 H1 p1 => ?_) h⟩
    refine ⟨ρ, F1, R.ext p1.ext, hl.mono ρ _ _ (fun l q F2 H2 x2 => ?_) q⟩
    refine ⟨ρ, F2, (R.ext p1.ext).ext x2, hu.mono ρ _ _ (fun u q3 F3 H3 x3 => ?_) q⟩
    obtain ⟨z, e3, e4, q4⟩ := q3
    subst e3
    exact ⟨z, root_str (p1.root R), e4, q4 _ F3 _ ((Post.val x3.al (by simp only [Den])).behind (p1.ext.trans (x2.trans x3)))⟩
end
end PL
set_option Elab.async false
set_option linter.all false
namespace PL
open PySem PySem.Spec L2
theorem hu1 {A : Around} (h : A.units + 16 < cLine) : A.units + 1 < cLine := by omega
end PL
set_option Elab.async false
set_option linter.all false
set_option maxRecDepth 100000
set_option maxHeartbeats 4000000
namespace Q11
open PySem PySem.Spec L2 PL
open PyProof.Rows hiding St
def top (i : Nat) : Stmt := PySem.Challenge.pw_joinwood_k11_tree_or_core.main.body.getD i (.Pass ⟨0, 0, 0, 0⟩)
abbrev sLetterStep : Stmt := top 1
abbrev sPatternStep : Stmt := top 2
abbrev sAnyStep : Stmt := top 3
abbrev sDoStep : Stmt := top 4
abbrev sTakenApart : Stmt := top 5
abbrev sParentsBy : Stmt := top 6
abbrev sApart : Stmt := top 7
abbrev sWhole : Stmt := top 9
abbrev sMixed : Stmt := top 10
abbrev sPicked : Stmt := top 11
abbrev sAlphabet : Stmt := top 12
abbrev sAny : Stmt := top 13
abbrev sRing : Stmt := top 14
abbrev sTree : Stmt := top 15
abbrev sShape : Stmt := top 16
abbrev sFilledUp : Stmt := top 17
abbrev sIsTree : Stmt := top 18
abbrev sHolders : Stmt := top 19
abbrev sWithin : Stmt := top 20
abbrev sStepped : Stmt := top 21
abbrev sStuck : Stmt := top 22
abbrev sRight : Stmt := top 23
abbrev sLaw : Stmt := top 24
def mixed (c k : Int) : Int := if c > 10 ^ 8 then (c / 1000 / (10 ^ 7) ^ k.toNat) % 10 ^ 7 else
  let o := (c % 2147483647 + 40503 * k * k + 17 * k) * 48271 % 2147483647
  o * (o % 65537 + 3 * k + 1) % 2147483629
def fMixed : PF := fun ds Q => ∃ c k : Int, ds = [.int c, .int k] ∧ 0 ≤ k ∧ k ≤ 1000 ∧ Q (.int (mixed c k)) .frz
theorem mono_Mixed : MonoF fMixed := fun ds Q Q' m ⟨c, j, e, h1, h2, q⟩ => ⟨c, j, e, h1, h2, m _ _ q⟩
local macro_rules | `(tactic| walk_at "pu") => `(tactic| simp only [pSeq, pSet, pRet, pRetN, pIf, pDrop, pNext, pBreak, pCont, pDropM, pSetM, mApp, mAppM, mPopAt, mExtT, pUnp, gNameP, gNilP, gConsP, gTupP, t2, i0, i2, pVar, pC, pCons, pNil, pTup, pLst, noOwn, isOwn, tBl, tAndP, tOrP, tNotP, tTru, tTrue, TruP, tNotE, tAndE, tOrE, tIfE, pEq, pIn, pIsN, pIx, pCat, PL.tB, fLen, LenP, fList, fTuple, fSortS, fIsi, tCallP, pSortSet, pJoin, pSlL, pRev, oNone, oSome, pComp, iRange1, iRange2, iLst, iTupl, pDG, pDI, tOrT, pChain, fMax2, fMin2, fMin3, fAll, fListS, fListD, pDictEnum, pSlS, pSetIx, pPutIx, mDPop, iDic, pCompD, pFor, pWhile, PL.plain, startP, retOut, blkP, List.map_cons, List.map_nil, List.length_cons, List.length_nil, List.cons_append, List.nil_append, List.replicate, List.getElem?_cons_zero, List.getElem?_cons_succ, List.getElem?_nil, Option.getD_some, Option.getD_none, List.set_cons_zero, List.set_cons_succ, List.cons.injEq,
  Option.some.injEq, Prod.mk.injEq, PV.int.injEq, PV.bl.injEq, PV.str.injEq, PV.lst.injEq, PV.tup.injEq, PV.ty.injEq, PV.dK.injEq, exists_eq_left', exists_eq_left, exists_eq', exists_eq, exists_and_left, exists_and_right, exists_eq_right, true_and, and_true, reduceCtorEq, false_and, and_false, false_or, or_false, exists_false, exists_const, Bool.false_eq_true, if_true, if_false, and_assoc, ite_true, ite_false, Bool.not_eq_true', decide_eq_true_eq, decide_eq_false_iff_not, Bool.not_false, Bool.not_true, true_or, or_true, not_true_eq_false, not_false_eq_true, Bool.and_eq_true, Nat.zero_add, Nat.sub_self, Nat.reduceAdd, Nat.reduceSub, implies_true, ne_eq, noMutR, noMut, noMutL, Bool.true_and, Bool.and_true, List.all_nil, fMixed])
local macro_rules | `(tactic| walk_at "go") => `(tactic| ((first | (with_reducible refine hold ?_) | (with_reducible refine holdT ?_)); walk_at "pu"))
local macro_rules | `(tactic| walk_at "side") => `(tactic| first | assumption | decide | omega | exact ⟨by decide, by decide⟩ | exact ⟨by decide, by decide, by decide⟩ | exact Or.inl ⟨by omega, by omega⟩ | exact Or.inr ⟨by omega, by omega⟩)
local macro_rules | `(tactic| walk_at "auto") => `(tactic| repeat (first | ((with_reducible refine hold ?_); walk_at "pu") | ((with_reducible refine holdT ?_); walk_at "pu") | ((with_reducible refine And.intro ?_ ?_); (· walk_at "side"))))
section
variable {P : Program} {w : World} {K : PySem.W.Frag} {mg : Str → Option Value} {base : Heap}
theorem scMixed : FnScope ["_law_cell", "_law_k", "_law_left", "_law_j", "_law_one"] ["_law_cell", "_law_k"] (defScope sMixed) := ⟨rfl, rfl, rfl, by decide +kernel, rfl, by decide +kernel, by decide +kernel⟩
theorem ok_Mixed {f : Addr} {fd : FuncData} (F : Fun K "_law_mixed" "_law_mixed" sMixed f fd) (B : Bl mg) : FnOk P w K mg base CX0 1 f fd ["_law_cell", "_law_k"] (spP K fMixed) := by
  refine fn_pure F scMixed (fun ds Q ⟨c, j, e, _⟩ => by rw [e]; rfl) (fun cdv A outer s H E hr => ?_)
  have hu : (A.deeper (envOfC "_law_mixed" (defScope sMixed) s.heap.objs.size f cdv)).units + 16 < cLine := by have q := hr.units; omega
  have nd := scMixed.nd
  refine ⟨_, (puss_cons (pus_if (put_gt (pu_var 0) (pu_pow pu_int pu_int)) (puss_cons (pus_set (i := 2) nd rfl (Or.inl rfl) (pu_div (pu_var 0) pu_int))
      (puss_cons (pus_for rfl PassesOwn.never (pui_range1 rfl B.range (pua_cons (pu_var 1) pua_nil)) (pug_name (i := 3) nd rfl (Or.inl rfl)) (puss_one (pus_set (i := 2) nd rfl (Or.inl rfl) (pu_div (pu_var 2) (pu_pow pu_int pu_int)))))
      (puss_one (pus_ret (pu_mod (pu_var 2) (pu_pow pu_int pu_int)))))) puss_nil)
      (puss_cons (pus_set (i := 4) nd rfl (Or.inl rfl) (pu_mod (pu_mul (pu_add (pu_add (pu_mod (pu_var 0) pu_int) (pu_mul (pu_mul pu_int (pu_var 1)) (pu_var 1))) (pu_mul pu_int (pu_var 1))) pu_int) pu_int))
      (puss_one (pus_ret (pu_mod (pu_mul (pu_var 4) (pu_add (pu_add (pu_mod (pu_var 4) pu_int) (pu_mul pu_int (pu_var 1))) pu_int)) pu_int))))), fun ds Q h => ?_⟩
  obtain ⟨c, k, rfl, h0, h1, q⟩ := h
  walk_at "pu"
  have p7 : (10 : Int) ^ Int.toNat 7 = 10000000 := by decide
  have p8 : (10 : Int) ^ Int.toNat 8 = 100000000 := by decide
  refine ⟨⟨by decide, by decide, by decide⟩, ite2 (fun e1 => ?a) (fun e1 => ?b)⟩
  case a =>
    walk_at "auto"
    obtain ⟨Iv, hIv⟩ : ∃ Iv : Nat → PEnv → Prop, ∀ i ρ, Iv i ρ ↔ ∃ kv : Option (PV × Bool), ρ = [some (PV.int c, false), some (PV.int k, false), some (PV.int (c / 1000 / (10 ^ 7) ^ i), false), kv, none] := ⟨_, fun _ _ => Iff.rfl⟩
    refine ⟨Iv, (hIv _ _).mpr ⟨none, by simp⟩, ?_, ?_⟩
    · intro i d ρ hd hI
      obtain ⟨kv, rfl⟩ := (hIv _ _).mp hI
      obtain ⟨hi, rfl⟩ := rngP_get hd
      walk_at "go"
      walk_at "auto"
      refine (hIv _ _).mpr ⟨some (PV.int (0 + (i : Int)), false), ?_⟩
      have e3 : c / 1000 / (10 ^ 7) ^ i / 10 ^ Int.toNat 7 = c / 1000 / (10 ^ 7) ^ (i + 1) := by
        rw [p7, show ((10 : Int) ^ 7) = 10000000 from by decide, Int.pow_succ, Int.ediv_ediv_of_nonneg (Int.pow_nonneg (by decide))]
      rw [e3]
    · intro ρ hI
      obtain ⟨kv, rfl⟩ := (hIv _ _).mp hI
      rw [rngP_len]
      walk_at "auto"
      unfold mixed at q
      rw [if_pos (by omega)] at q
      exact q
  case b =>
    walk_at "auto"
    unfold mixed at q
    rw [if_neg (by omega)] at q
    exact q
end
end Q11
set_option Elab.async false
set_option linter.all false
set_option maxRecDepth 100000
set_option maxHeartbeats 4000000
namespace Q11
open PySem PySem.Spec L2 PL
open PyProof.Rows hiding St
def fPicked : PF := fun ds Q => ∃ (c many : Int) (es : List PV) (x : PV), ds = [.int c, x, .int many] ∧ (x = .lst es ∨ x = .tup es) ∧ es.length ≤ 100 ∧
  ∀ told left : List PV, (told ++ left).Perm es → told.length = min many.toNat es.length → Q (.lst told) .new
theorem mono_Picked : MonoF fPicked := fun ds Q Q' m ⟨c, n, es, x, e, h1, h2, q⟩ => ⟨c, n, es, x, e, h1, h2, fun t l a b => m _ _ (q t l a b)⟩
local macro_rules | `(tactic| walk_at "pu") => `(tactic| simp only [pSeq, pSet, pRet, pRetN, pIf, pDrop, pNext, pBreak, pCont, pDropM, pSetM, mApp, mAppM, mPopAt, mExtT, pUnp, gNameP, gNilP, gConsP, gTupP, t2, i0, i2, pVar, pC, pCons, pNil, pTup, pLst, noOwn, isOwn, tBl, tAndP, tOrP, tNotP, tTru, tTrue, TruP, tNotE, tAndE, tOrE, tIfE, pEq, pIn, pIsN, pIx, pCat, PL.tB, fLen, LenP, fList, fTuple, fSortS, fIsi, tCallP, pSortSet, pJoin, pSlL, pRev, oNone, oSome, pComp, iRange1, iRange2, iLst, iTupl, pDG, pDI, tOrT, pChain, fMax2, fMin2, fMin3, fAll, fListS, fListD, pDictEnum, pSlS, pSetIx, pPutIx, mDPop, iDic, pCompD, pFor, pWhile, PL.plain, startP, retOut, blkP, List.map_cons, List.map_nil, List.length_cons, List.length_nil, List.cons_append, List.nil_append, List.replicate, List.getElem?_cons_zero, List.getElem?_cons_succ, List.getElem?_nil, Option.getD_some, Option.getD_none, List.set_cons_zero, List.set_cons_succ, List.cons.injEq,
  Option.some.injEq, Prod.mk.injEq, PV.int.injEq, PV.bl.injEq, PV.str.injEq, PV.lst.injEq, PV.tup.injEq, PV.ty.injEq, PV.dK.injEq, exists_eq_left', exists_eq_left, exists_eq', exists_eq, exists_and_left, exists_and_right, exists_eq_right, true_and, and_true, reduceCtorEq, false_and, and_false, false_or, or_false, exists_false, exists_const, Bool.false_eq_true, if_true, if_false, and_assoc, ite_true, ite_false, Bool.not_eq_true', decide_eq_true_eq, decide_eq_false_iff_not, Bool.not_false, Bool.not_true, true_or, or_true, not_true_eq_false, not_false_eq_true, Bool.and_eq_true, Nat.zero_add, Nat.sub_self, Nat.reduceAdd, Nat.reduceSub, implies_true, ne_eq, noMutR, noMut, noMutL, Bool.true_and, Bool.and_true, List.all_nil, fMixed])
local macro_rules | `(tactic| walk_at "go") => `(tactic| ((first | (with_reducible refine hold ?_) | (with_reducible refine holdT ?_)); walk_at "pu"))
local macro_rules | `(tactic| walk_at "side") => `(tactic| first | assumption | decide | omega | exact ⟨by decide, by decide⟩ | exact ⟨by decide, by decide, by decide⟩ | exact Or.inl ⟨by omega, by omega⟩ | exact Or.inr ⟨by omega, by omega⟩)
local macro_rules | `(tactic| walk_at "auto") => `(tactic| repeat (first | ((with_reducible refine hold ?_); walk_at "pu") | ((with_reducible refine holdT ?_); walk_at "pu") | ((with_reducible refine And.intro ?_ ?_); (· walk_at "side"))))
theorem atI_get {l : List PV} {i : Int} (h0 : 0 ≤ i) (h1 : i < l.length) : ∃ x, atI l i = some x ∧ l[i.toNat]? = some x := by
  obtain ⟨n, rfl⟩ : ∃ n : Nat, i = n := ⟨i.toNat, by omega⟩
  have hn : n < l.length := by omega
  exact ⟨l[n], atI_nat (by simp [hn]), by simp [hn]⟩
theorem cut_to (l : List PV) {i : Int} (h0 : 0 ≤ i) (h1 : i ≤ l.length) : cutP l none (some i) = l.take i.toNat := by
  obtain ⟨n, rfl⟩ : ∃ n : Nat, i = n := ⟨i.toNat, by omega⟩
  unfold cutP
  rw [HT.sIx_nat, HT.sIx_none, Nat.min_eq_left (by omega)]
  simp
theorem cut_from (l : List PV) {i : Int} (h0 : 0 ≤ i) (h1 : i ≤ l.length) : cutP l (some i) none = l.drop i.toNat := by
  obtain ⟨n, rfl⟩ : ∃ n : Nat, i = n := ⟨i.toNat, by omega⟩
  unfold cutP
  rw [HT.sIx_nat, HT.sIx_none, Nat.min_eq_left (by omega), List.take_of_length_le (by simp)]
  simp
section
variable {P : Program} {w : World} {K : PySem.W.Frag} {mg : Str → Option Value} {base : Heap}
theorem scPicked : FnScope ["_law_cell", "_law_some", "_law_many", "_law_left", "_law_told", "_law_at"] ["_law_cell", "_law_some", "_law_many"] (defScope sPicked) := ⟨rfl, rfl, rfl, by decide +kernel, rfl, by decide +kernel, by decide +kernel⟩
theorem ok_Picked {f fM : Addr} {fd fdM : FuncData} (F : Fun K "_law_picked" "_law_picked" sPicked f fd) (Mixed : Fx K mg "_law_mixed" sMixed ["_law_cell", "_law_k"] fM fdM) (B : Bl mg) : FnOk P w K mg base CX0 2 f fd ["_law_cell", "_law_some", "_law_many"] (spP K fPicked) := by
  have GMixed : FnOk P w K mg base CX0 1 fM fdM ["_law_cell", "_law_k"] (spP K fMixed) := ok_Mixed Mixed.fn B
  refine fn_pure F scPicked (fun ds Q ⟨c, n, es, x, e, _⟩ => by rw [e]; rfl) (fun cdv A outer s H E hr => ?_)
  have hu : (A.deeper (envOfC "_law_picked" (defScope sPicked) s.heap.objs.size f cdv)).units + 16 < cLine := by have q := hr.units; omega
  have nd := scPicked.nd
  refine ⟨_, (puss_cons (pus_set (i := 3) nd rfl (Or.inl rfl) (pu_list rfl B.list (pua_cons (pu_var 1) pua_nil)))
      (puss_cons (pus_set (i := 4) nd rfl (Or.inl rfl) (pu_lst pua_nil))
      (puss_cons (pus_while PassesOwn.never (PuW.t (puw_and (put_lt (pu_len rfl B.len (pua_cons (pu_var 4) pua_nil)) (pu_var 2)) (puw_and1 (put_gt (pu_len rfl B.len (pua_cons (pu_var 3) pua_nil)) pu_int)))) (puss_cons (pus_set (i := 5) nd rfl (Or.inl rfl) (pu_mod (pu_call GMixed mono_Mixed hr rfl Mixed.mg Mixed.fn.kp Mixed.bd (pua_cons (pu_var 0) (pua_cons (pu_add pu_int (pu_len rfl B.len (pua_cons (pu_var 4) pua_nil))) pua_nil))) (pu_len rfl B.len (pua_cons (pu_var 3) pua_nil))))
      (puss_cons (pus_exprM (pum_append 4 (pu_item (pu_var 3) (pu_var 5))))
      (puss_one (pus_set (i := 3) nd rfl (Or.inl rfl) (pu_cat (pu_slice (pu_var 3) puo_none (puo_some (pu_var 5))) (pu_slice (pu_var 3) (puo_some (pu_add (pu_var 5) pu_int)) puo_none)))))))
      (puss_one (pus_ret (pu_var 4)))))), fun ds Q h => ?_⟩
  obtain ⟨c, many, es, x, rfl, hx, hz, q⟩ := h
  walk_at "pu"
  refine ⟨es, hx, ?_⟩
  walk_at "auto"
  obtain ⟨Iv, hIv⟩ : ∃ Iv : Nat → PEnv → Prop, ∀ m ρ, Iv m ρ ↔ ∃ (told left : List PV) (kv : Option (PV × Bool)), ρ = [some (PV.int c, false), some (x, false), some (PV.int many, false), some (PV.lst left, true), some (PV.lst told, true), kv] ∧
      (told ++ left).Perm es ∧ told.length ≤ many.toNat ∧ m = left.length := ⟨_, fun _ _ => Iff.rfl⟩
  refine ⟨Iv, ⟨_, (hIv _ _).mpr ⟨[], es, none, rfl, by simp, Nat.zero_le _, rfl⟩⟩, ?_⟩
  intro m ρ hI
  obtain ⟨told, left, kv, rfl, hp, hm, rfl⟩ := (hIv _ _).mp hI
  have hlen := hp.length_eq
  rw [List.length_append] at hlen
  walk_at "go"
  have fin : (told.length = min many.toNat es.length) → Hold (pRet (pVar 4)) { nx := fun x => Q PV.non Kd.frz, rt := Q, bk := fun x => False, ct := fun x => False }
        [some (PV.int c, false), some (x, false), some (PV.int many, false), some (PV.lst left, true), some (PV.lst told, true), kv] := fun hl => by
    walk_at "go"
    exact q told left hp hl
  refine ite2 (fun e1 => ite2 (fun e2 => ?_) (fun e2 => fin (by omega))) (fun e1 => fin (by omega))
  have hl0 : 0 < left.length := by omega
  have n1 := Int.emod_nonneg (mixed c (3 + (told.length : Int))) (show (left.length : Int) ≠ 0 by omega)
  have n2 := Int.emod_lt_of_pos (mixed c (3 + (told.length : Int))) (show (0 : Int) < left.length by omega)
  obtain ⟨y, hy, hy2⟩ := atI_get n1 n2
  walk_at "go"
  walk_at "auto"
  generalize hat : mixed c (3 + (told.length : Int)) % (left.length : Int) = at_ at *
  refine ⟨by rw [sizeLine_eq]; omega, y, hy, ?_⟩
  walk_at "go"
  rw [cut_to left n1 (by omega), cut_from left (i := at_ + 1) (by omega) (by omega)]
  have hn : at_.toNat < left.length := by omega
  have e3 : (at_ + 1).toNat = at_.toNat + 1 := by omega
  rw [e3]
  have hsp : left = left.take at_.toNat ++ y :: left.drop (at_.toNat + 1) := by
    rw [List.getElem?_eq_getElem hn] at hy2
    cases hy2
    rw [List.getElem_cons_drop, List.take_append_drop]
  refine ⟨by rw [List.length_take, List.length_drop, sizeLine_eq]; omega, left.length - 1, by omega, (hIv _ _).mpr ⟨told ++ [y], _, _, rfl, ?_, by rw [List.length_append, List.length_singleton]; omega, by rw [List.length_append, List.length_take, List.length_drop]; omega⟩⟩
  refine List.Perm.trans ?_ hp
  conv => rhs; rw [hsp]
  rw [List.append_assoc]
  refine List.Perm.append_left _ ?_
  exact (List.perm_middle (a := y) (l₁ := left.take at_.toNat) (l₂ := left.drop (at_.toNat + 1))).symm
end
end Q11
set_option Elab.async false
set_option linter.all false
set_option maxRecDepth 100000
set_option maxHeartbeats 4000000
namespace Q11
open PySem PySem.Spec L2 PL
open PyProof.Rows hiding St
abbrev ABC : Str := "ABCDEFGHIJKLMNOPQRSTUVWXYZ"
def sixOf (n : Nat) : List Str := (List.range 6).map fun i => ⟨#[65 + n + i]⟩
theorem abc_six : ∀ n : Nat, n < 21 → signs (Txt.slice ABC (some (n : Int)) (some ((n : Int) + 6))) = sixOf n := by decide +kernel
theorem abc_sl : ∀ n : Nat, n < 21 → (Txt.slice ABC (some (n : Int)) (some ((n : Int) + 6))).length = 6 := by decide +kernel
theorem six_nd : ∀ n : Nat, n < 21 → (sixOf n).Nodup := by decide +kernel
theorem six_len (n : Nat) : (sixOf n).length = 6 := by simp [sixOf]
def alphaN (c : Int) : Nat := (mixed c 1 % 21).toNat
def fAlphabet : PF := fun ds Q => ∃ c : Int, ds = [.int c] ∧ Q (.lst ((sixOf (alphaN c)).map PV.str)) .new
theorem mono_Alphabet : MonoF fAlphabet := fun ds Q Q' m ⟨c, e, q⟩ => ⟨c, e, m _ _ q⟩
def ld (ls : List Str) : PV := .tup (ls.map PV.str)
def Pats (L : List Str) (n : Nat) (sh : List (List Str)) : Prop := sh.length = n ∧ ∀ p ∈ sh, p.length ≤ 4 ∧ ∀ x ∈ p, x ∈ L
theorem Pats.snoc {L : List Str} {n : Nat} {sh : List (List Str)} {p : List Str} (h : Pats L n sh) (h1 : p.length ≤ 4) (h2 : ∀ x ∈ p, x ∈ L) : Pats L (n + 1) (sh ++ [p]) :=
  ⟨by rw [List.length_append, h.1]; rfl, fun q hq => by
    rcases List.mem_append.mp hq with hq | hq
    · exact h.2 q hq
    · rw [List.mem_singleton] at hq; subst hq; exact ⟨h1, h2⟩⟩
def fAny : PF := fun ds Q => ∃ (cs : List Int) (L : List Str), ds = [.lst (cs.map PV.int), .lst (L.map PV.str)] ∧ cs.length ≤ 6 ∧ L.length = 6 ∧ ∀ sh, Pats L cs.length sh → Q (.lst (sh.map ld)) .new
theorem mono_Any : MonoF fAny := fun ds Q Q' m ⟨cs, L, e, h1, h2, q⟩ => ⟨cs, L, e, h1, h2, fun sh a => m _ _ (q sh a)⟩
theorem strs_of : ∀ {L : List Str} {told : List PV}, (∀ d ∈ told, d ∈ L.map PV.str) → ∃ ts : List Str, told = ts.map PV.str ∧ ∀ x ∈ ts, x ∈ L
  | L, [], _ => ⟨[], rfl, fun x h => by cases h⟩
  | L, d :: told, h => by
    obtain ⟨ts, e, h2⟩ := strs_of (L := L) (told := told) fun d hd => h d (List.mem_cons_of_mem _ hd)
    obtain ⟨x, hx, rfl⟩ := List.mem_map.mp (h d (List.mem_cons_self ..))
    exact ⟨x :: ts, by rw [e]; rfl, fun y hy => by rcases List.mem_cons.mp hy with rfl | hy; exact hx; exact h2 y hy⟩
theorem pick_of {L : List Str} {told left : List PV} (h : (told ++ left).Perm (L.map PV.str)) : ∃ ts : List Str, told = ts.map PV.str ∧ ∀ x ∈ ts, x ∈ L :=
  strs_of fun d hd => h.mem_iff.mp (List.mem_append_left _ hd)
local macro_rules | `(tactic| walk_at "pu") => `(tactic| simp only [pSeq, pSet, pRet, pRetN, pIf, pDrop, pNext, pBreak, pCont, pDropM, pSetM, mApp, mAppM, mPopAt, mExtT, pUnp, gNameP, gNilP, gConsP, gTupP, t2, i0, i2, pVar, pC, pCons, pNil, pTup, pLst, noOwn, isOwn, tBl, tAndP, tOrP, tNotP, tTru, tTrue, TruP, tNotE, tAndE, tOrE, tIfE, pEq, pIn, pIsN, pIx, pCat, PL.tB, fLen, LenP, fList, fTuple, fSortS, fIsi, tCallP, pSortSet, pJoin, pSlL, pRev, oNone, oSome, pComp, iRange1, iRange2, iLst, iTupl, pDG, pDI, tOrT, pChain, fMax2, fMin2, fMin3, fAll, fListS, fListD, pDictEnum, pSlS, pSetIx, pPutIx, mDPop, iDic, pCompD, pFor, pWhile, PL.plain, startP, retOut, blkP, List.map_cons, List.map_nil, List.length_cons, List.length_nil, List.cons_append, List.nil_append, List.replicate, List.getElem?_cons_zero, List.getElem?_cons_succ, List.getElem?_nil, Option.getD_some, Option.getD_none, List.set_cons_zero, List.set_cons_succ, List.cons.injEq,
  Option.some.injEq, Prod.mk.injEq, PV.int.injEq, PV.bl.injEq, PV.str.injEq, PV.lst.injEq, PV.tup.injEq, PV.ty.injEq, PV.dK.injEq, exists_eq_left', exists_eq_left, exists_eq', exists_eq, exists_and_left, exists_and_right, exists_eq_right, true_and, and_true, reduceCtorEq, false_and, and_false, false_or, or_false, exists_false, exists_const, Bool.false_eq_true, if_true, if_false, and_assoc, ite_true, ite_false, Bool.not_eq_true', decide_eq_true_eq, decide_eq_false_iff_not, Bool.not_false, Bool.not_true, true_or, or_true, not_true_eq_false, not_false_eq_true, Bool.and_eq_true, Nat.zero_add, Nat.sub_self, Nat.reduceAdd, Nat.reduceSub, implies_true, ne_eq, noMutR, noMut, noMutL, Bool.true_and, Bool.and_true, List.all_nil, fMixed, fPicked, fAlphabet])
local macro_rules | `(tactic| walk_at "go") => `(tactic| ((first | (with_reducible refine hold ?_) | (with_reducible refine holdT ?_)); walk_at "pu"))
local macro_rules | `(tactic| walk_at "side") => `(tactic| first | assumption | decide | omega | exact ⟨by decide, by decide⟩ | exact ⟨by decide, by decide, by decide⟩ | exact Or.inl ⟨by omega, by omega⟩ | exact Or.inr ⟨by omega, by omega⟩)
local macro_rules | `(tactic| walk_at "auto") => `(tactic| repeat (first | ((with_reducible refine hold ?_); walk_at "pu") | ((with_reducible refine holdT ?_); walk_at "pu") | ((with_reducible refine And.intro ?_ ?_); (· walk_at "side"))))
section
variable {P : Program} {w : World} {K : PySem.W.Frag} {mg : Str → Option Value} {base : Heap}
theorem scAlphabet : FnScope ["_law_cell", "_law_first"] ["_law_cell"] (defScope sAlphabet) := ⟨rfl, rfl, rfl, by decide +kernel, rfl, by decide +kernel, by decide +kernel⟩
theorem ok_Alphabet {f fM : Addr} {fd fdM : FuncData} (F : Fun K "_law_alphabet" "_law_alphabet" sAlphabet f fd) (Mixed : Fx K mg "_law_mixed" sMixed ["_law_cell", "_law_k"] fM fdM) (B : Bl mg) : FnOk P w K mg base CX0 2 f fd ["_law_cell"] (spP K fAlphabet) := by
  have GMixed : FnOk P w K mg base CX0 1 fM fdM ["_law_cell", "_law_k"] (spP K fMixed) := ok_Mixed Mixed.fn B
  refine fn_pure F scAlphabet (fun ds Q ⟨c, e, _⟩ => by rw [e]; rfl) (fun cdv A outer s H E hr => ?_)
  have hu : (A.deeper (envOfC "_law_alphabet" (defScope sAlphabet) s.heap.objs.size f cdv)).units + 16 < cLine := by have q := hr.units; omega
  have nd := scAlphabet.nd
  refine ⟨_, (puss_cons (pus_set (i := 1) nd rfl (Or.inl rfl) (pu_mod (pu_call GMixed mono_Mixed hr rfl Mixed.mg Mixed.fn.kp Mixed.bd (pua_cons (pu_var 0) (pua_cons pu_int pua_nil))) pu_int))
      (puss_one (pus_ret (pu_listS rfl rfl B.list (pua_cons (pu_sliceS pu_str (puo_some (pu_var 1)) (puo_some (pu_add (pu_var 1) pu_int))) pua_nil))))), fun ds Q h => ?_⟩
  obtain ⟨c, rfl, q⟩ := h
  have n1 := Int.emod_nonneg (mixed c 1) (show (21 : Int) ≠ 0 by decide)
  have n2 := Int.emod_lt_of_pos (mixed c 1) (show (0 : Int) < 21 by decide)
  have e1 : mixed c 1 % 21 = (alphaN c : Int) := by unfold alphaN; omega
  have h21 : alphaN c < 21 := by omega
  walk_at "pu"
  walk_at "auto"
  rw [e1]
  refine ⟨by rw [abc_sl _ h21, sizeLine_eq]; omega, ?_⟩
  rw [abc_six _ h21]
  exact q
theorem scAny : FnScope ["_law_cells", "_law_letters"] ["_law_cells", "_law_letters"] (defScope sAny) := ⟨rfl, rfl, rfl, by decide +kernel, rfl, by decide +kernel, by decide +kernel⟩
theorem ok_Any {f fM fP : Addr} {fd fdM fdP : FuncData} (F : Fun K "_law_any" "_law_any" sAny f fd) (Mixed : Fx K mg "_law_mixed" sMixed ["_law_cell", "_law_k"] fM fdM) (Picked : Fx K mg "_law_picked" sPicked ["_law_cell", "_law_some", "_law_many"] fP fdP) (B : Bl mg) : FnOk P w K mg base CX0 3 f fd ["_law_cells", "_law_letters"] (spP K fAny) := by
  have GMixed : FnOk P w K mg base CX0 2 fM fdM ["_law_cell", "_law_k"] (spP K fMixed) := (ok_Mixed Mixed.fn B).mono (by decide)
  have GPicked : FnOk P w K mg base CX0 2 fP fdP ["_law_cell", "_law_some", "_law_many"] (spP K fPicked) := ok_Picked Picked.fn Mixed B
  refine fn_pure F scAny (fun ds Q ⟨c, L, e, _⟩ => by rw [e]; rfl) (fun cdv A outer s H E hr => ?_)
  have hu : (A.deeper (envOfC "_law_any" (defScope sAny) s.heap.objs.size f cdv)).units + 16 < cLine := by have q := hr.units; omega
  have nd := scAny.nd
  refine ⟨_, (puss_one (pus_ret (pu_comp (N := ["_law_cell", "_law_letters"]) (k := 1) (js := [1]) rfl (cp_of (sup := defScope sAny) (XN := ["_law_cells", "_law_letters"]) rfl rfl (by decide +kernel)) (by decide) (loc_name (by decide)) (pui_list (pu_var 0)) ⟨fun _ _ _ _ _ => (pug_name (i := 0) (by show (["_law_cell", "_law_letters"] : List Str).Nodup; decide +kernel) rfl (Or.inl rfl)), fun _ _ _ _ _ => puts_nil, fun _ _ _ _ _ => (pu_tuple rfl B.tuple (pua_cons (pu_call GPicked mono_Picked hr rfl Picked.mg Picked.fn.kp Picked.bd (pua_cons (pu_var 0) (pua_cons (pu_var 1) (pua_cons (pu_add pu_int (pu_mod (pu_call GMixed mono_Mixed hr rfl Mixed.mg Mixed.fn.kp Mixed.bd (pua_cons (pu_var 0) (pua_cons pu_int pua_nil))) pu_int)) pua_nil)))) pua_nil))⟩))), fun ds Q h => ?_⟩
  obtain ⟨cs, L, rfl, h6, hL, q⟩ := h
  walk_at "pu"
  refine ⟨by rw [List.length_map, sizeLine_eq]; omega, fun i out => ∃ sh, out = sh.map ld ∧ Pats L i sh, ⟨[], rfl, rfl, fun p hp => by cases hp⟩, ?_, ?_⟩
  · rintro i d out hd - ⟨sh, rfl, hs⟩
    rw [List.getElem?_map] at hd
    cases hp : cs[i]? with
    | none => rw [hp] at hd; cases hd
    | some c =>
      rw [hp] at hd; cases hd
      walk_at "pu"
      refine ⟨by decide, by decide, by decide, by rw [List.length_map]; omega, fun told left hp hl => ?_⟩
      obtain ⟨ts, rfl, hts⟩ := pick_of hp
      have n2 := Int.emod_lt_of_pos (mixed c 2) (show (0 : Int) < 4 by decide)
      rw [List.length_map] at hl
      exact ⟨sh ++ [ts], by rw [List.map_append]; rfl, hs.snoc (by omega) hts⟩
  · rintro out - ⟨sh, rfl, hs⟩
    rw [List.length_map] at hs
    exact q sh hs
end
end Q11
set_option Elab.async false
set_option linter.all false
set_option maxRecDepth 100000
set_option maxHeartbeats 4000000
namespace Q11
open PySem PySem.Spec L2 PL
open PyProof.Rows hiding St
def fRing : PF := fun ds Q => ∃ (cs : List Int) (L : List Str), ds = [.lst (cs.map PV.int), .lst (L.map PV.str)] ∧ cs.length ≤ 6 ∧ L.length = 6 ∧ ∀ sh, Pats L cs.length sh → Q (.lst (sh.map ld)) .new
theorem mono_Ring : MonoF fRing := fun ds Q Q' m ⟨cs, L, e, h1, h2, q⟩ => ⟨cs, L, e, h1, h2, fun sh a => m _ _ (q sh a)⟩
def fFilledUp : PF := fun ds Q => ∃ (cs : List Int) (a many : Int), ds = [.lst (cs.map PV.int), .int a, .int many] ∧ 0 ≤ a ∧ a ≤ 1000 ∧ 0 ≤ many ∧ many ≤ 100 ∧ ∀ zs : List Int, zs.length = many.toNat → Q (.lst (zs.map PV.int)) .new
theorem mono_FilledUp : MonoF fFilledUp := fun ds Q Q' m ⟨cs, a, n, e, h1, h2, h3, h4, q⟩ => ⟨cs, a, n, e, h1, h2, h3, h4, fun zs h => m _ _ (q zs h)⟩
local macro_rules | `(tactic| walk_at "pu") => `(tactic| simp only [pSeq, pSet, pRet, pRetN, pIf, pDrop, pNext, pBreak, pCont, pDropM, pSetM, mApp, mAppM, mPopAt, mExtT, pUnp, gNameP, gNilP, gConsP, gTupP, t2, i0, i2, pVar, pC, pCons, pNil, pTup, pLst, noOwn, isOwn, tBl, tAndP, tOrP, tNotP, tTru, tTrue, TruP, tNotE, tAndE, tOrE, tIfE, pEq, pIn, pIsN, pIx, pCat, PL.tB, fLen, LenP, fList, fTuple, fSortS, fIsi, tCallP, pSortSet, pJoin, pSlL, pRev, oNone, oSome, pComp, iRange1, iRange2, iLst, iTupl, pDG, pDI, tOrT, pChain, fMax2, fMin2, fMin3, fAll, fListS, fListD, pDictEnum, pSlS, pSetIx, pPutIx, mDPop, iDic, pCompD, pFor, pWhile, PL.plain, startP, retOut, blkP, List.map_cons, List.map_nil, List.length_cons, List.length_nil, List.cons_append, List.nil_append, List.replicate, List.getElem?_cons_zero, List.getElem?_cons_succ, List.getElem?_nil, Option.getD_some, Option.getD_none, List.set_cons_zero, List.set_cons_succ, List.cons.injEq,
  Option.some.injEq, Prod.mk.injEq, PV.int.injEq, PV.bl.injEq, PV.str.injEq, PV.lst.injEq, PV.tup.injEq, PV.ty.injEq, PV.dK.injEq, exists_eq_left', exists_eq_left, exists_eq', exists_eq, exists_and_left, exists_and_right, exists_eq_right, true_and, and_true, reduceCtorEq, false_and, and_false, false_or, or_false, exists_false, exists_const, Bool.false_eq_true, if_true, if_false, and_assoc, ite_true, ite_false, Bool.not_eq_true', decide_eq_true_eq, decide_eq_false_iff_not, Bool.not_false, Bool.not_true, true_or, or_true, not_true_eq_false, not_false_eq_true, Bool.and_eq_true, Nat.zero_add, Nat.sub_self, Nat.reduceAdd, Nat.reduceSub, implies_true, ne_eq, noMutR, noMut, noMutL, Bool.true_and, Bool.and_true, List.all_nil, fMixed, fPicked, fAlphabet])
local macro_rules | `(tactic| walk_at "go") => `(tactic| ((first | (with_reducible refine hold ?_) | (with_reducible refine holdT ?_)); walk_at "pu"))
local macro_rules | `(tactic| walk_at "side") => `(tactic| first | assumption | decide | omega | exact ⟨by decide, by decide⟩ | exact ⟨by decide, by decide, by decide⟩ | exact Or.inl ⟨by omega, by omega⟩ | exact Or.inr ⟨by omega, by omega⟩)
local macro_rules | `(tactic| walk_at "auto") => `(tactic| repeat (first | ((with_reducible refine hold ?_); walk_at "pu") | ((with_reducible refine holdT ?_); walk_at "pu") | ((with_reducible refine And.intro ?_ ?_); (· walk_at "side"))))
theorem lget {L : List Str} (h : L.length = 6) {i : Int} (h0 : 0 ≤ i) (h1 : i < 6) : ∃ x, atI (L.map PV.str) i = some (.str x) ∧ x ∈ L := by
  obtain ⟨n, rfl⟩ : ∃ n : Nat, i = n := ⟨i.toNat, by omega⟩
  have hn : n < L.length := by omega
  exact ⟨L[n], atI_nat (by simp [hn]), List.getElem_mem hn⟩
theorem cget {cs : List Int} {i : Nat} (h : i < cs.length) {j : Int} (hj : j = i) : atI (cs.map PV.int) j = some (.int cs[i]) := by
  subst hj; exact atI_nat (by simp [h])
section
variable {P : Program} {w : World} {K : PySem.W.Frag} {mg : Str → Option Value} {base : Heap}
theorem scRing : FnScope ["_law_cells", "_law_letters", "_law_many", "_law_told", "_law_k", "_law_pattern"] ["_law_cells", "_law_letters"] (defScope sRing) := ⟨rfl, rfl, rfl, by decide +kernel, rfl, by decide +kernel, by decide +kernel⟩
theorem ok_Ring {f fM fP : Addr} {fd fdM fdP : FuncData} (F : Fun K "_law_ring" "_law_ring" sRing f fd) (Mixed : Fx K mg "_law_mixed" sMixed ["_law_cell", "_law_k"] fM fdM) (Picked : Fx K mg "_law_picked" sPicked ["_law_cell", "_law_some", "_law_many"] fP fdP) (B : Bl mg) : FnOk P w K mg base CX0 3 f fd ["_law_cells", "_law_letters"] (spP K fRing) := by
  have GPicked : FnOk P w K mg base CX0 2 fP fdP ["_law_cell", "_law_some", "_law_many"] (spP K fPicked) := ok_Picked Picked.fn Mixed B
  refine fn_pure F scRing (fun ds Q ⟨c, L, e, _⟩ => by rw [e]; rfl) (fun cdv A outer s H E hr => ?_)
  have hu : (A.deeper (envOfC "_law_ring" (defScope sRing) s.heap.objs.size f cdv)).units + 16 < cLine := by have q := hr.units; omega
  have nd := scRing.nd
  refine ⟨_, (puss_cons (pus_set (i := 2) nd rfl (Or.inl rfl) (pu_max2 rfl rfl B.max (pua_cons pu_int (pua_cons (pu_len rfl B.len (pua_cons (pu_var 0) pua_nil)) pua_nil))))
      (puss_cons (pus_set (i := 3) nd rfl (Or.inl rfl) (pu_lst pua_nil))
      (puss_cons (pus_for rfl PassesOwn.never (pui_range1 rfl B.range (pua_cons (pu_len rfl B.len (pua_cons (pu_var 0) pua_nil)) pua_nil)) (pug_name (i := 4) nd rfl (Or.inl rfl)) (puss_cons (pus_set (i := 5) nd rfl (Or.inr rfl) (pu_lst (pua_cons (pu_item (pu_var 1) (pu_mod (pu_var 4) pu_int)) (pua_cons (pu_item (pu_var 1) (pu_mod (pu_mod (pu_add (pu_var 4) pu_int) (pu_var 2)) pu_int)) pua_nil))))
      (puss_cons (pus_if (put_eq hu (pu_mod (pu_item (pu_var 0) (pu_var 4)) pu_int) pu_int) (puss_one (pus_set (i := 5) nd rfl (Or.inr rfl) (pu_cat (pu_var 5) (pu_call GPicked mono_Picked hr rfl Picked.mg Picked.fn.kp Picked.bd (pua_cons (pu_item (pu_var 0) (pu_var 4)) (pua_cons (pu_comp (N := ["_law_letter", "_law_pattern"]) (k := 1) (js := [5]) rfl (cp_of (sup := defScope sRing) (XN := ["_law_cells", "_law_letters", "_law_many", "_law_told", "_law_k", "_law_pattern"]) rfl rfl (by decide +kernel)) (by decide) (loc_name (by decide)) (pui_list (pu_var 1)) ⟨fun _ _ _ _ _ => (pug_name (i := 0) (by show (["_law_letter", "_law_pattern"] : List Str).Nodup; decide +kernel) rfl (Or.inl rfl)), fun _ _ _ _ _ => (puts_one (put_notIn hu (pu_var 0) (pu_var 1))), fun _ _ _ _ _ => (pu_var 0)⟩) (pua_cons pu_int pua_nil))))))) puss_nil)
      (puss_one (pus_exprM (pum_append 3 (pu_tuple rfl B.tuple (pua_cons (pu_var 5) pua_nil))))))))
      (puss_one (pus_ret (pu_var 3)))))), fun ds Q h => ?_⟩
  obtain ⟨cs, L, rfl, h6, hL, q⟩ := h
  walk_at "pu"
  walk_at "auto"
  rw [List.length_map]
  generalize hmany : (if (cs.length : Int) > 2 then (cs.length : Int) else 2) = many
  have hm0 : 0 < many := by split at hmany <;> omega
  obtain ⟨Iv, hIv⟩ : ∃ Iv : Nat → PEnv → Prop, ∀ i ρ, Iv i ρ ↔ ∃ (sh : List (List Str)) (k1 k2 : Option (PV × Bool)), ρ = [some (PV.lst (cs.map PV.int), false), some (PV.lst (L.map PV.str), false), some (PV.int many, false), some (PV.lst (sh.map ld), true), k1, k2] ∧
      Pats L i sh := ⟨_, fun _ _ => Iff.rfl⟩
  refine ⟨by omega, Iv, (hIv _ _).mpr ⟨[], none, none, rfl, rfl, fun p hp => by cases hp⟩, ?_, ?_⟩
  · intro i d ρ hd hI
    obtain ⟨sh, k1, k2, rfl, hs⟩ := (hIv _ _).mp hI
    obtain ⟨hi, rfl⟩ := rngP_get hd
    have hi' : i < cs.length := by omega
    have m1 := Int.emod_nonneg (0 + (i : Int)) (show (6 : Int) ≠ 0 by decide)
    have m2 := Int.emod_lt_of_pos (0 + (i : Int)) (show (0 : Int) < 6 by decide)
    have m3 := Int.emod_nonneg ((0 + (i : Int) + 1) % many) (show (6 : Int) ≠ 0 by decide)
    have m4 := Int.emod_lt_of_pos ((0 + (i : Int) + 1) % many) (show (0 : Int) < 6 by decide)
    obtain ⟨x1, hx1, hm1⟩ := lget hL m1 m2
    obtain ⟨x2, hx2, hm2⟩ := lget hL m3 m4
    walk_at "go"
    refine ⟨by decide, _, hx1, hm0, by decide, _, hx2, by decide, ?_⟩
    walk_at "go"
    have hsl := hs.1
    have fin : ∀ ts : List Str, ts.length ≤ 4 → (∀ x ∈ ts, x ∈ L) → Hold (pDropM (mApp 3 (PL.tB fTuple (pCons (pVar 5) pNil)))) { nx := Iv (i + 1), rt := Q, bk := Hold (pRet (pVar 3)) { nx := fun x => Q PV.non Kd.frz, rt := Q, bk := fun x => False, ct := fun x => False }, ct := Iv (i + 1) }
        [some (PV.lst (List.map PV.int cs), false), some (PV.lst (List.map PV.str L), false), some (PV.int many, false), some (PV.lst (List.map ld sh), true), some (PV.int (0 + ↑i), false), some (PV.lst (ts.map PV.str), true)] := fun ts h1 h2 => by
      walk_at "go"
      refine ⟨by rw [List.length_map, sizeLine_eq]; omega, (hIv _ _).mpr ⟨sh ++ [ts], _, _, by rw [List.map_append]; rfl, hs.snoc h1 h2⟩⟩
    refine ⟨_, cget hi' (by omega), ?_⟩
    walk_at "pu"
    refine ⟨by decide, ite2 (fun e1 => ?_) (fun e1 => ?_)⟩
    · walk_at "go"
      refine ⟨_, cget hi' (by omega), by rw [List.length_map, sizeLine_eq]; omega, fun _ out => ∀ d ∈ out, d ∈ L.map PV.str, (fun d hd => by cases hd), ?_, ?_⟩
      · intro j d out hd _ ho
        have hdm := List.mem_of_getElem? hd
        obtain ⟨y, hy, rfl⟩ := List.mem_map.mp hdm
        refine ⟨rfl, rfl, ite2 (fun _ => ?_) (fun _ => ho)⟩
        intro d hd
        rcases List.mem_append.mp hd with hd | hd
        · exact ho d hd
        · rw [List.mem_singleton] at hd; subst hd; exact hdm
      · intro out hl ho
        rw [List.length_map] at hl
        refine ⟨⟨_, rfl⟩, by omega, fun told left hp ht => ?_⟩
        obtain ⟨ts, rfl, hts⟩ := strs_of (L := L) (told := told) fun d hd => ho d (hp.mem_iff.mp (List.mem_append_left _ hd))
        rw [List.length_map] at ht ⊢
        have ht1 : Int.toNat 1 = 1 := rfl
        refine ⟨by rw [sizeLine_eq]; omega, fin (x1 :: x2 :: ts) (by simp only [List.length_cons]; omega) fun x hx => ?_⟩
        rcases List.mem_cons.mp hx with rfl | hx
        · exact hm1
        rcases List.mem_cons.mp hx with rfl | hx
        · exact hm2
        exact hts x hx
    · walk_at "go"
      exact fin [x1, x2] (by simp) (fun x hx => by
        rcases List.mem_cons.mp hx with rfl | hx
        · exact hm1
        · rw [List.mem_singleton] at hx; subst hx; exact hm2)
  · intro ρ hI
    obtain ⟨sh, k1, k2, rfl, hs⟩ := (hIv _ _).mp hI
    rw [rngP_len] at hs
    walk_at "go"
    exact q sh (by simpa using hs)
theorem scFilledUp : FnScope ["_law_cells", "_law_at", "_law_many", "_law_told"] ["_law_cells", "_law_at", "_law_many"] (defScope sFilledUp) := ⟨rfl, rfl, rfl, by decide +kernel, rfl, by decide +kernel, by decide +kernel⟩
theorem ok_FilledUp {f : Addr} {fd : FuncData} (F : Fun K "_law_filled_up" "_law_filled_up" sFilledUp f fd) (B : Bl mg) : FnOk P w K mg base CX0 1 f fd ["_law_cells", "_law_at", "_law_many"] (spP K fFilledUp) := by
  refine fn_pure F scFilledUp (fun ds Q ⟨c, a, n, e, _⟩ => by rw [e]; rfl) (fun cdv A outer s H E hr => ?_)
  have hu : (A.deeper (envOfC "_law_filled_up" (defScope sFilledUp) s.heap.objs.size f cdv)).units + 16 < cLine := by have q := hr.units; omega
  have nd := scFilledUp.nd
  refine ⟨_, (puss_cons (pus_set (i := 3) nd rfl (Or.inl rfl) (pu_slice (pu_var 0) (puo_some (pu_var 1)) (puo_some (pu_add (pu_var 1) (pu_var 2)))))
      (puss_cons (pus_while PassesOwn.never (put_lt (pu_len rfl B.len (pua_cons (pu_var 3) pua_nil)) (pu_var 2)) (puss_one (pus_exprM (pum_append 3 (pu_add (pu_mul pu_int (pu_len rfl B.len (pua_cons (pu_var 3) pua_nil))) (pu_mul pu_int (pu_var 1)))))))
      (puss_one (pus_ret (pu_var 3))))), fun ds Q h => ?_⟩
  obtain ⟨cs, a, many, rfl, ha, ha2, hm, hm2, q⟩ := h
  walk_at "pu"
  walk_at "auto"
  obtain ⟨zs, hzs, hzl⟩ : ∃ zs : List Int, cutP (cs.map PV.int) (some a) (some (a + many)) = zs.map PV.int ∧ zs.length ≤ many.toNat := by
    obtain ⟨n, rfl⟩ : ∃ n : Nat, a = n := ⟨a.toNat, by omega⟩
    obtain ⟨m, rfl⟩ : ∃ m : Nat, many = m := ⟨many.toNat, by omega⟩
    refine ⟨(cs.drop (min n cs.length)).take (min (n + m) cs.length - min n cs.length), ?_, ?_⟩
    · unfold cutP
      rw [HT.sIx_nat, show ((n : Int) + (m : Int)) = ((n + m : Nat) : Int) by omega, HT.sIx_nat, List.length_map, List.map_take, List.map_drop]
    · rw [List.length_take, List.length_drop]; omega
  rw [hzs]
  obtain ⟨Iv, hIv⟩ : ∃ Iv : Nat → PEnv → Prop, ∀ m ρ, Iv m ρ ↔ ∃ zs : List Int, ρ = [some (PV.lst (cs.map PV.int), false), some (PV.int a, false), some (PV.int many, false), some (PV.lst (zs.map PV.int), true)] ∧ zs.length ≤ many.toNat ∧ m = many.toNat - zs.length := ⟨_, fun _ _ => Iff.rfl⟩
  refine ⟨Iv, ⟨_, (hIv _ _).mpr ⟨zs, rfl, hzl, rfl⟩⟩, ?_⟩
  intro m ρ hI
  obtain ⟨zs, rfl, hl, rfl⟩ := (hIv _ _).mp hI
  walk_at "go"
  refine ite2 (fun e1 => ?_) (fun e1 => ?_)
  · rw [List.length_map] at e1
    walk_at "go"
    rw [List.length_map]
    refine ⟨by rw [sizeLine_eq]; omega, .inl ⟨by decide, by decide⟩, .inl ⟨by decide, by decide⟩, _, ?_, (hIv _ _).mpr ⟨zs ++ [7 * (zs.length : Int) + 3 * a], by rw [List.map_append]; rfl, ?_, rfl⟩⟩
    all_goals (rw [List.length_append, List.length_singleton]; omega)
  · rw [List.length_map] at e1
    walk_at "go"
    exact q zs (by omega)
end
end Q11
set_option Elab.async false
set_option linter.all false
set_option maxRecDepth 100000
set_option maxHeartbeats 4000000
namespace Q11
open PySem PySem.Spec L2 PL
open PyProof.Rows hiding St
def optP : Option Nat → PV
  | none => .non
  | some j => .int j
structure TreeShape (L : List Str) (n : Nat) (sh : List (List Str)) (ps : List (Option Nat)) : Prop where
  pats : Pats L n sh
  plen : ps.length = n
  ne : ∀ p ∈ sh, p ≠ []
  nd : ∀ p ∈ sh, p.Nodup
  par : ∀ k j : Nat, ps[k]? = some (some j) → j < k
  root : ∀ k : Nat, ps[k]? = some none → k = 0
  conn : ∀ (k : Nat) (p : List Str) (x : Str), sh[k]? = some p → x ∈ p → (∃ (j : Nat) (q : List Str), ps[k]? = some (some j) ∧ sh[j]? = some q ∧ x ∈ q) ∨ ∀ (i : Nat) (q : List Str), i < k → sh[i]? = some q → x ∉ q
structure NewOk (L : List Str) (sh : List (List Str)) (new : List Str) : Prop where
  nd : new.Nodup
  sub : ∀ x ∈ new, x ∈ L
  dis : ∀ p ∈ sh, ∀ x ∈ new, x ∉ p
theorem nodup_str {l : List Str} : (l.map PV.str).Nodup ↔ l.Nodup := by
  unfold List.Nodup
  rw [List.pairwise_map]
  simp
theorem get_snoc {α : Type} {l : List α} {y z : α} {k : Nat} (h : (l ++ [y])[k]? = some z) : l[k]? = some z ∨ (k = l.length ∧ z = y) := by
  rcases Nat.lt_or_ge k l.length with hk | hk
  · rw [List.getElem?_append_left hk] at h; exact .inl h
  · rw [List.getElem?_append_right hk] at h
    rcases Nat.lt_or_ge (k - l.length) 1 with h1 | h1
    · have e : k - l.length = 0 := by omega
      rw [e] at h; cases h; exact .inr ⟨by omega, rfl⟩
    · rw [List.getElem?_eq_none (by simpa using h1)] at h; cases h
theorem get_left {α : Type} {l m : List α} {y : α} {k : Nat} (h : l[k]? = some y) : (l ++ m)[k]? = some y := by
  rw [List.getElem?_append_left (List.getElem?_eq_some_iff.mp h).1]; exact h
theorem TreeShape.snoc {L : List Str} {n m : Nat} {sh : List (List Str)} {ps : List (Option Nat)} {new ts : List Str} {par : Option Nat} (T : TreeShape L n sh ps) (N : NewOk L sh new) (h4 : (new.take m ++ ts).length ≤ 4) (hne : new.take m ++ ts ≠ [])
    (hts : ts.Nodup) (hp : (par = none ∧ n = 0 ∧ ts = []) ∨ ∃ j q, par = some j ∧ j < n ∧ sh[j]? = some q ∧ ∀ x ∈ ts, x ∈ q) : TreeShape L (n + 1) (sh ++ [new.take m ++ ts]) (ps ++ [par]) ∧ NewOk L (sh ++ [new.take m ++ ts]) (new.drop m) := by
  have hl : sh.length = n := T.pats.1
  have hin : ∀ x ∈ ts, ∃ p ∈ sh, x ∈ p := fun x hx => by
    rcases hp with ⟨_, _, e⟩ | ⟨j, q, _, _, hq, hs⟩
    · rw [e] at hx; cases hx
    · exact ⟨q, List.mem_of_getElem? hq, hs x hx⟩
  have hsub : ∀ x ∈ new.take m ++ ts, x ∈ L := fun x hx => by
    rcases List.mem_append.mp hx with hx | hx
    · exact N.sub x (List.mem_of_mem_take hx)
    · obtain ⟨p, hp, hxp⟩ := hin x hx
      exact (T.pats.2 p hp).2 x hxp
  refine ⟨⟨T.pats.snoc h4 hsub, by rw [List.length_append, T.plen]; rfl, ?_, ?_, ?_, ?_, ?_⟩, ?_⟩
  · intro p hp
    rcases List.mem_append.mp hp with hp | hp
    · exact T.ne p hp
    · rw [List.mem_singleton] at hp; subst hp; exact hne
  · intro p hp
    rcases List.mem_append.mp hp with hp | hp
    · exact T.nd p hp
    · rw [List.mem_singleton] at hp; subst hp
      rw [List.nodup_append]
      refine ⟨N.nd.sublist (List.take_sublist _ _), hts, fun a ha b hb e => ?_⟩
      subst e
      obtain ⟨p, hp, hxp⟩ := hin a hb
      exact N.dis p hp a (List.mem_of_mem_take ha) hxp
  · intro k j h
    rcases get_snoc h with h | ⟨h1, h2⟩
    · exact T.par k j h
    · rcases hp with ⟨e, _, _⟩ | ⟨j', q, e, hj, _, _⟩
      · rw [e] at h2; cases h2
      · rw [e] at h2; cases h2; rw [T.plen] at h1; omega
  · intro k h
    rcases get_snoc h with h | ⟨h1, h2⟩
    · exact T.root k h
    · rcases hp with ⟨e, hn, _⟩ | ⟨j', q, e, hj, _, _⟩
      · rw [T.plen] at h1; omega
      · rw [e] at h2; cases h2
  · intro k p x h hx
    rcases get_snoc h with h | ⟨h1, h2⟩
    · have hk : k < sh.length := (List.getElem?_eq_some_iff.mp h).1
      rcases T.conn k p x h hx with ⟨j, q, h1, h2, h3⟩ | hno
      · exact .inl ⟨j, q, get_left h1, get_left h2, h3⟩
      · refine .inr fun i q hi hq => ?_
        rw [List.getElem?_append_left (by omega)] at hq
        exact hno i q hi hq
    · subst h2
      rcases List.mem_append.mp hx with hx | hx
      · refine .inr fun i q hi hq => ?_
        rw [List.getElem?_append_left (by omega)] at hq
        exact N.dis q (List.mem_of_getElem? hq) x (List.mem_of_mem_take hx)
      · rcases hp with ⟨_, _, e⟩ | ⟨j, q, e, hj, hq, hs⟩
        · rw [e] at hx; cases hx
        · refine .inl ⟨j, q, ?_, get_left hq, hs x hx⟩
          rw [List.getElem?_append_right (by rw [T.plen, h1, hl]; exact Nat.le_refl _), h1, hl, T.plen, Nat.sub_self, e]
          rfl
  · refine ⟨N.nd.sublist (List.drop_sublist _ _), fun x hx => N.sub x (List.mem_of_mem_drop hx), fun p hp x hx hxp => ?_⟩
    rcases List.mem_append.mp hp with hp | hp
    · exact N.dis p hp x (List.mem_of_mem_drop hx) hxp
    · rw [List.mem_singleton] at hp; subst hp
      rcases List.mem_append.mp hxp with h | h
      · have hd := N.nd
        rw [← List.take_append_drop m new, List.nodup_append] at hd
        exact hd.2.2 x h x hx rfl
      · obtain ⟨p, hp, hxp⟩ := hin x h
        exact N.dis p hp x (List.mem_of_mem_drop hx) hxp
theorem TreeShape.nil (L : List Str) : TreeShape L 0 [] [] := ⟨⟨rfl, fun p hp => by cases hp⟩, rfl, fun p hp => (by cases hp), fun p hp => (by cases hp), fun k j h => (by simp at h), fun k h => (by simp at h), fun k p x h => (by simp at h)⟩
def fTree : PF := fun ds Q => ∃ (cs : List Int) (L : List Str), ds = [.lst (cs.map PV.int), .lst (L.map PV.str)] ∧ cs.length ≤ 6 ∧ L.length = 6 ∧ L.Nodup ∧ ∀ sh ps, TreeShape L cs.length sh ps → Q (.tup [.lst (sh.map ld), .lst (ps.map optP)]) .frz
theorem mono_Tree : MonoF fTree := fun ds Q Q' m ⟨cs, L, e, h1, h2, h3, q⟩ => ⟨cs, L, e, h1, h2, h3, fun sh ps a => m _ _ (q sh ps a)⟩
local macro_rules | `(tactic| walk_at "pu") => `(tactic| simp only [pSeq, pSet, pRet, pRetN, pIf, pDrop, pNext, pBreak, pCont, pDropM, pSetM, mApp, mAppM, mPopAt, mExtT, pUnp, gNameP, gNilP, gConsP, gTupP, t2, i0, i2, pVar, pC, pCons, pNil, pTup, pLst, noOwn, isOwn, tBl, tAndP, tOrP, tNotP, tTru, tTrue, TruP, tNotE, tAndE, tOrE, tIfE, pEq, pIn, pIsN, pIx, pCat, PL.tB, fLen, LenP, fList, fTuple, fSortS, fIsi, tCallP, pSortSet, pJoin, pSlL, pRev, oNone, oSome, pComp, iRange1, iRange2, iLst, iTupl, pDG, pDI, tOrT, pChain, fMax2, fMin2, fMin3, fAll, fListS, fListD, pDictEnum, pSlS, pSetIx, pPutIx, mDPop, iDic, pCompD, pFor, pWhile, PL.plain, startP, retOut, blkP, List.map_cons, List.map_nil, List.length_cons, List.length_nil, List.cons_append, List.nil_append, List.replicate, List.getElem?_cons_zero, List.getElem?_cons_succ, List.getElem?_nil, Option.getD_some, Option.getD_none, List.set_cons_zero, List.set_cons_succ, List.cons.injEq,
  Option.some.injEq, Prod.mk.injEq, PV.int.injEq, PV.bl.injEq, PV.str.injEq, PV.lst.injEq, PV.tup.injEq, PV.ty.injEq, PV.dK.injEq, exists_eq_left', exists_eq_left, exists_eq', exists_eq, exists_and_left, exists_and_right, exists_eq_right, true_and, and_true, reduceCtorEq, false_and, and_false, false_or, or_false, exists_false, exists_const, Bool.false_eq_true, if_true, if_false, and_assoc, ite_true, ite_false, Bool.not_eq_true', decide_eq_true_eq, decide_eq_false_iff_not, Bool.not_false, Bool.not_true, true_or, or_true, not_true_eq_false, not_false_eq_true, Bool.and_eq_true, Nat.zero_add, Nat.sub_self, Nat.reduceAdd, Nat.reduceSub, implies_true, ne_eq, noMutR, noMut, noMutL, Bool.true_and, Bool.and_true, List.all_nil, fMixed, fPicked, fAlphabet, pFrz, frzAt])
local macro_rules | `(tactic| walk_at "go") => `(tactic| ((first | (with_reducible refine hold ?_) | (with_reducible refine holdT ?_)); walk_at "pu"))
local macro_rules | `(tactic| walk_at "side") => `(tactic| first | assumption | decide | omega | exact ⟨by decide, by decide⟩ | exact ⟨by decide, by decide, by decide⟩ | exact Or.inl ⟨by omega, by omega⟩ | exact Or.inr ⟨by omega, by omega⟩)
local macro_rules | `(tactic| walk_at "auto") => `(tactic| repeat (first | ((with_reducible refine hold ?_); walk_at "pu") | ((with_reducible refine holdT ?_); walk_at "pu") | ((with_reducible refine And.intro ?_ ?_); (· walk_at "side"))))
section
variable {P : Program} {w : World} {K : PySem.W.Frag} {mg : Str → Option Value} {base : Heap}
abbrev tFin : TPS := pSeq (pSet 8 (PL.tB fMin3 (pCons (pVar 8) (pCons (pSub (pC (PV.int 4)) (PL.tB fLen (pCons (pVar 6) pNil))) (pCons (PL.tB fLen (pCons (pVar 4) pNil)) pNil)))))
                (pSeq (pDropM (mApp 2 (PL.tB fTuple (pCons (t2 pCat (pSlL (pVar 4) oNone (oSome (pVar 8))) (pVar 6)) pNil))))
                  (pSeq (pSet 4 (pSlL (pVar 4) (oSome (pVar 8)) oNone)) (pDropM (mApp 3 (pVar 7)))))
abbrev tRest : TPS := pSeq (pSet 8 (pMod (tCallP fMixed (pCons (t2 pIx (pVar 0) (pVar 5)) (pCons (pC (PV.int 22)) pNil))) (pC (PV.int 3))))
            (pSeq
              (pIf
                (tAndP (tBl (t2 (pEq false) (PL.tB fLen (pCons (pVar 6) pNil)) (pC (PV.int 0))))
                  (tOrP (tBl (t2 (pEq false) (pVar 8) (pC (PV.int 0))))
                    (tBl (t2 (pEq false) (PL.tB fLen (pCons (pVar 4) pNil)) (pC (PV.int 0))))))
                (pSeq (pSet 8 (pC (PV.int 1)))
                  (pIf (tBl (t2 (pEq false) (PL.tB fLen (pCons (pVar 4) pNil)) (pC (PV.int 0))))
                    (pSet 6 (pLst (pCons (t2 pIx (t2 pIx (pVar 2) (pVar 7)) (pC (PV.int 0))) pNil))) pNext))
                pNext) tFin)
theorem scTree : FnScope ["_law_cells", "_law_letters", "_law_shape_here", "_law_parents", "_law_new", "_law_k", "_law_pattern", "_law_parent", "_law_more"] ["_law_cells", "_law_letters"] (defScope sTree) := ⟨rfl, rfl, rfl, by decide +kernel, rfl, by decide +kernel, by decide +kernel⟩
theorem ok_Tree {f fM fP : Addr} {fd fdM fdP : FuncData} (F : Fun K "_law_tree" "_law_tree" sTree f fd) (Mixed : Fx K mg "_law_mixed" sMixed ["_law_cell", "_law_k"] fM fdM) (Picked : Fx K mg "_law_picked" sPicked ["_law_cell", "_law_some", "_law_many"] fP fdP) (B : Bl mg) : FnOk P w K mg base CX0 3 f fd ["_law_cells", "_law_letters"] (spP K fTree) := by
  have GMixed : FnOk P w K mg base CX0 2 fM fdM ["_law_cell", "_law_k"] (spP K fMixed) := (ok_Mixed Mixed.fn B).mono (by decide)
  have GPicked : FnOk P w K mg base CX0 2 fP fdP ["_law_cell", "_law_some", "_law_many"] (spP K fPicked) := ok_Picked Picked.fn Mixed B
  refine fn_pure F scTree (fun ds Q ⟨c, L, e, _⟩ => by rw [e]; rfl) (fun cdv A outer s H E hr => ?_)
  have hu : (A.deeper (envOfC "_law_tree" (defScope sTree) s.heap.objs.size f cdv)).units + 16 < cLine := by have q := hr.units; omega
  have nd := scTree.nd
  refine ⟨_, (puss_cons (pus_set (i := 2) nd rfl (Or.inl rfl) (pu_lst pua_nil))
      (puss_cons (pus_set (i := 3) nd rfl (Or.inl rfl) (pu_lst pua_nil))
      (puss_cons (pus_set (i := 4) nd rfl (Or.inl rfl) (pu_list rfl B.list (pua_cons (pu_var 1) pua_nil)))
      (puss_cons (pus_for rfl PassesOwn.never (pui_range1 rfl B.range (pua_cons (pu_len rfl B.len (pua_cons (pu_var 0) pua_nil)) pua_nil)) (pug_name (i := 5) nd rfl (Or.inl rfl)) (puss_cons (pus_set (i := 6) nd rfl (Or.inl rfl) (pu_lst pua_nil))
      (puss_cons (pus_set (i := 7) nd rfl (Or.inl rfl) pu_non)
      (puss_cons (pus_if (put_gt (pu_var 5) pu_int) (puss_cons (pus_set (i := 7) nd rfl (Or.inl rfl) (pu_mod (pu_call GMixed mono_Mixed hr rfl Mixed.mg Mixed.fn.kp Mixed.bd (pua_cons (pu_item (pu_var 0) (pu_var 5)) (pua_cons pu_int pua_nil))) (pu_var 5)))
      (puss_one (pus_set (i := 6) nd rfl (Or.inl rfl) (pu_call GPicked mono_Picked hr rfl Picked.mg Picked.fn.kp Picked.bd (pua_cons (pu_item (pu_var 0) (pu_var 5)) (pua_cons (pu_item (pu_var 2) (pu_var 7)) (pua_cons (pu_mod (pu_call GMixed mono_Mixed hr rfl Mixed.mg Mixed.fn.kp Mixed.bd (pua_cons (pu_item (pu_var 0) (pu_var 5)) (pua_cons pu_int pua_nil))) pu_int) pua_nil))))))) puss_nil)
      (puss_cons (pus_set (i := 8) nd rfl (Or.inl rfl) (pu_mod (pu_call GMixed mono_Mixed hr rfl Mixed.mg Mixed.fn.kp Mixed.bd (pua_cons (pu_item (pu_var 0) (pu_var 5)) (pua_cons pu_int pua_nil))) pu_int))
      (puss_cons (pus_if (PuW.t (puw_and (put_eq hu (pu_len rfl B.len (pua_cons (pu_var 6) pua_nil)) pu_int) (puw_and1 (PuW.t (puw_or (put_eq hu (pu_var 8) pu_int) (puw_or1 (put_eq hu (pu_len rfl B.len (pua_cons (pu_var 4) pua_nil)) pu_int))))))) (puss_cons (pus_set (i := 8) nd rfl (Or.inl rfl) pu_int)
      (puss_one (pus_if (put_eq hu (pu_len rfl B.len (pua_cons (pu_var 4) pua_nil)) pu_int) (puss_one (pus_set (i := 6) nd rfl (Or.inl rfl) (pu_lst (pua_cons (pu_item (pu_item (pu_var 2) (pu_var 7)) pu_int) pua_nil)))) puss_nil))) puss_nil)
      (puss_cons (pus_set (i := 8) nd rfl (Or.inl rfl) (pu_min3 rfl rfl B.min (pua_cons (pu_var 8) (pua_cons (pu_sub pu_int (pu_len rfl B.len (pua_cons (pu_var 6) pua_nil))) (pua_cons (pu_len rfl B.len (pua_cons (pu_var 4) pua_nil)) pua_nil)))))
      (puss_cons (pus_exprM (pum_append 2 (pu_tuple rfl B.tuple (pua_cons (pu_cat (pu_slice (pu_var 4) puo_none (puo_some (pu_var 8))) (pu_var 6)) pua_nil))))
      (puss_cons (pus_set (i := 4) nd rfl (Or.inl rfl) (pu_slice (pu_var 4) (puo_some (pu_var 8)) puo_none))
      (puss_one (pus_exprM (pum_append 3 (pu_var 7)))))))))))))
      (puss_one (pus_frz 3 (pus_frz 2 (pus_ret (pu_tup (pua_cons (pu_var 2) (pua_cons (pu_var 3) pua_nil))))))))))), fun ds Q h => ?_⟩
  obtain ⟨cs, L, rfl, h6, hL, hLn, q⟩ := h
  walk_at "pu"
  walk_at "auto"
  rw [List.length_map]
  obtain ⟨Iv, hIv⟩ : ∃ Iv : Nat → PEnv → Prop, ∀ i ρ, Iv i ρ ↔ ∃ (sh : List (List Str)) (ps : List (Option Nat)) (new : List Str) (k1 k2 k3 k4 : Option (PV × Bool)), ρ = [some (PV.lst (cs.map PV.int), false), some (PV.lst (L.map PV.str), false), some (PV.lst (sh.map ld), true), some (PV.lst (ps.map optP), true), some (PV.lst (new.map PV.str), true), k1, k2, k3, k4] ∧
      TreeShape L i sh ps ∧ NewOk L sh new ∧ (i = 0 → new = L) := ⟨_, fun _ _ => Iff.rfl⟩
  refine ⟨by omega, Iv, (hIv _ _).mpr ⟨[], [], L, none, none, none, none, rfl, .nil L, ⟨hLn, fun _ h => h, fun p hp => by cases hp⟩, fun _ => rfl⟩, ?_, ?_⟩
  · intro i d ρ hd hI
    obtain ⟨sh, ps, new, k1, k2, k3, k4, rfl, T, N, hN0⟩ := (hIv _ _).mp hI
    obtain ⟨hi, rfl⟩ := rngP_get hd
    have hi' : i < cs.length := by omega
    have hpl := T.plen
    have hsl := T.pats.1
    have fin : ∀ (ts : List Str) (par : Option Nat) (more : Int) (kv : Option (PV × Bool)), ts.Nodup → ts.length ≤ 2 → 0 ≤ more → more ≤ 3 → ((par = none ∧ i = 0 ∧ ts = []) ∨ ∃ j q, par = some j ∧ j < i ∧ sh[j]? = some q ∧ ∀ x ∈ ts, x ∈ q) → (ts = [] → 1 ≤ more ∧ new ≠ []) →
        Hold tFin { nx := Iv (i + 1), rt := Q, bk := Hold (pFrz 3 (pFrz 2 (pRet (pTup (pCons (pVar 2) (pCons (pVar 3) pNil)))))) { nx := fun x => Q PV.non Kd.frz, rt := Q, bk := fun x => False, ct := fun x => False }, ct := Iv (i + 1) }
        [some (PV.lst (List.map PV.int cs), false), some (PV.lst (List.map PV.str L), false), some (PV.lst (List.map ld sh), true), some (PV.lst (List.map optP ps), true), some (PV.lst (List.map PV.str new), true), some (PV.int (0 + ↑i), false), some (PV.lst (ts.map PV.str), true), some (optP par, false), some (PV.int more, false)] := by
      intro ts par more kv t1 t2 m0 m3 hp hemp
      walk_at "go"
      rw [List.length_map, List.length_map]
      obtain ⟨m, hm⟩ : ∃ m : Int, m = (if 4 - (ts.length : Int) < more then if (new.length : Int) < 4 - (ts.length : Int) then (new.length : Int) else 4 - (ts.length : Int) else if (new.length : Int) < more then (new.length : Int) else more) := ⟨_, rfl⟩
      rw [← hm]
      have hm0 : 0 ≤ m := by split at hm <;> split at hm <;> omega
      have hm1 : m ≤ new.length := by split at hm <;> split at hm <;> omega
      have hm2 : m + ts.length ≤ 4 := by split at hm <;> split at hm <;> omega
      have hm3 : ts = [] → 1 ≤ m := fun z => by
        obtain ⟨z1, z2⟩ := hemp z
        have z3 : 0 < new.length := List.length_pos_iff.mpr z2
        split at hm <;> split at hm <;> omega
      clear hm
      walk_at "go"
      have cut1 : cutP (new.map PV.str) none (some m) = (new.take m.toNat).map PV.str := by rw [cut_to _ hm0 (by rw [List.length_map]; exact hm1), List.map_take]
      have cut2 : cutP (new.map PV.str) (some m) none = (new.drop m.toNat).map PV.str := by rw [cut_from _ hm0 (by rw [List.length_map]; exact hm1), List.map_drop]
      rw [cut1]
      simp only [List.length_map, List.length_take]
      refine ⟨by rw [sizeLine_eq]; omega, by rw [sizeLine_eq]; omega, ?_⟩
      walk_at "go"
      walk_at "go"
      rw [cut2]
      obtain ⟨T2, N2⟩ := T.snoc (m := m.toNat) (ts := ts) (par := par) N (by rw [List.length_append, List.length_take]; omega) (fun z => by
        rw [List.append_eq_nil_iff] at z
        have z1 := hm3 z.2
        have z2 := congrArg List.length z.1
        rw [List.length_take, List.length_nil] at z2
        omega) t1 hp
      have e1 : (sh ++ [new.take m.toNat ++ ts]).map ld = sh.map ld ++ [PV.tup ((new.take m.toNat).map PV.str ++ ts.map PV.str)] := by rw [List.map_append]; simp only [List.map_cons, List.map_nil, ld, List.map_append]
      have e2 : (ps ++ [par]).map optP = ps.map optP ++ [optP par] := by rw [List.map_append]; rfl
      refine ⟨by rw [List.length_map, sizeLine_eq]; omega, (hIv _ _).mpr ⟨sh ++ [new.take m.toNat ++ ts], ps ++ [par], new.drop m.toNat, _, _, _, _, by rw [e1, e2], T2, N2, fun z => by omega⟩⟩
    have rest : ∀ (ts : List Str) (par : Option Nat) (kv : Option (PV × Bool)), ts.Nodup → ts.length ≤ 2 → ((par = none ∧ i = 0 ∧ ts = []) ∨ ∃ j q, par = some j ∧ j < i ∧ sh[j]? = some q ∧ ∀ x ∈ ts, x ∈ q) →
        Hold tRest { nx := Iv (i + 1), rt := Q, bk := Hold (pFrz 3 (pFrz 2 (pRet (pTup (pCons (pVar 2) (pCons (pVar 3) pNil)))))) { nx := fun x => Q PV.non Kd.frz, rt := Q, bk := fun x => False, ct := fun x => False }, ct := Iv (i + 1) }
        [some (PV.lst (List.map PV.int cs), false), some (PV.lst (List.map PV.str L), false), some (PV.lst (List.map ld sh), true), some (PV.lst (List.map optP ps), true), some (PV.lst (List.map PV.str new), true), some (PV.int (0 + ↑i), false), some (PV.lst (ts.map PV.str), true), some (optP par, false), kv] := by
      intro ts par kv t1 t2 hp
      walk_at "go"
      refine ⟨_, cget hi' (by omega), _, rfl, by decide, by decide, by decide, ?_⟩
      generalize mixed cs[i] 22 = c22
      have n1 := Int.emod_nonneg c22 (show (3 : Int) ≠ 0 by decide)
      have n2 := Int.emod_lt_of_pos c22 (show (0 : Int) < 3 by decide)
      walk_at "go"
      have mid : ∀ v : PV, ts = [] → Hold (pSeq (pSet 8 (pC (PV.int 1)))
          (pIf (tBl (PL.t2 (pEq false) (PL.tB fLen (pCons (pVar 4) pNil)) (pC (PV.int 0))))
            (pSet 6 (pLst (pCons (PL.t2 pIx (PL.t2 pIx (pVar 2) (pVar 7)) (pC (PV.int 0))) pNil))) pNext))
        { nx := Hold tFin { nx := Iv (i + 1), rt := Q, bk := Hold (pFrz 3 (pFrz 2 (pRet (pTup (pCons (pVar 2) (pCons (pVar 3) pNil)))))) { nx := fun x => Q PV.non Kd.frz, rt := Q, bk := fun x => False, ct := fun x => False }, ct := Iv (i + 1) },
          rt := Q, bk := Hold (pFrz 3 (pFrz 2 (pRet (pTup (pCons (pVar 2) (pCons (pVar 3) pNil)))))) { nx := fun x => Q PV.non Kd.frz, rt := Q, bk := fun x => False, ct := fun x => False }, ct := Iv (i + 1) }
        [some (PV.lst (List.map PV.int cs), false), some (PV.lst (List.map PV.str L), false), some (PV.lst (List.map ld sh), true), some (PV.lst (List.map optP ps), true), some (PV.lst (List.map PV.str new), true), some (PV.int (0 + ↑i), false),
          some (PV.lst (List.map PV.str ts), true), some (optP par, false), some (v, false)] := by
        intro v hts
        subst hts
        walk_at "go"
        walk_at "go"
        rw [List.length_map]
        refine ite2 (fun e => ?_) (fun e => ?_)
        · walk_at "go"
          rcases hp with ⟨_, hi0, _⟩ | ⟨j, p, rfl, hj, hq, _⟩
          · have := hN0 hi0
            rw [this] at e
            omega
          · have hpm := List.mem_of_getElem? hq
            have hne := T.ne p hpm
            have hpl0 : 0 < p.length := List.length_pos_iff.mpr hne
            have hat : atI (sh.map ld) (j : Int) = some (ld p) := atI_nat (by rw [List.getElem?_map, hq]; rfl)
            have hat2 : atI (p.map PV.str) 0 = some (.str p[0]) := atI_nat (j := 0) (by simp [hpl0])
            refine ⟨_, rfl, _, hat, .inl ⟨_, .inr rfl, _, hat2, by decide, ?_⟩⟩
            exact fin [p[0]] (some j) 1 none (by simp) (by simp) (by decide) (by decide) (.inr ⟨j, p, rfl, hj, hq, fun x hx => by rw [List.mem_singleton] at hx; subst hx; exact List.getElem_mem _⟩) fun z => by cases z
        · walk_at "go"
          exact fin [] par 1 none List.nodup_nil (Nat.zero_le _) (by decide) (by decide) hp fun _ => ⟨by decide, fun z => e (by rw [z]; rfl)⟩
      have plain0 : ∀ v : Int, ts ≠ [] ∨ (1 ≤ v ∧ new ≠ []) → 0 ≤ v → v ≤ 3 → Hold pNext
        { nx := Hold tFin { nx := Iv (i + 1), rt := Q, bk := Hold (pFrz 3 (pFrz 2 (pRet (pTup (pCons (pVar 2) (pCons (pVar 3) pNil)))))) { nx := fun x => Q PV.non Kd.frz, rt := Q, bk := fun x => False, ct := fun x => False }, ct := Iv (i + 1) },
          rt := Q, bk := Hold (pFrz 3 (pFrz 2 (pRet (pTup (pCons (pVar 2) (pCons (pVar 3) pNil)))))) { nx := fun x => Q PV.non Kd.frz, rt := Q, bk := fun x => False, ct := fun x => False }, ct := Iv (i + 1) }
        [some (PV.lst (List.map PV.int cs), false), some (PV.lst (List.map PV.str L), false), some (PV.lst (List.map ld sh), true), some (PV.lst (List.map optP ps), true), some (PV.lst (List.map PV.str new), true), some (PV.int (0 + ↑i), false),
          some (PV.lst (List.map PV.str ts), true), some (optP par, false), some (PV.int v, false)] := by
        intro v hv h0 h3
        walk_at "go"
        exact fin ts par v none t1 t2 h0 h3 hp fun z => hv.elim (fun y => absurd z y) id
      refine ite2 (fun e1 => ite2 (fun e2 => ?_) (fun e2 => ite2 (fun e3 => ?_) (fun e3 => ?_))) (fun e1 => ?_)
      · exact mid _ (List.length_eq_zero_iff.mp (by rw [List.length_map] at e1; omega))
      · exact mid _ (List.length_eq_zero_iff.mp (by rw [List.length_map] at e1; omega))
      · exact plain0 _ (.inr ⟨by omega, fun z => e3 (by rw [z]; rfl)⟩) (by omega) (by omega)
      · exact plain0 _ (.inl fun z => e1 (by rw [z]; rfl)) (by omega) (by omega)
    walk_at "go"
    refine ⟨Nat.zero_le _, ?_⟩
    walk_at "go"
    walk_at "go"
    refine ite2 (fun e1 => ?_) (fun e1 => ?_)
    · walk_at "go"
      refine ⟨_, cget hi' (by omega), _, rfl, by decide, by decide, by omega, ?_⟩
      have n1 := Int.emod_nonneg (mixed cs[i] 20) (show (0 + (i : Int)) ≠ 0 by omega)
      have n2 := Int.emod_lt_of_pos (mixed cs[i] 20) (show (0 : Int) < 0 + (i : Int) by omega)
      generalize mixed cs[i] 20 % (0 + (i : Int)) = pj at *
      obtain ⟨j, rfl⟩ : ∃ j : Nat, pj = j := ⟨pj.toNat, by omega⟩
      have hj : j < sh.length := by omega
      have hat : atI (sh.map ld) (j : Int) = some (ld sh[j]) := atI_nat (by simp [hj])
      have hjm := List.getElem_mem hj
      have hj4 := (T.pats.2 _ hjm).1
      have n3 := Int.emod_nonneg (mixed cs[i] 21) (show (3 : Int) ≠ 0 by decide)
      have n4 := Int.emod_lt_of_pos (mixed cs[i] 21) (show (0 : Int) < 3 by decide)
      walk_at "go"
      refine ⟨_, cget hi' (by omega), _, hat, _, cget hi' (by omega), _, rfl, by decide, by decide, by decide, ⟨_, rfl⟩, _, .inr rfl, by rw [List.length_map]; omega, fun told left hp hl => ?_⟩
      obtain ⟨ts, rfl, hts⟩ := pick_of hp
      rw [List.length_map, List.length_map] at hl
      refine rest ts (some j) k4 ?_ (by omega) (.inr ⟨j, sh[j], rfl, by omega, by simp [hj], hts⟩)
      have hn := T.nd _ hjm
      have hp2 : ((ts.map PV.str) ++ left).Nodup := hp.nodup_iff.mpr (nodup_str.mpr hn)
      have hp3 := (List.nodup_append.mp hp2).1
      exact nodup_str.mp hp3
    · walk_at "go"
      exact rest [] none k4 List.nodup_nil (Nat.zero_le _) (.inl ⟨rfl, by omega, rfl⟩)
  · intro ρ hI
    obtain ⟨sh, ps, new, k1, k2, k3, k4, rfl, T, N, hN0⟩ := (hIv _ _).mp hI
    rw [rngP_len] at T
    walk_at "go"
    exact ⟨by decide, q sh ps (by simpa using T)⟩
end
end Q11
set_option Elab.async false
set_option linter.all false
set_option maxRecDepth 100000
set_option maxHeartbeats 4000000
namespace Q11
open PySem PySem.Spec L2 PL
open PyProof.Rows hiding St
abbrev Left := List (Nat × List Str)
def kD (l : Left) : List Key := l.map fun p => .inl (p.1 : Int)
def vD (l : Left) : List PV := l.map fun p => ld p.2
def pd (l : Left) : PV := .dK (kD l) (vD l)
structure LeftOk (l : Left) : Prop where
  nd : (l.map (·.1)).Nodup
  len : l.length ≤ 6
  four : ∀ p ∈ l, p.2.length ≤ 4
def lone (l : Left) (x : Str) : Bool := (l.filter fun p => decide (x ∈ p.2)).length == 1
def letterStep (l : Left) : Option Str := (l.flatMap (·.2)).find? (lone l)
def letP : Option Str → PV
  | none => .non
  | some x => .tup [.str "letter", .str x]
theorem dg_at : ∀ (l : Left) (i : Nat) (p : List Str), (l.map (·.1)).Nodup → (i, p) ∈ l → dgP (kD l) (vD l) (.inl (i : Int)) = some (ld p)
  | [], i, p, _, h => by cases h
  | (k, q) :: l, i, p, hn, h => by
    simp only [List.map_cons, List.nodup_cons] at hn
    by_cases e : k = i
    · subst e
      rcases List.mem_cons.mp h with h | h
      · cases h
        simp [dgP, kD, vD]
      · exact absurd (List.mem_map_of_mem (f := (·.1)) h) hn.1
    · rcases List.mem_cons.mp h with h | h
      · cases h; exact absurd rfl e
      · have := dg_at l i p hn.2 h
        have e2 : ¬ ((k : Int) = (i : Int)) := by omega
        simpa [dgP, kD, vD, List.find?_cons, e2] using this
theorem mem_strs {x : Str} {r : List Str} : PV.str x ∈ r.map PV.str ↔ x ∈ r := by simp
theorem plain_strs (r : List Str) : (r.map PV.str).all (PL.plain 6) = true := by simp [PL.plain]
def fLetterStep : PF := fun ds Q => ∃ l : Left, ds = [pd l] ∧ LeftOk l ∧ Q (letP (letterStep l)) .frz
theorem mono_LetterStep : MonoF fLetterStep := fun ds Q Q' m ⟨l, e, h, q⟩ => ⟨l, e, h, m _ _ q⟩
local macro_rules | `(tactic| walk_at "pu") => `(tactic| simp only [pSeq, pSet, pRet, pRetN, pIf, pDrop, pNext, pBreak, pCont, pDropM, pSetM, mApp, mAppM, mPopAt, mExtT, pUnp, gNameP, gNilP, gConsP, gTupP, t2, i0, i2, pVar, pC, pCons, pNil, pTup, pLst, noOwn, isOwn, tBl, tAndP, tOrP, tNotP, tTru, tTrue, TruP, tNotE, tAndE, tOrE, tIfE, pEq, pIn, pIsN, pIx, pCat, PL.tB, fLen, LenP, fList, fTuple, fSortS, fIsi, tCallP, pSortSet, pJoin, pSlL, pRev, oNone, oSome, pComp, iRange1, iRange2, iLst, iTupl, pDG, pDI, tOrT, pChain, fMax2, fMin2, fMin3, fAll, fListS, fListD, pDictEnum, pSlS, pSetIx, pPutIx, mDPop, iDic, pCompD, pFor, pWhile, PL.plain, startP, retOut, blkP, List.map_cons, List.map_nil, List.length_cons, List.length_nil, List.cons_append, List.nil_append, List.replicate, List.getElem?_cons_zero, List.getElem?_cons_succ, List.getElem?_nil, Option.getD_some, Option.getD_none, List.set_cons_zero, List.set_cons_succ, List.cons.injEq,
  Option.some.injEq, Prod.mk.injEq, PV.int.injEq, PV.bl.injEq, PV.str.injEq, PV.lst.injEq, PV.tup.injEq, PV.ty.injEq, PV.dK.injEq, exists_eq_left', exists_eq_left, exists_eq', exists_eq, exists_and_left, exists_and_right, exists_eq_right, true_and, and_true, reduceCtorEq, false_and, and_false, false_or, or_false, exists_false, exists_const, Bool.false_eq_true, if_true, if_false, and_assoc, ite_true, ite_false, Bool.not_eq_true', decide_eq_true_eq, decide_eq_false_iff_not, Bool.not_false, Bool.not_true, true_or, or_true, not_true_eq_false, not_false_eq_true, Bool.and_eq_true, Nat.zero_add, Nat.sub_self, Nat.reduceAdd, Nat.reduceSub, implies_true, ne_eq, noMutR, noMut, noMutL, Bool.true_and, Bool.and_true, List.all_nil, fMixed, fPicked, fAlphabet, pFrz, frzAt, pd, walkKs])
local macro_rules | `(tactic| walk_at "go") => `(tactic| ((first | (with_reducible refine hold ?_) | (with_reducible refine holdT ?_)); walk_at "pu"))
local macro_rules | `(tactic| walk_at "side") => `(tactic| first | assumption | decide | omega | exact ⟨by decide, by decide⟩ | exact ⟨by decide, by decide, by decide⟩ | exact Or.inl ⟨by omega, by omega⟩ | exact Or.inr ⟨by omega, by omega⟩)
local macro_rules | `(tactic| walk_at "auto") => `(tactic| repeat (first | ((with_reducible refine hold ?_); walk_at "pu") | ((with_reducible refine holdT ?_); walk_at "pu") | ((with_reducible refine And.intro ?_ ?_); (· walk_at "side"))))
section
variable {P : Program} {w : World} {K : PySem.W.Frag} {mg : Str → Option Value} {base : Heap}
theorem scLetterStep : FnScope ["left", "letters", "letter", "owners"] ["left"] (defScope sLetterStep) := ⟨rfl, rfl, rfl, by decide +kernel, rfl, by decide +kernel, by decide +kernel⟩
theorem ok_LetterStep {f : Addr} {fd : FuncData} (F : Fun K "letter_step" "letter_step" sLetterStep f fd) (B : Bl mg) : FnOk P w K mg base CX0 1 f fd ["left"] (spP K fLetterStep) := by
  refine fn_pure F scLetterStep (fun ds Q ⟨l, e, _⟩ => by rw [e]; rfl) (fun cdv A outer s H E hr => ?_)
  have hu : (A.deeper (envOfC "letter_step" (defScope sLetterStep) s.heap.objs.size f cdv)).units + 16 < cLine := by have q := hr.units; omega
  have nd := scLetterStep.nd
  refine ⟨_, (puss_cons (pus_forD rfl PassesOwn.never (puid_vals (pu_var 0)) (pug_name (i := 1) nd rfl (Or.inl rfl)) (puss_one (pus_for rfl PassesOwn.never (pui_tup (pu_var 1)) (pug_name (i := 2) nd rfl (Or.inr rfl)) (puss_cons (pus_compD (i := 3) (N := ["i", "left", "letter"]) (k := 1) (js := [0, 2]) rfl (cp_of (sup := defScope sLetterStep) (XN := ["left", "letters", "letter", "owners"]) rfl rfl (by decide +kernel)) (by decide) (loc_name (by decide)) (puid_keys (pu_var 0)) ⟨fun _ _ _ _ _ => (pug_name (i := 0) (by show (["i", "left", "letter"] : List Str).Nodup; decide +kernel) rfl (Or.inl rfl)), fun _ _ _ _ _ => (puts_one (put_in hu (pu_var 2) (pu_dget (hu1 hu) (pu_var 1) (pu_var 0)))), fun _ _ _ _ _ => (pu_var 0)⟩ nd rfl rfl)
      (puss_one (pus_if (put_eq hu (pu_len rfl B.len (pua_cons (pu_var 3) pua_nil)) pu_int) (puss_one (pus_ret (pu_tup (pua_cons pu_str (pua_cons (pu_var 2) pua_nil))))) puss_nil))))))
      (puss_one (pus_ret pu_non))), fun ds Q h => ?_⟩
  obtain ⟨l, rfl, ok, q⟩ := h
  walk_at "pu"
  have hl6 := ok.len
  obtain ⟨Iv, hIv⟩ : ∃ Iv : Nat → PEnv → Prop, ∀ i ρ, Iv i ρ ↔ ∃ (k1 k2 k3 : Option (PV × Bool)), ρ = [some (PV.dK (kD l) (vD l), false), k1, k2, k3] ∧ ∀ x ∈ (l.take i).flatMap (·.2), lone l x = false := ⟨_, fun _ _ => Iff.rfl⟩
  refine ⟨Iv, (hIv _ _).mpr ⟨none, none, none, rfl, fun x hx => by simp at hx⟩, ?_, ?_⟩
  · intro i d ρ hd hI
    obtain ⟨k1, k2, k3, rfl, hno⟩ := (hIv _ _).mp hI
    obtain ⟨⟨n, p⟩, hp, rfl⟩ : ∃ np, l[i]? = some np ∧ d = ld np.2 := by
      unfold vD at hd
      rw [List.getElem?_map] at hd
      cases hp : l[i]? with
      | none => rw [hp] at hd; cases hd
      | some np => rw [hp] at hd; cases hd; exact ⟨np, rfl, rfl⟩
    have hpm := List.mem_of_getElem? hp
    have hil : i < l.length := (List.getElem?_eq_some_iff.mp hp).1
    have hsplit : l.flatMap (·.2) = (l.take i).flatMap (·.2) ++ (p ++ (l.drop (i + 1)).flatMap (·.2)) := by
      conv => lhs; rw [← List.take_append_drop i l, List.drop_eq_getElem_cons hil]
      rw [List.getElem?_eq_getElem hil] at hp
      have hp' := Option.some.inj hp
      rw [hp']
      simp
    walk_at "go"
    obtain ⟨Jv, hJv⟩ : ∃ Jv : Nat → PEnv → Prop, ∀ j ρ, Jv j ρ ↔ ∃ (k2 k3 : Option (PV × Bool)), ρ = [some (PV.dK (kD l) (vD l), false), some (ld p, false), k2, k3] ∧ ∀ x ∈ p.take j, lone l x = false := ⟨_, fun _ _ => Iff.rfl⟩
    refine ⟨_, rfl, Jv, (hJv _ _).mpr ⟨k2, k3, rfl, fun x hx => by simp at hx⟩, ?_, ?_⟩
    · intro j d ρ hd hJ
      obtain ⟨k2, k3, rfl, hnj⟩ := (hJv _ _).mp hJ
      obtain ⟨x, hx, rfl⟩ : ∃ x, p[j]? = some x ∧ d = .str x := by
        rw [List.getElem?_map] at hd
        cases hx : p[j]? with
        | none => rw [hx] at hd; cases hd
        | some x => rw [hx] at hd; cases hd; exact ⟨x, rfl, rfl⟩
      walk_at "go"
      refine ⟨by simp only [kD, List.length_map, sizeLine_eq]; omega, fun m out => out = ((l.take m).filter fun q => decide (x ∈ q.2)).map fun q => PV.int (q.1 : Int), by simp, ?_, ?_⟩
      · rintro m d out hd - rfl
        obtain ⟨⟨a, r⟩, har, rfl⟩ : ∃ np, l[m]? = some np ∧ d = PV.int (np.1 : Int) := by
          unfold kD at hd
          rw [List.getElem?_map, List.getElem?_map] at hd
          cases hq : l[m]? with
          | none => rw [hq] at hd; cases hd
          | some np => rw [hq] at hd; cases hd; exact ⟨np, rfl, rfl⟩
        have hdg := dg_at l a r ok.nd (List.mem_of_getElem? har)
        refine ⟨.inl (a : Int), rfl, _, hdg, _, .inr rfl, plain_strs r, ite2 (fun e => ?_) (fun e => ?_)⟩
        · have hx : x ∈ r := mem_strs.mp e
          show _ = _
          rw [List.take_add_one, har]
          simp [hx]
        · have hx : ¬ x ∈ r := fun z => e (mem_strs.mpr z)
          show _ = _
          rw [List.take_add_one, har]
          simp [hx]
      · rintro out - rfl
        have hkl : (List.map keyP (kD l)).length = l.length := by simp [kD]
        rw [hkl, List.take_of_length_le (Nat.le_refl _)]
        walk_at "go"
        rw [List.length_map]
        refine ite2 (fun e => ?_) (fun e => ?_)
        · walk_at "go"
          refine ⟨by decide, ?_⟩
          have hlx : lone l x = true := by unfold lone; rw [beq_iff_eq]; omega
          have hjp : j < p.length := (List.getElem?_eq_some_iff.mp hx).1
          have : letterStep l = some x := by
            unfold letterStep
            have hps : p = p.take j ++ x :: p.drop (j + 1) := by
              rw [List.getElem?_eq_getElem hjp] at hx
              have hx' := Option.some.inj hx
              rw [← hx', List.getElem_cons_drop, List.take_append_drop]
            rw [hsplit, List.find?_append]
            have n1 : ((l.take i).flatMap (·.2)).find? (lone l) = none := by
              rw [List.find?_eq_none]; intro y hy; rw [hno y hy]; decide
            rw [n1, Option.none_or, List.find?_append]
            have n2 : p.find? (lone l) = some x := by
              rw [hps, List.find?_append]
              have n3 : (p.take j).find? (lone l) = none := by
                rw [List.find?_eq_none]; intro y hy; rw [hnj y hy]; decide
              rw [n3, Option.none_or, List.find?_cons, hlx]
            rw [n2]; rfl
          rw [this] at q
          exact q
        · walk_at "go"
          refine (hJv _ _).mpr ⟨_, _, rfl, fun y hy => ?_⟩
          rw [List.take_add_one, hx] at hy
          rcases List.mem_append.mp hy with hy | hy
          · exact hnj y hy
          · simp at hy
            subst hy
            unfold lone
            rw [beq_eq_false_iff_ne]
            omega
    · intro ρ hJ
      obtain ⟨k2, k3, rfl, hnj⟩ := (hJv _ _).mp hJ
      refine (hIv _ _).mpr ⟨_, _, _, rfl, fun x hx => ?_⟩
      rw [List.take_add_one, hp] at hx
      simp only [Option.toList_some, List.flatMap_append, List.flatMap_cons, List.flatMap_nil, List.append_nil, List.mem_append] at hx
      rcases hx with hx | hx
      · exact hno x hx
      · exact hnj x (by rw [List.length_map, List.take_of_length_le (Nat.le_refl _)]; exact hx)
  · intro ρ hI
    obtain ⟨k1, k2, k3, rfl, hno⟩ := (hIv _ _).mp hI
    walk_at "go"
    have : letterStep l = none := by
      unfold letterStep
      rw [List.find?_eq_none]
      intro x hx
      have hvl : (vD l).length = l.length := by simp [vD]
      rw [hvl, List.take_of_length_le (Nat.le_refl _)] at hno
      rw [hno x hx]; decide
    rw [this] at q
    exact q
end
end Q11
set_option Elab.async false
set_option linter.all false
set_option maxRecDepth 100000
set_option maxHeartbeats 4000000
namespace Q11
open PySem PySem.Spec L2 PL
open PyProof.Rows hiding St
inductive Stp where
  | letter (x : Str)
  | pattern (i j : Nat)
def stp : Stp → PV
  | .letter x => .tup [.str "letter", .str x]
  | .pattern i j => .tup [.str "pattern", .int i, .int j]
def stpO : Option Stp → PV
  | none => .non
  | some s => stp s
def inner (p q : Nat × List Str) : Bool := decide (p.1 ≠ q.1) && p.2.all fun x => decide (x ∈ q.2)
def patternStep (l : Left) : Option Stp := ((l.flatMap fun p => l.map fun q => (p, q)).find? fun z => inner z.1 z.2).map fun z => .pattern z.1.1 z.2.1
def anyStep (l : Left) : Option Stp := if l.length < 2 then none else match letterStep l with
  | some x => some (.letter x)
  | none => patternStep l
def fPatternStep : PF := fun ds Q => ∃ l : Left, ds = [pd l] ∧ LeftOk l ∧ Q (stpO (patternStep l)) .frz
theorem mono_PatternStep : MonoF fPatternStep := fun ds Q Q' m ⟨l, e, h, q⟩ => ⟨l, e, h, m _ _ q⟩
def fAnyStep : PF := fun ds Q => ∃ l : Left, ds = [pd l] ∧ LeftOk l ∧ Q (stpO (anyStep l)) .frz
theorem mono_AnyStep : MonoF fAnyStep := fun ds Q Q' m ⟨l, e, h, q⟩ => ⟨l, e, h, m _ _ q⟩
def parStep (ps : List (Option Nat)) : Stp → List (Option Nat)
  | .letter _ => ps
  | .pattern i j => ps.set i (some j)
def parentsBy (ss : List Stp) (n : Nat) : List (Option Nat) := ss.foldl parStep (List.replicate n none)
def fParentsBy : PF := fun ds Q => ∃ (ss : List Stp) (n : Nat), ds = [.lst (ss.map stp), .int n] ∧ n ≤ 100 ∧ (∀ i j, Stp.pattern i j ∈ ss → i < n) ∧ Q (.lst ((parentsBy ss n).map optP)) .new
theorem mono_ParentsBy : MonoF fParentsBy := fun ds Q Q' m ⟨ss, n, e, h1, h2, q⟩ => ⟨ss, n, e, h1, h2, m _ _ q⟩
local macro_rules | `(tactic| walk_at "pu") => `(tactic| simp only [pSeq, pSet, pRet, pRetN, pIf, pDrop, pNext, pBreak, pCont, pDropM, pSetM, mApp, mAppM, mPopAt, mExtT, pUnp, gNameP, gNilP, gConsP, gTupP, t2, i0, i2, pVar, pC, pCons, pNil, pTup, pLst, noOwn, isOwn, tBl, tAndP, tOrP, tNotP, tTru, tTrue, TruP, tNotE, tAndE, tOrE, tIfE, pEq, pIn, pIsN, pIx, pCat, PL.tB, fLen, LenP, fList, fTuple, fSortS, fIsi, tCallP, pSortSet, pJoin, pSlL, pRev, oNone, oSome, pComp, iRange1, iRange2, iLst, iTupl, pDG, pDI, tOrT, pChain, fMax2, fMin2, fMin3, fAll, fListS, fListD, pDictEnum, pSlS, pSetIx, pPutIx, mDPop, iDic, pCompD, pFor, pWhile, PL.plain, startP, retOut, blkP, List.map_cons, List.map_nil, List.length_cons, List.length_nil, List.cons_append, List.nil_append, List.replicate, List.getElem?_cons_zero, List.getElem?_cons_succ, List.getElem?_nil, Option.getD_some, Option.getD_none, List.set_cons_zero, List.set_cons_succ, List.cons.injEq,
  Option.some.injEq, Prod.mk.injEq, PV.int.injEq, PV.bl.injEq, PV.str.injEq, PV.lst.injEq, PV.tup.injEq, PV.ty.injEq, PV.dK.injEq, exists_eq_left', exists_eq_left, exists_eq', exists_eq, exists_and_left, exists_and_right, exists_eq_right, true_and, and_true, reduceCtorEq, false_and, and_false, false_or, or_false, exists_false, exists_const, Bool.false_eq_true, if_true, if_false, and_assoc, ite_true, ite_false, Bool.not_eq_true', decide_eq_true_eq, decide_eq_false_iff_not, Bool.not_false, Bool.not_true, true_or, or_true, not_true_eq_false, not_false_eq_true, Bool.and_eq_true, Nat.zero_add, Nat.sub_self, Nat.reduceAdd, Nat.reduceSub, implies_true, ne_eq, noMutR, noMut, noMutL, Bool.true_and, Bool.and_true, List.all_nil, fLetterStep, fPatternStep, pFrz, frzAt, pd, walkKs])
local macro_rules | `(tactic| walk_at "go") => `(tactic| ((first | (with_reducible refine hold ?_) | (with_reducible refine holdT ?_)); walk_at "pu"))
local macro_rules | `(tactic| walk_at "side") => `(tactic| first | assumption | decide | omega | exact ⟨by decide, by decide⟩ | exact ⟨by decide, by decide, by decide⟩ | exact Or.inl ⟨by omega, by omega⟩ | exact Or.inr ⟨by omega, by omega⟩)
local macro_rules | `(tactic| walk_at "auto") => `(tactic| repeat (first | ((with_reducible refine hold ?_); walk_at "pu") | ((with_reducible refine holdT ?_); walk_at "pu") | ((with_reducible refine And.intro ?_ ?_); (· walk_at "side"))))
section
variable {P : Program} {w : World} {K : PySem.W.Frag} {mg : Str → Option Value} {base : Heap}
theorem key_get {l : Left} {m : Nat} {d : PV} (hd : (List.map keyP (kD l))[m]? = some d) : ∃ np, l[m]? = some np ∧ d = PV.int (np.1 : Int) := by
  unfold kD at hd
  rw [List.getElem?_map, List.getElem?_map] at hd
  cases hq : l[m]? with
  | none => rw [hq] at hd; cases hd
  | some np => rw [hq] at hd; cases hd; exact ⟨np, rfl, rfl⟩
theorem split_at {α : Type} {l : List α} {i : Nat} {p : α} (h : l[i]? = some p) : l = l.take i ++ p :: l.drop (i + 1) := by
  have hi := (List.getElem?_eq_some_iff.mp h).1
  rw [List.getElem?_eq_getElem hi] at h
  have h' := Option.some.inj h
  rw [← h', List.getElem_cons_drop, List.take_append_drop]
theorem find_pair {l : Left} {i j : Nat} {p r : Nat × List Str} (hp : l[i]? = some p) (hr : l[j]? = some r) (h1 : ∀ a ∈ l.take i, ∀ b ∈ l, inner a b = false) (h2 : ∀ b ∈ l.take j, inner p b = false) (h : inner p r = true) :
    (l.flatMap fun p => l.map fun q => (p, q)).find? (fun z => inner z.1 z.2) = some (p, r) := by
  have e1 : (l.flatMap fun p => l.map fun q => (p, q)) = ((l.take i).flatMap fun p => l.map fun q => (p, q)) ++ ((l.map fun q => (p, q)) ++ ((l.drop (i + 1)).flatMap fun p => l.map fun q => (p, q))) := by
    conv => lhs; arg 2; rw [split_at hp]
    rw [List.flatMap_append, List.flatMap_cons]
  have e2 : (l.map fun q => (p, q)) = ((l.take j).map fun q => (p, q)) ++ (p, r) :: ((l.drop (j + 1)).map fun q => (p, q)) := by
    conv => lhs; arg 2; rw [split_at hr]
    rw [List.map_append, List.map_cons]
  have n1 : ((l.take i).flatMap fun p => l.map fun q => (p, q)).find? (fun z => inner z.1 z.2) = none := by
    rw [List.find?_eq_none]
    rintro ⟨a, b⟩ hx
    rw [List.mem_flatMap] at hx
    obtain ⟨c, hc, hx⟩ := hx
    rw [List.mem_map] at hx
    obtain ⟨d, hd, hx⟩ := hx
    cases hx
    rw [h1 a hc b hd]; decide
  have n2 : ((l.take j).map fun q => (p, q)).find? (fun z => inner z.1 z.2) = none := by
    rw [List.find?_eq_none]
    rintro ⟨a, b⟩ hx
    rw [List.mem_map] at hx
    obtain ⟨d, hd, hx⟩ := hx
    cases hx
    rw [h2 b hd]; decide
  rw [e1, List.find?_append, n1, Option.none_or, List.find?_append, e2, List.find?_append, n2, Option.none_or, List.find?_cons]
  simp only [h]
  rfl
theorem scPatternStep : FnScope ["left", "i", "j"] ["left"] (defScope sPatternStep) := ⟨rfl, rfl, rfl, by decide +kernel, rfl, by decide +kernel, by decide +kernel⟩
theorem ok_PatternStep {f : Addr} {fd : FuncData} (F : Fun K "pattern_step" "pattern_step" sPatternStep f fd) (B : Bl mg) : FnOk P w K mg base CX0 1 f fd ["left"] (spP K fPatternStep) := by
  refine fn_pure F scPatternStep (fun ds Q ⟨l, e, _⟩ => by rw [e]; rfl) (fun cdv A outer s H E hr => ?_)
  have hu : (A.deeper (envOfC "pattern_step" (defScope sPatternStep) s.heap.objs.size f cdv)).units + 16 < cLine := by have q := hr.units; omega
  have nd := scPatternStep.nd
  refine ⟨_, (puss_cons (pus_forD rfl PassesOwn.never (puid_keys (pu_var 0)) (pug_name (i := 1) nd rfl (Or.inl rfl)) (puss_one (pus_forD rfl PassesOwn.never (puid_keys (pu_var 0)) (pug_name (i := 2) nd rfl (Or.inr rfl)) (puss_one (pus_if (PuW.t (puw_and (put_ne hu (pu_var 1) (pu_var 2)) (puw_and1 (put_tru (pu_all rfl rfl B.all (pua_cons (pu_comp (N := ["letter", "left", "j"]) (k := 1) (js := [0, 2]) rfl (cp_of (sup := defScope sPatternStep) (XN := ["left", "i", "j"]) rfl rfl (by decide +kernel)) (by decide) (loc_name (by decide)) (pui_tup (pu_dget (hu1 hu) (pu_var 0) (pu_var 1))) ⟨fun _ _ _ _ _ => (pug_name (i := 0) (by show (["letter", "left", "j"] : List Str).Nodup; decide +kernel) rfl (Or.inl rfl)), fun _ _ _ _ _ => puts_nil, fun _ _ _ _ _ => (pu_in hu (pu_var 0) (pu_dget (hu1 hu) (pu_var 1) (pu_var 2)))⟩) pua_nil)))))) (puss_one (pus_ret (pu_tup (pua_cons pu_str (pua_cons (pu_var 1) (pua_cons (pu_var 2) pua_nil)))))) puss_nil)))))
      (puss_one (pus_ret pu_non))), fun ds Q h => ?_⟩
  obtain ⟨l, rfl, ok, q⟩ := h
  have hl6 := ok.len
  walk_at "pu"
  obtain ⟨Iv, hIv⟩ : ∃ Iv : Nat → PEnv → Prop, ∀ i ρ, Iv i ρ ↔ ∃ (k1 k2 : Option (PV × Bool)), ρ = [some (PV.dK (kD l) (vD l), false), k1, k2] ∧ ∀ p ∈ l.take i, ∀ q ∈ l, inner p q = false := ⟨_, fun _ _ => Iff.rfl⟩
  refine ⟨Iv, (hIv _ _).mpr ⟨none, none, rfl, fun x hx => by simp at hx⟩, ?_, ?_⟩
  · intro i d ρ hd hI
    obtain ⟨k1, k2, rfl, hno⟩ := (hIv _ _).mp hI
    obtain ⟨p, hp, rfl⟩ := key_get hd
    have hdp := dg_at l p.1 p.2 ok.nd (List.mem_of_getElem? hp)
    have hp4 := ok.four p (List.mem_of_getElem? hp)
    walk_at "go"
    obtain ⟨Jv, hJv⟩ : ∃ Jv : Nat → PEnv → Prop, ∀ j ρ, Jv j ρ ↔ ∃ (k2 : Option (PV × Bool)), ρ = [some (PV.dK (kD l) (vD l), false), some (PV.int (p.1 : Int), false), k2] ∧ ∀ q ∈ l.take j, inner p q = false := ⟨_, fun _ _ => Iff.rfl⟩
    refine ⟨Jv, (hJv _ _).mpr ⟨k2, rfl, fun x hx => by simp at hx⟩, ?_, ?_⟩
    · intro j d ρ hd hJ
      obtain ⟨k2, rfl, hnj⟩ := (hJv _ _).mp hJ
      obtain ⟨r, hr2, rfl⟩ := key_get hd
      have hdr := dg_at l r.1 r.2 ok.nd (List.mem_of_getElem? hr2)
      walk_at "go"
      have miss : inner p r = false → Hold pNext { nx := Jv (j + 1), rt := Q, bk := Iv (i + 1), ct := Jv (j + 1) } [some (PV.dK (kD l) (vD l), false), some (PV.int (p.1 : Int), false), some (PV.int (r.1 : Int), false)] := fun hm => by
        walk_at "go"
        refine (hJv _ _).mpr ⟨_, rfl, fun y hy => ?_⟩
        rw [List.take_add_one, hr2] at hy
        rcases List.mem_append.mp hy with hy | hy
        · exact hnj y hy
        · simp at hy
          subst hy; exact hm
      refine ite2 (fun e => ?_) (fun e => miss ?_)
      · refine ⟨.inl (p.1 : Int), rfl, _, hdp, _, rfl, by rw [List.length_map, sizeLine_eq]; omega, fun m out => out = ((p.2.take m).map fun x => decide (x ∈ r.2)).map PV.bl, by simp, ?_, ?_⟩
        · rintro m d out hd - rfl
          obtain ⟨x, hx, rfl⟩ : ∃ x, p.2[m]? = some x ∧ d = .str x := by
            rw [List.getElem?_map] at hd
            cases hx : p.2[m]? with
            | none => rw [hx] at hd; cases hd
            | some x => rw [hx] at hd; cases hd; exact ⟨x, rfl, rfl⟩
          refine ⟨.inl (r.1 : Int), rfl, _, hdr, _, .inr rfl, rfl, plain_strs r.2, ?_⟩
          show _ = _
          rw [List.take_add_one, hx]
          simp [mem_strs]
        · rintro out - rfl
          refine ⟨_, rfl, ?_⟩
          rw [List.length_map, List.take_of_length_le (Nat.le_refl _)]
          have hall : (p.2.map fun x => decide (x ∈ r.2)).all id = p.2.all fun x => decide (x ∈ r.2) := by rw [List.all_map]; rfl
          rw [hall]
          have hne : p.1 ≠ r.1 := fun z => e (by rw [z])
          refine ite2 (fun e2 => ?_) (fun e2 => miss ?_)
          · walk_at "go"
            refine ⟨by decide, ?_⟩
            have hin : inner p r = true := by unfold inner; rw [e2]; simp [hne]
            have : patternStep l = some (.pattern p.1 r.1) := by
              unfold patternStep
              rw [find_pair hp hr2 hno hnj hin]; rfl
            rw [this] at q
            exact q
          · unfold inner
            simp [Bool.eq_false_iff.mpr e2]
      · have hne : p.1 = r.1 := by omega
        unfold inner; simp [hne]
    · intro ρ hJ
      obtain ⟨k2, rfl, hnj⟩ := (hJv _ _).mp hJ
      refine (hIv _ _).mpr ⟨_, _, rfl, fun x hx y hy => ?_⟩
      rw [List.take_add_one, hp] at hx
      rcases List.mem_append.mp hx with hx | hx
      · exact hno x hx y hy
      · simp at hx
        subst hx
        exact hnj y (by simpa [kD] using hy)
  · intro ρ hI
    obtain ⟨k1, k2, rfl, hno⟩ := (hIv _ _).mp hI
    walk_at "go"
    have : patternStep l = none := by
      unfold patternStep
      rw [Option.map_eq_none_iff, List.find?_eq_none]
      rintro ⟨a, b⟩ hx
      rw [List.mem_flatMap] at hx
      obtain ⟨c, hc, hx⟩ := hx
      rw [List.mem_map] at hx
      obtain ⟨d, hd, hx⟩ := hx
      cases hx
      rw [hno a (by simpa [kD] using hc) b hd]; decide
    rw [this] at q
    exact q
theorem scAnyStep : FnScope ["left"] ["left"] (defScope sAnyStep) := ⟨rfl, rfl, rfl, by decide +kernel, rfl, by decide +kernel, by decide +kernel⟩
theorem ok_AnyStep {f f1 f2 : Addr} {fd fd1 fd2 : FuncData} (F : Fun K "any_step" "any_step" sAnyStep f fd) (LetterStep : Fx K mg "letter_step" sLetterStep ["left"] f1 fd1) (PatternStep : Fx K mg "pattern_step" sPatternStep ["left"] f2 fd2) (B : Bl mg) : FnOk P w K mg base CX0 2 f fd ["left"] (spP K fAnyStep) := by
  have GLetterStep : FnOk P w K mg base CX0 1 f1 fd1 ["left"] (spP K fLetterStep) := ok_LetterStep LetterStep.fn B
  have GPatternStep : FnOk P w K mg base CX0 1 f2 fd2 ["left"] (spP K fPatternStep) := ok_PatternStep PatternStep.fn B
  refine fn_pure F scAnyStep (fun ds Q ⟨l, e, _⟩ => by rw [e]; rfl) (fun cdv A outer s H E hr => ?_)
  have hu : (A.deeper (envOfC "any_step" (defScope sAnyStep) s.heap.objs.size f cdv)).units + 16 < cLine := by have q := hr.units; omega
  have nd := scAnyStep.nd
  refine ⟨_, (puss_cons (pus_if (put_lt (pu_len rfl B.len (pua_cons (pu_var 0) pua_nil)) pu_int) (puss_one (pus_ret pu_non)) puss_nil)
      (puss_one (pus_ret (pu_orT (pu_call GLetterStep mono_LetterStep hr rfl LetterStep.mg LetterStep.fn.kp LetterStep.bd (pua_cons (pu_var 0) pua_nil)) (pu_one (pu_call GPatternStep mono_PatternStep hr rfl PatternStep.mg PatternStep.fn.kp PatternStep.bd (pua_cons (pu_var 0) pua_nil))))))), fun ds Q h => ?_⟩
  obtain ⟨l, rfl, ok, q⟩ := h
  have hl6 := ok.len
  walk_at "pu"
  have hk : (kD l).length = l.length := by simp [kD]
  refine ite2 (fun e => ?_) (fun e => ?_)
  · walk_at "go"
    have : anyStep l = none := by unfold anyStep; rw [if_pos (by omega)]
    rw [this] at q
    exact q
  · walk_at "go"
    walk_at "go"
    have hany : anyStep l = match letterStep l with | some x => some (.letter x) | none => patternStep l := by unfold anyStep; rw [if_neg (by omega)]
    rw [hany] at q
    refine ⟨l, rfl, rfl, ok, ?_⟩
    cases hls : letterStep l with
    | none =>
      rw [hls] at q
      exact ⟨false, rfl, by rw [if_neg (by decide)]; exact ⟨l, rfl, rfl, ok, q⟩⟩
    | some x =>
      rw [hls] at q
      exact ⟨true, rfl, by rw [if_pos rfl]; exact q⟩
theorem scParentsBy : FnScope ["steps", "size", "parents", "step"] ["steps", "size"] (defScope sParentsBy) := ⟨rfl, rfl, rfl, by decide +kernel, rfl, by decide +kernel, by decide +kernel⟩
theorem ok_ParentsBy {f : Addr} {fd : FuncData} (F : Fun K "parents_by" "parents_by" sParentsBy f fd) (B : Bl mg) : FnOk P w K mg base CX0 1 f fd ["steps", "size"] (spP K fParentsBy) := by
  refine fn_pure F scParentsBy (fun ds Q ⟨l, n, e, _⟩ => by rw [e]; rfl) (fun cdv A outer s H E hr => ?_)
  have hu : (A.deeper (envOfC "parents_by" (defScope sParentsBy) s.heap.objs.size f cdv)).units + 16 < cLine := by have q := hr.units; omega
  have nd := scParentsBy.nd
  refine ⟨_, (puss_cons (pus_comp (i := 2) (N := ["i"]) (k := 1) (js := []) rfl (cp_of (sup := defScope sParentsBy) (XN := ["steps", "size", "parents", "step"]) rfl rfl (by decide +kernel)) (by decide) (loc_name (by decide)) (pui_range1 rfl B.range (pua_cons (pu_var 1) pua_nil)) ⟨fun _ _ _ _ _ => (pug_name (i := 0) (by show (["i"] : List Str).Nodup; decide +kernel) rfl (Or.inl rfl)), fun _ _ _ _ _ => puts_nil, fun _ _ _ _ _ => pu_non⟩ nd rfl rfl)
      (puss_cons (pus_for rfl PassesOwn.never (pui_list (pu_var 0)) (pug_name (i := 3) nd rfl (Or.inl rfl)) (puss_one (pus_if (put_eq hu (pu_item (pu_var 3) pu_int) pu_str) (puss_one (pus_setIx 2 (pu_item (pu_var 3) pu_int) (pu_item (pu_var 3) pu_int))) puss_nil)))
      (puss_one (pus_ret (pu_var 2))))), fun ds Q h => ?_⟩
  obtain ⟨ss, n, rfl, hn, hss, q⟩ := h
  walk_at "pu"
  have hlen : (rngP 0 ((n : Int).toNat)).length = n := by rw [rngP_len]; omega
  rw [hlen]
  refine ⟨by omega, by omega, by rw [sizeLine_eq]; omega, fun i out => out = (List.replicate i (none : Option Nat)).map optP, rfl, ?_, ?_⟩
  · rintro i d out - - rfl
    show _ = _
    rw [List.replicate_succ', List.map_append]; rfl
  · rintro out - rfl
    walk_at "go"
    obtain ⟨Iv, hIv⟩ : ∃ Iv : Nat → PEnv → Prop, ∀ i ρ, Iv i ρ ↔ ∃ (k1 : Option (PV × Bool)) (ps : List (Option Nat)), ρ = [some (PV.lst (List.map stp ss), false), some (PV.int ↑n, false), some (PV.lst (ps.map optP), true), k1] ∧ ps.length = n ∧ ps = (ss.take i).foldl parStep (List.replicate n none) := ⟨_, fun _ _ => Iff.rfl⟩
    refine ⟨Iv, (hIv _ _).mpr ⟨none, List.replicate n none, rfl, by simp, by simp⟩, ?_, ?_⟩
    · intro i d ρ hd hI
      obtain ⟨k1, ps, rfl, hl, hps⟩ := (hIv _ _).mp hI
      obtain ⟨st, hst, rfl⟩ : ∃ st, ss[i]? = some st ∧ d = stp st := by
        rw [List.getElem?_map] at hd
        cases hx : ss[i]? with
        | none => rw [hx] at hd; cases hd
        | some x => rw [hx] at hd; cases hd; exact ⟨x, rfl, rfl⟩
      have hnext : (ss.take (i + 1)).foldl parStep (List.replicate n none) = parStep ps st := by
        rw [List.take_add_one, hst, List.foldl_append, ← hps]; rfl
      cases st with
      | letter x =>
        walk_at "go"
        refine .inl ⟨_, .inr rfl, _, atI_nat (j := 0) rfl, rfl, ite2 (fun e => ?_) (fun e => ?_)⟩
        · injection e with e
          exact absurd e (by decide +kernel)
        · walk_at "go"
          exact (hIv _ _).mpr ⟨_, ps, rfl, hl, hnext.symm⟩
      | pattern a b =>
        have han := hss a b (List.mem_of_getElem? hst)
        walk_at "go"
        refine .inl ⟨_, .inr rfl, _, atI_nat (j := 0) rfl, rfl, ite2 (fun e => ?_) (fun e => absurd rfl e)⟩
        walk_at "go"
        refine .inl ⟨_, .inr rfl, _, atI_nat (j := 2) rfl, _, .inr rfl, _, atI_nat (j := 1) rfl, _, rfl, a, ?_, (hIv _ _).mpr ⟨_, ps.set a (some b), by rw [List.map_set]; rfl, by rw [List.length_set]; exact hl, hnext.symm⟩⟩
        unfold ixN
        rw [if_pos (by omega), if_pos (by rw [List.length_map]; omega)]; rfl
    · intro ρ hI
      obtain ⟨k1, ps, rfl, hl, hps⟩ := (hIv _ _).mp hI
      walk_at "go"
      rw [List.length_map, List.take_of_length_le (Nat.le_refl _)] at hps
      rw [hps]
      exact q
end
end Q11
set_option Elab.async false
set_option linter.all false
set_option maxRecDepth 100000
set_option maxHeartbeats 4000000
namespace Q11
open PySem PySem.Spec L2 PL
open PyProof.Rows hiding St
def fWhole : PF := fun ds Q => ∃ i : Int, ds = [.int i] ∧ Q (.bl true) .frz
theorem mono_Whole : MonoF fWhole := fun ds Q Q' m ⟨c, e, q⟩ => ⟨c, e, m _ _ q⟩
def np (p : Nat × List Str) : PV := .tup [.int p.1, ld p.2]
def lp (l : Left) : PV := .lst (l.map np)
def holders (l : Left) (x : Str) : Left := l.filter fun p => decide (x ∈ p.2)
def fHolders : PF := fun ds Q => ∃ (l : Left) (x : Str), ds = [lp l, .str x] ∧ LeftOk l ∧ Q (.lst ((holders l x).map fun p => .int (p.1 : Int))) .new
theorem mono_Holders : MonoF fHolders := fun ds Q Q' m ⟨l, x, e, h, q⟩ => ⟨l, x, e, h, m _ _ q⟩
def atNum (l : Left) (i : Nat) : Left := l.filter fun p => decide (p.1 = i)
def withinB (l : Left) (i j : Nat) : Bool := if i = j ∨ (atNum l i).length ≠ 1 ∨ (atNum l j).length ≠ 1 then false else ((((atNum l i).map (·.2)).getD 0 []).filter fun x => decide (¬ x ∈ ((atNum l j).map (·.2)).getD 0 [])).length == 0
def fWithin : PF := fun ds Q => ∃ (l : Left) (i j : Nat), ds = [lp l, .int i, .int j] ∧ LeftOk l ∧ Q (.bl (withinB l i j)) .frz
theorem mono_Within : MonoF fWithin := fun ds Q Q' m ⟨l, i, j, e, h, q⟩ => ⟨l, i, j, e, h, m _ _ q⟩
local macro_rules | `(tactic| walk_at "pu") => `(tactic| simp only [pSeq, pSet, pRet, pRetN, pIf, pDrop, pNext, pBreak, pCont, pDropM, pSetM, mApp, mAppM, mPopAt, mExtT, pUnp, gNameP, gNilP, gConsP, gTupP, t2, i0, i2, pVar, pC, pCons, pNil, pTup, pLst, noOwn, isOwn, tBl, tAndP, tOrP, tNotP, tTru, tTrue, TruP, tNotE, tAndE, tOrE, tIfE, pEq, pIn, pIsN, pIx, pCat, PL.tB, fLen, LenP, fList, fTuple, fSortS, fIsi, tCallP, pSortSet, pJoin, pSlL, pRev, oNone, oSome, pComp, iRange1, iRange2, iLst, iTupl, pDG, pDI, tOrT, pChain, fMax2, fMin2, fMin3, fAll, fListS, fListD, pDictEnum, pSlS, pSetIx, pPutIx, mDPop, iDic, pCompD, pFor, pWhile, PL.plain, startP, retOut, blkP, List.map_cons, List.map_nil, List.length_cons, List.length_nil, List.cons_append, List.nil_append, List.replicate, List.getElem?_cons_zero, List.getElem?_cons_succ, List.getElem?_nil, Option.getD_some, Option.getD_none, List.set_cons_zero, List.set_cons_succ, List.cons.injEq,
  Option.some.injEq, Prod.mk.injEq, PV.int.injEq, PV.bl.injEq, PV.str.injEq, PV.lst.injEq, PV.tup.injEq, PV.ty.injEq, PV.dK.injEq, exists_eq_left', exists_eq_left, exists_eq', exists_eq, exists_and_left, exists_and_right, exists_eq_right, true_and, and_true, reduceCtorEq, false_and, and_false, false_or, or_false, exists_false, exists_const, Bool.false_eq_true, if_true, if_false, and_assoc, ite_true, ite_false, Bool.not_eq_true', decide_eq_true_eq, decide_eq_false_iff_not, Bool.not_false, Bool.not_true, true_or, or_true, not_true_eq_false, not_false_eq_true, Bool.and_eq_true, Nat.zero_add, Nat.sub_self, Nat.reduceAdd, Nat.reduceSub, implies_true, ne_eq, noMutR, noMut, noMutL, Bool.true_and, Bool.and_true, List.all_nil, fWhole, fHolders, fWithin, lp, np])
local macro_rules | `(tactic| walk_at "go") => `(tactic| ((first | (with_reducible refine hold ?_) | (with_reducible refine holdT ?_)); walk_at "pu"))
local macro_rules | `(tactic| walk_at "side") => `(tactic| first | assumption | decide | omega | exact ⟨by decide, by decide⟩ | exact ⟨by decide, by decide, by decide⟩ | exact Or.inl ⟨by omega, by omega⟩ | exact Or.inr ⟨by omega, by omega⟩)
local macro_rules | `(tactic| walk_at "auto") => `(tactic| repeat (first | ((with_reducible refine hold ?_); walk_at "pu") | ((with_reducible refine holdT ?_); walk_at "pu") | ((with_reducible refine And.intro ?_ ?_); (· walk_at "side"))))
section
variable {P : Program} {w : World} {K : PySem.W.Frag} {mg : Str → Option Value} {base : Heap}
theorem np_get {l : Left} {m : Nat} {d : PV} (hd : (l.map np)[m]? = some d) : ∃ p, l[m]? = some p ∧ d = np p := by
  rw [List.getElem?_map] at hd
  cases hq : l[m]? with
  | none => rw [hq] at hd; cases hd
  | some p => rw [hq] at hd; cases hd; exact ⟨p, rfl, rfl⟩
theorem str_get {p : List Str} {m : Nat} {d : PV} (hd : (p.map PV.str)[m]? = some d) : ∃ x, p[m]? = some x ∧ d = .str x := by
  rw [List.getElem?_map] at hd
  cases hq : p[m]? with
  | none => rw [hq] at hd; cases hd
  | some p => rw [hq] at hd; cases hd; exact ⟨p, rfl, rfl⟩
theorem scWhole : FnScope ["_law_found"] ["_law_found"] (defScope sWhole) := ⟨rfl, rfl, rfl, by decide +kernel, rfl, by decide +kernel, by decide +kernel⟩
theorem ok_Whole {f : Addr} {fd : FuncData} (F : Fun K "_law_whole" "_law_whole" sWhole f fd) (B : Bl mg) : FnOk P w K mg base CX0 1 f fd ["_law_found"] (spP K fWhole) := by
  refine fn_pure F scWhole (fun ds Q ⟨l, e, _⟩ => by rw [e]; rfl) (fun cdv A outer s H E hr => ?_)
  have hu : (A.deeper (envOfC "_law_whole" (defScope sWhole) s.heap.objs.size f cdv)).units + 16 < cLine := by have q := hr.units; omega
  have nd := scWhole.nd
  refine ⟨_, (puss_one (pus_ret (pu_and (pu_isi (K := K) rfl rfl B.isi (pua_cons (pu_var 0) (pua_cons (pu_ty rfl B.int bInt) pua_nil))) (pu_one (pu_not (pu_isi (K := K) rfl rfl B.isi (pua_cons (pu_var 0) (pua_cons (pu_ty rfl B.bool bBool) pua_nil)))))))), fun ds Q h => ?_⟩
  obtain ⟨i, rfl, q⟩ := h
  walk_at "pu"
  refine ⟨true, kit_same, ?_⟩
  rw [if_pos rfl]
  exact ⟨false, kit_int_bool, q⟩
theorem scHolders : FnScope ["_law_left", "_law_letter"] ["_law_left", "_law_letter"] (defScope sHolders) := ⟨rfl, rfl, rfl, by decide +kernel, rfl, by decide +kernel, by decide +kernel⟩
theorem ok_Holders {f : Addr} {fd : FuncData} (F : Fun K "_law_holders" "_law_holders" sHolders f fd) (B : Bl mg) : FnOk P w K mg base CX0 1 f fd ["_law_left", "_law_letter"] (spP K fHolders) := by
  refine fn_pure F scHolders (fun ds Q ⟨l, x, e, _⟩ => by rw [e]; rfl) (fun cdv A outer s H E hr => ?_)
  have hu : (A.deeper (envOfC "_law_holders" (defScope sHolders) s.heap.objs.size f cdv)).units + 16 < cLine := by have q := hr.units; omega
  have nd := scHolders.nd
  refine ⟨_, (puss_one (pus_ret (pu_comp (N := ["_law_i", "_law_letters", "_law_letter"]) (k := 2) (js := [1]) rfl (cp_of (sup := defScope sHolders) (XN := ["_law_left", "_law_letter"]) rfl rfl (by decide +kernel)) (by decide) (loc_tup (loc2 (by decide) (by decide))) (pui_list (pu_var 0)) ⟨fun _ _ _ _ _ => (pug_tup (n := 2) rfl (pugs_cons (pug_name (i := 0) (by show (["_law_i", "_law_letters", "_law_letter"] : List Str).Nodup; decide +kernel) rfl (Or.inl rfl)) (pugs_cons (pug_name (i := 1) (by show (["_law_i", "_law_letters", "_law_letter"] : List Str).Nodup; decide +kernel) rfl (Or.inl rfl)) pugs_nil))), fun _ _ _ _ _ => (puts_one (put_in hu (pu_var 2) (pu_var 1))), fun _ _ _ _ _ => (pu_var 0)⟩))), fun ds Q h => ?_⟩
  obtain ⟨l, x, rfl, ok, q⟩ := h
  have hl6 := ok.len
  walk_at "pu"
  refine ⟨by rw [List.length_map, sizeLine_eq]; omega, fun i out => out = (holders (l.take i) x).map fun p => .int (p.1 : Int), rfl, ?_, ?_⟩
  · rintro i d out hd - rfl
    obtain ⟨p, hp, rfl⟩ := np_get hd
    walk_at "pu"
    refine ⟨_, .inr rfl, plain_strs _, ite2 (fun e => ?_) (fun e => ?_)⟩
    · have hx : x ∈ p.2 := mem_strs.mp e
      unfold holders
      rw [List.take_add_one, hp]
      simp [hx]
    · have hx : ¬ x ∈ p.2 := fun z => e (mem_strs.mpr z)
      unfold holders
      rw [List.take_add_one, hp]
      simp [hx]
  · rintro out - rfl
    rw [List.length_map, List.take_of_length_le (Nat.le_refl _)]
    exact q
theorem scWithin : FnScope ["_law_left", "_law_i", "_law_j", "_law_one", "_law_other"] ["_law_left", "_law_i", "_law_j"] (defScope sWithin) := ⟨rfl, rfl, rfl, by decide +kernel, rfl, by decide +kernel, by decide +kernel⟩
theorem ok_Within {f : Addr} {fd : FuncData} (F : Fun K "_law_within" "_law_within" sWithin f fd) (B : Bl mg) : FnOk P w K mg base CX0 1 f fd ["_law_left", "_law_i", "_law_j"] (spP K fWithin) := by
  refine fn_pure F scWithin (fun ds Q ⟨l, i, j, e, _⟩ => by rw [e]; rfl) (fun cdv A outer s H E hr => ?_)
  have hu : (A.deeper (envOfC "_law_within" (defScope sWithin) s.heap.objs.size f cdv)).units + 16 < cLine := by have q := hr.units; omega
  have nd := scWithin.nd
  refine ⟨_, (puss_cons (pus_comp (i := 3) (N := ["_law_k", "_law_letters", "_law_i"]) (k := 2) (js := [1]) rfl (cp_of (sup := defScope sWithin) (XN := ["_law_left", "_law_i", "_law_j", "_law_one", "_law_other"]) rfl rfl (by decide +kernel)) (by decide) (loc_tup (loc2 (by decide) (by decide))) (pui_list (pu_var 0)) ⟨fun _ _ _ _ _ => (pug_tup (n := 2) rfl (pugs_cons (pug_name (i := 0) (by show (["_law_k", "_law_letters", "_law_i"] : List Str).Nodup; decide +kernel) rfl (Or.inl rfl)) (pugs_cons (pug_name (i := 1) (by show (["_law_k", "_law_letters", "_law_i"] : List Str).Nodup; decide +kernel) rfl (Or.inl rfl)) pugs_nil))), fun _ _ _ _ _ => (puts_one (put_eq hu (pu_var 0) (pu_var 2))), fun _ _ _ _ _ => (pu_var 1)⟩ nd rfl rfl)
      (puss_cons (pus_set (i := 4) nd rfl (Or.inr rfl) (pu_comp (N := ["_law_k", "_law_letters", "_law_j"]) (k := 2) (js := [2]) rfl (cp_of (sup := defScope sWithin) (XN := ["_law_left", "_law_i", "_law_j", "_law_one", "_law_other"]) rfl rfl (by decide +kernel)) (by decide) (loc_tup (loc2 (by decide) (by decide))) (pui_list (pu_var 0)) ⟨fun _ _ _ _ _ => (pug_tup (n := 2) rfl (pugs_cons (pug_name (i := 0) (by show (["_law_k", "_law_letters", "_law_j"] : List Str).Nodup; decide +kernel) rfl (Or.inl rfl)) (pugs_cons (pug_name (i := 1) (by show (["_law_k", "_law_letters", "_law_j"] : List Str).Nodup; decide +kernel) rfl (Or.inl rfl)) pugs_nil))), fun _ _ _ _ _ => (puts_one (put_eq hu (pu_var 0) (pu_var 2))), fun _ _ _ _ _ => (pu_var 1)⟩))
      (puss_cons (pus_if (PuW.t (puw_or (put_eq hu (pu_var 1) (pu_var 2)) (puw_or (put_ne hu (pu_len rfl B.len (pua_cons (pu_var 3) pua_nil)) pu_int) (puw_or1 (put_ne hu (pu_len rfl B.len (pua_cons (pu_var 4) pua_nil)) pu_int))))) (puss_one (pus_ret pu_bl)) puss_nil)
      (puss_one (pus_ret (pu_eq hu (pu_len rfl B.len (pua_cons (pu_comp (N := ["_law_letter", "_law_other"]) (k := 1) (js := [4]) rfl (cp_of (sup := defScope sWithin) (XN := ["_law_left", "_law_i", "_law_j", "_law_one", "_law_other"]) rfl rfl (by decide +kernel)) (by decide) (loc_name (by decide)) (pui_tup (pu_item (pu_var 3) pu_int)) ⟨fun _ _ _ _ _ => (pug_name (i := 0) (by show (["_law_letter", "_law_other"] : List Str).Nodup; decide +kernel) rfl (Or.inl rfl)), fun _ _ _ _ _ => (puts_one (put_notIn hu (pu_var 0) (pu_item (pu_var 1) pu_int))), fun _ _ _ _ _ => (pu_var 0)⟩) pua_nil)) pu_int)))))), fun ds Q h => ?_⟩
  obtain ⟨l, i, j, rfl, ok, q⟩ := h
  have hl6 := ok.len
  walk_at "pu"
  refine ⟨by rw [List.length_map, sizeLine_eq]; omega, fun m out => out = (atNum (l.take m) i).map fun p => ld p.2, rfl, ?_, ?_⟩
  · rintro m d out hd - rfl
    obtain ⟨p, hp, rfl⟩ := np_get hd
    walk_at "pu"
    refine ite2 (fun e => ?_) (fun e => ?_)
    · have hx : p.1 = i := by omega
      unfold atNum
      rw [List.take_add_one, hp]
      simp [hx]
    · have hx : ¬ p.1 = i := by omega
      unfold atNum
      rw [List.take_add_one, hp]
      simp [hx]
  · rintro out - rfl
    rw [List.length_map, List.take_of_length_le (Nat.le_refl _)]
    walk_at "go"
    refine ⟨by rw [List.length_map, sizeLine_eq]; omega, fun m out => out = (atNum (l.take m) j).map fun p => ld p.2, rfl, ?_, ?_⟩
    · rintro m d out hd - rfl
      obtain ⟨p, hp, rfl⟩ := np_get hd
      walk_at "pu"
      refine ite2 (fun e => ?_) (fun e => ?_)
      · have hx : p.1 = j := by omega
        unfold atNum
        rw [List.take_add_one, hp]
        simp [hx]
      · have hx : ¬ p.1 = j := by omega
        unfold atNum
        rw [List.take_add_one, hp]
        simp [hx]
    · rintro out - rfl
      rw [List.length_map, List.take_of_length_le (Nat.le_refl _)]
      walk_at "go"
      rw [List.length_map, List.length_map]
      have no : (i = j ∨ (atNum l i).length ≠ 1 ∨ (atNum l j).length ≠ 1) → Q (.bl false) .frz := fun h => by
        unfold withinB at q
        rw [if_pos h] at q
        exact q
      refine ite2 (fun e => ?_) (fun e => ite2 (fun e2 => ?_) (fun e2 => ite2 (fun e3 => ?_) (fun e3 => ?_)))
      · walk_at "go"
        exact no (.inl (by omega))
      · walk_at "go"
        exact no (.inr (.inl (by omega)))
      · walk_at "go"
        exact no (.inr (.inr (by omega)))
      · walk_at "go"
        walk_at "go"
        have h1 : (atNum l i).length = 1 := by omega
        have h2 : (atNum l j).length = 1 := by omega
        unfold withinB at q
        rw [if_neg (by omega)] at q
        obtain ⟨p, hp⟩ := List.length_eq_one_iff.mp h1
        obtain ⟨r, hr2⟩ := List.length_eq_one_iff.mp h2
        rw [hp, hr2] at q ⊢
        have hpm : p ∈ l := (List.mem_filter.mp (show p ∈ atNum l i by rw [hp]; exact List.mem_singleton.mpr rfl)).1
        have hp4 := ok.four p hpm
        refine ⟨_, atI_nat (j := 0) rfl, _, rfl, by rw [List.length_map, sizeLine_eq]; omega, fun m out => out = ((p.2.take m).filter fun x => decide (¬ x ∈ r.2)).map PV.str, rfl, ?_, ?_⟩
        · rintro m d out hd - rfl
          obtain ⟨x, hx, rfl⟩ := str_get hd
          refine ⟨_, atI_nat (j := 0) rfl, _, .inr rfl, rfl, plain_strs _, ite2 (fun e => ?_) (fun e => ?_)⟩
          · have hxr : ¬ x ∈ r.2 := fun z => e (mem_strs.mpr z)
            show _ = _
            rw [List.take_add_one, hx]
            simp [hxr]
          · have hxr : x ∈ r.2 := Decidable.by_contra fun z => e fun y => z (mem_strs.mp y)
            show _ = _
            rw [List.take_add_one, hx]
            simp [hxr]
        · rintro out - rfl
          rw [List.length_map, List.length_map, List.take_of_length_le (Nat.le_refl _)]
          have e5 : ((List.filter (fun x => decide (¬ x ∈ (List.map (fun x => x.snd) [r]).getD 0 [])) ((List.map (fun x => x.snd) [p]).getD 0 [])).length == 0) = decide ((((p.2.filter fun x => decide (¬ x ∈ r.2)).length : Nat) : Int) = 0) := by
            show ((p.2.filter fun x => decide (¬ x ∈ r.2)).length == 0) = _
            rw [Bool.eq_iff_iff, beq_iff_eq, decide_eq_true_iff]
            omega
          rw [e5] at q
          exact q
end
end Q11
set_option Elab.async false
set_option linter.all false
set_option maxRecDepth 100000
set_option maxHeartbeats 4000000
namespace Q11
open PySem PySem.Spec L2 PL
open PyProof.Rows hiding St
def stepped (l : Left) : Stp → Option Left
  | .letter x => if (holders l x).length = 1 then some (l.map fun p => (p.1, p.2.filter fun y => decide (y ≠ x))) else none
  | .pattern i j => if withinB l i j = true then some (l.filter fun p => decide (p.1 ≠ i)) else none
def fStepped : PF := fun ds Q => ∃ (l : Left) (s : Stp), ds = [lp l, stp s] ∧ LeftOk l ∧ match stepped l s with
  | none => Q .non .frz
  | some l' => Q (lp l') .new
theorem mono_Stepped : MonoF fStepped := fun ds Q Q' m ⟨l, s, e, h, q⟩ => ⟨l, s, e, h, by
  cases hs : stepped l s with
  | none => rw [hs] at q; exact m _ _ q
  | some l' => rw [hs] at q; exact m _ _ q⟩
def stuckB (l : Left) : Bool := (l.all fun p => (p.2.all fun x => (holders l x).length != 1) && l.all fun q => !withinB l p.1 q.1) && decide (1 < l.length)
def fStuck : PF := fun ds Q => ∃ l : Left, ds = [lp l] ∧ LeftOk l ∧ Q (.bl (stuckB l)) .frz
theorem mono_Stuck : MonoF fStuck := fun ds Q Q' m ⟨l, e, h, q⟩ => ⟨l, e, h, m _ _ q⟩
local macro_rules | `(tactic| walk_at "pu") => `(tactic| simp only [pSeq, pSet, pRet, pRetN, pIf, pDrop, pNext, pBreak, pCont, pDropM, pSetM, mApp, mAppM, mPopAt, mExtT, pUnp, gNameP, gNilP, gConsP, gTupP, t2, i0, i2, pVar, pC, pCons, pNil, pTup, pLst, noOwn, isOwn, tBl, tAndP, tOrP, tNotP, tTru, tTrue, TruP, tNotE, tAndE, tOrE, tIfE, pEq, pIn, pIsN, pIx, pCat, PL.tB, fLen, LenP, fList, fTuple, fSortS, fIsi, tCallP, pSortSet, pJoin, pSlL, pRev, oNone, oSome, pComp, iRange1, iRange2, iLst, iTupl, pDG, pDI, tOrT, pChain, fMax2, fMin2, fMin3, fAll, fListS, fListD, pDictEnum, pSlS, pSetIx, pPutIx, mDPop, iDic, pCompD, pFor, pWhile, PL.plain, startP, retOut, blkP, List.map_cons, List.map_nil, List.length_cons, List.length_nil, List.cons_append, List.nil_append, List.replicate, List.getElem?_cons_zero, List.getElem?_cons_succ, List.getElem?_nil, Option.getD_some, Option.getD_none, List.set_cons_zero, List.set_cons_succ, List.cons.injEq,
  Option.some.injEq, Prod.mk.injEq, PV.int.injEq, PV.bl.injEq, PV.str.injEq, PV.lst.injEq, PV.tup.injEq, PV.ty.injEq, PV.dK.injEq, exists_eq_left', exists_eq_left, exists_eq', exists_eq, exists_and_left, exists_and_right, exists_eq_right, true_and, and_true, reduceCtorEq, false_and, and_false, false_or, or_false, exists_false, exists_const, Bool.false_eq_true, if_true, if_false, and_assoc, ite_true, ite_false, Bool.not_eq_true', decide_eq_true_eq, decide_eq_false_iff_not, Bool.not_false, Bool.not_true, true_or, or_true, not_true_eq_false, not_false_eq_true, Bool.and_eq_true, Nat.zero_add, Nat.sub_self, Nat.reduceAdd, Nat.reduceSub, implies_true, ne_eq, noMutR, noMut, noMutL, Bool.true_and, Bool.and_true, List.all_nil, fWhole, fHolders, fWithin, lp, np])
local macro_rules | `(tactic| walk_at "go") => `(tactic| ((first | (with_reducible refine hold ?_) | (with_reducible refine holdT ?_)); walk_at "pu"))
local macro_rules | `(tactic| walk_at "side") => `(tactic| first | assumption | decide | omega | exact ⟨by decide, by decide⟩ | exact ⟨by decide, by decide, by decide⟩ | exact Or.inl ⟨by omega, by omega⟩ | exact Or.inr ⟨by omega, by omega⟩)
local macro_rules | `(tactic| walk_at "auto") => `(tactic| repeat (first | ((with_reducible refine hold ?_); walk_at "pu") | ((with_reducible refine holdT ?_); walk_at "pu") | ((with_reducible refine And.intro ?_ ?_); (· walk_at "side"))))
section
variable {P : Program} {w : World} {K : PySem.W.Frag} {mg : Str → Option Value} {base : Heap}
theorem scStuck : FnScope ["_law_left", "_law_i", "_law_letters", "_law_letter", "_law_j", "_law_others"] ["_law_left"] (defScope sStuck) := ⟨rfl, rfl, rfl, by decide +kernel, rfl, by decide +kernel, by decide +kernel⟩
theorem ok_Stuck {f f1 f2 : Addr} {fd fd1 fd2 : FuncData} (F : Fun K "_law_stuck" "_law_stuck" sStuck f fd) (Holders : Fx K mg "_law_holders" sHolders ["_law_left", "_law_letter"] f1 fd1) (Within : Fx K mg "_law_within" sWithin ["_law_left", "_law_i", "_law_j"] f2 fd2) (B : Bl mg) : FnOk P w K mg base CX0 2 f fd ["_law_left"] (spP K fStuck) := by
  have GHolders : FnOk P w K mg base CX0 1 f1 fd1 ["_law_left", "_law_letter"] (spP K fHolders) := ok_Holders Holders.fn B
  have GWithin : FnOk P w K mg base CX0 1 f2 fd2 ["_law_left", "_law_i", "_law_j"] (spP K fWithin) := ok_Within Within.fn B
  refine fn_pure F scStuck (fun ds Q ⟨l, e, _⟩ => by rw [e]; rfl) (fun cdv A outer s H E hr => ?_)
  have hu : (A.deeper (envOfC "_law_stuck" (defScope sStuck) s.heap.objs.size f cdv)).units + 16 < cLine := by have q := hr.units; omega
  have nd := scStuck.nd
  refine ⟨_, (puss_cons (pus_for rfl PassesOwn.never (pui_list (pu_var 0)) (pug_tup (n := 2) rfl (pugs_cons (pug_name (i := 1) nd rfl (Or.inl rfl)) (pugs_cons (pug_name (i := 2) nd rfl (Or.inl rfl)) pugs_nil))) (puss_cons (pus_for rfl PassesOwn.never (pui_tup (pu_var 2)) (pug_name (i := 3) nd rfl (Or.inl rfl)) (puss_one (pus_if (put_eq hu (pu_len rfl B.len (pua_cons (pu_call GHolders mono_Holders hr rfl Holders.mg Holders.fn.kp Holders.bd (pua_cons (pu_var 0) (pua_cons (pu_var 3) pua_nil))) pua_nil)) pu_int) (puss_one (pus_ret pu_bl)) puss_nil)))
      (puss_one (pus_for rfl PassesOwn.never (pui_list (pu_var 0)) (pug_tup (n := 2) rfl (pugs_cons (pug_name (i := 4) nd rfl (Or.inl rfl)) (pugs_cons (pug_name (i := 5) nd rfl (Or.inl rfl)) pugs_nil))) (puss_one (pus_if (put_tru (pu_call GWithin mono_Within hr rfl Within.mg Within.fn.kp Within.bd (pua_cons (pu_var 0) (pua_cons (pu_var 1) (pua_cons (pu_var 4) pua_nil))))) (puss_one (pus_ret pu_bl)) puss_nil))))))
      (puss_one (pus_ret (pu_gt (pu_len rfl B.len (pua_cons (pu_var 0) pua_nil)) pu_int)))), fun ds Q h => ?_⟩
  obtain ⟨l, rfl, ok, q⟩ := h
  have hl6 := ok.len
  walk_at "pu"
  obtain ⟨Iv, hIv⟩ : ∃ Iv : Nat → PEnv → Prop, ∀ i ρ, Iv i ρ ↔ ∃ (k1 k2 k3 k4 k5 : Option (PV × Bool)), ρ = [some (PV.lst (l.map np), false), k1, k2, k3, k4, k5] ∧ ∀ p ∈ l.take i, (p.2.all fun x => (holders l x).length != 1) = true ∧ (l.all fun q => !withinB l p.1 q.1) = true := ⟨_, fun _ _ => Iff.rfl⟩
  refine ⟨Iv, (hIv _ _).mpr ⟨none, none, none, none, none, rfl, fun x hx => by simp at hx⟩, ?_, ?_⟩
  · intro i d ρ hd hI
    obtain ⟨k1, k2, k3, k4, k5, rfl, hno⟩ := (hIv _ _).mp hI
    obtain ⟨p, hp, rfl⟩ := np_get hd
    have hpm := List.mem_of_getElem? hp
    have bad : ¬ ((p.2.all fun x => (holders l x).length != 1) = true ∧ (l.all fun q => !withinB l p.1 q.1) = true) → Q (.bl false) .frz := fun hb => by
      have : stuckB l = false := by
        unfold stuckB
        rw [Bool.and_eq_false_iff]
        left
        rw [Bool.eq_false_iff]
        intro h
        rw [List.all_eq_true] at h
        have := h p hpm
        rw [Bool.and_eq_true] at this
        exact hb this
      rw [this] at q
      exact q
    walk_at "pu"
    walk_at "go"
    obtain ⟨Jv, hJv⟩ : ∃ Jv : Nat → PEnv → Prop, ∀ j ρ, Jv j ρ ↔ ∃ (k3 k4 k5 : Option (PV × Bool)), ρ = [some (PV.lst (l.map np), false), some (PV.int (p.1 : Int), false), some (ld p.2, false), k3, k4, k5] ∧ ∀ x ∈ p.2.take j, ((holders l x).length != 1) = true := ⟨_, fun _ _ => Iff.rfl⟩
    refine ⟨_, rfl, Jv, (hJv _ _).mpr ⟨k3, k4, k5, rfl, fun x hx => by simp at hx⟩, ?_, ?_⟩
    · intro j d ρ hd hJ
      obtain ⟨k3, k4, k5, rfl, hnj⟩ := (hJv _ _).mp hJ
      obtain ⟨x, hx, rfl⟩ := str_get hd
      walk_at "go"
      refine ⟨l, rfl, ok, ?_⟩
      rw [List.length_map]
      refine ite2 (fun e => ?_) (fun e => ?_)
      · walk_at "go"
        refine bad fun h => ?_
        have := List.all_eq_true.mp h.1 x (List.mem_of_getElem? hx)
        rw [bne_iff_ne] at this
        omega
      · walk_at "go"
        refine (hJv _ _).mpr ⟨_, _, _, rfl, fun y hy => ?_⟩
        rw [List.take_add_one, hx] at hy
        rcases List.mem_append.mp hy with hy | hy
        · exact hnj y hy
        · simp at hy
          subst hy
          rw [bne_iff_ne]
          omega
    · intro ρ hJ
      obtain ⟨k3, k4, k5, rfl, hnj⟩ := (hJv _ _).mp hJ
      rw [List.length_map, List.take_of_length_le (Nat.le_refl _)] at hnj
      walk_at "go"
      obtain ⟨Lv, hLv⟩ : ∃ Lv : Nat → PEnv → Prop, ∀ j ρ, Lv j ρ ↔ ∃ (k4 k5 : Option (PV × Bool)), ρ = [some (PV.lst (l.map np), false), some (PV.int (p.1 : Int), false), some (ld p.2, false), k3, k4, k5] ∧ ∀ q ∈ l.take j, (!withinB l p.1 q.1) = true := ⟨_, fun _ _ => Iff.rfl⟩
      refine ⟨Lv, (hLv _ _).mpr ⟨k4, k5, rfl, fun x hx => by simp at hx⟩, ?_, ?_⟩
      · intro j d ρ hd hL
        obtain ⟨k4, k5, rfl, hnl⟩ := (hLv _ _).mp hL
        obtain ⟨r, hr2, rfl⟩ := np_get hd
        walk_at "pu"
        walk_at "go"
        refine ⟨l, rfl, p.1, rfl, r.1, rfl, ok, ite2 (fun e => ?_) (fun e => ?_)⟩
        · walk_at "go"
          refine bad fun h => ?_
          have := List.all_eq_true.mp h.2 r (List.mem_of_getElem? hr2)
          rw [e] at this
          cases this
        · walk_at "go"
          refine (hLv _ _).mpr ⟨_, _, rfl, fun y hy => ?_⟩
          rw [List.take_add_one, hr2] at hy
          rcases List.mem_append.mp hy with hy | hy
          · exact hnl y hy
          · simp at hy
            subst hy
            rw [Bool.eq_false_iff.mpr e]; rfl
      · intro ρ hL
        obtain ⟨k4, k5, rfl, hnl⟩ := (hLv _ _).mp hL
        rw [List.length_map, List.take_of_length_le (Nat.le_refl _)] at hnl
        refine (hIv _ _).mpr ⟨_, _, _, _, _, rfl, fun y hy => ?_⟩
        rw [List.take_add_one, hp] at hy
        rcases List.mem_append.mp hy with hy | hy
        · exact hno y hy
        · simp at hy
          subst hy
          exact ⟨List.all_eq_true.mpr hnj, List.all_eq_true.mpr hnl⟩
  · intro ρ hI
    obtain ⟨k1, k2, k3, k4, k5, rfl, hno⟩ := (hIv _ _).mp hI
    walk_at "go"
    rw [List.length_map, List.take_of_length_le (Nat.le_refl _)] at hno
    have : stuckB l = decide ((1 : Int) < (l.length : Int)) := by
      unfold stuckB
      have h1 : (l.all fun p => (p.2.all fun x => (holders l x).length != 1) && l.all fun q => !withinB l p.1 q.1) = true := by
        rw [List.all_eq_true]
        intro p hp
        rw [Bool.and_eq_true]
        exact hno p hp
      rw [h1, Bool.true_and, Bool.eq_iff_iff, decide_eq_true_iff, decide_eq_true_iff]
      omega
    rw [this] at q
    rw [List.length_map]
    exact q
end
end Q11
set_option Elab.async false
set_option linter.all false
set_option maxRecDepth 100000
set_option maxHeartbeats 4000000
namespace Q11
open PySem PySem.Spec L2 PL
open PyProof.Rows hiding St
local macro_rules | `(tactic| walk_at "pu") => `(tactic| simp only [pSeq, pSet, pRet, pRetN, pIf, pDrop, pNext, pBreak, pCont, pDropM, pSetM, mApp, mAppM, mPopAt, mExtT, pUnp, gNameP, gNilP, gConsP, gTupP, t2, i0, i2, pVar, pC, pCons, pNil, pTup, pLst, noOwn, isOwn, tBl, tAndP, tOrP, tNotP, tTru, tTrue, TruP, tNotE, tAndE, tOrE, tIfE, pEq, pIn, pIsN, pIx, pCat, PL.tB, fLen, LenP, fList, fTuple, fSortS, fIsi, tCallP, pSortSet, pJoin, pSlL, pRev, oNone, oSome, pComp, iRange1, iRange2, iLst, iTupl, pDG, pDI, tOrT, pChain, fMax2, fMin2, fMin3, fAll, fListS, fListD, pDictEnum, pSlS, pSetIx, pPutIx, mDPop, iDic, pCompD, pFor, pWhile, PL.plain, startP, retOut, blkP, List.map_cons, List.map_nil, List.length_cons, List.length_nil, List.cons_append, List.nil_append, List.replicate, List.getElem?_cons_zero, List.getElem?_cons_succ, List.getElem?_nil, Option.getD_some, Option.getD_none, List.set_cons_zero, List.set_cons_succ, List.cons.injEq,
  Option.some.injEq, Prod.mk.injEq, PV.int.injEq, PV.bl.injEq, PV.str.injEq, PV.lst.injEq, PV.tup.injEq, PV.ty.injEq, PV.dK.injEq, exists_eq_left', exists_eq_left, exists_eq', exists_eq, exists_and_left, exists_and_right, exists_eq_right, true_and, and_true, reduceCtorEq, false_and, and_false, false_or, or_false, exists_false, exists_const, Bool.false_eq_true, if_true, if_false, and_assoc, ite_true, ite_false, Bool.not_eq_true', decide_eq_true_eq, decide_eq_false_iff_not, Bool.not_false, Bool.not_true, true_or, or_true, not_true_eq_false, not_false_eq_true, Bool.and_eq_true, Nat.zero_add, Nat.sub_self, Nat.reduceAdd, Nat.reduceSub, implies_true, ne_eq, noMutR, noMut, noMutL, Bool.true_and, Bool.and_true, List.all_nil, fWhole, fHolders, fWithin, lp, np])
local macro_rules | `(tactic| walk_at "go") => `(tactic| ((first | (with_reducible refine hold ?_) | (with_reducible refine holdT ?_)); walk_at "pu"))
local macro_rules | `(tactic| walk_at "side") => `(tactic| first | assumption | decide | omega | exact ⟨by decide, by decide⟩ | exact ⟨by decide, by decide, by decide⟩ | exact Or.inl ⟨by omega, by omega⟩ | exact Or.inr ⟨by omega, by omega⟩)
local macro_rules | `(tactic| walk_at "auto") => `(tactic| repeat (first | ((with_reducible refine hold ?_); walk_at "pu") | ((with_reducible refine holdT ?_); walk_at "pu") | ((with_reducible refine And.intro ?_ ?_); (· walk_at "side"))))
section
variable {P : Program} {w : World} {K : PySem.W.Frag} {mg : Str → Option Value} {base : Heap}
theorem scStepped : FnScope ["_law_left", "_law_step"] ["_law_left", "_law_step"] (defScope sStepped) := ⟨rfl, rfl, rfl, by decide +kernel, rfl, by decide +kernel, by decide +kernel⟩
theorem ok_Stepped {f f1 f2 f3 : Addr} {fd fd1 fd2 fd3 : FuncData} (F : Fun K "_law_stepped" "_law_stepped" sStepped f fd) (Holders : Fx K mg "_law_holders" sHolders ["_law_left", "_law_letter"] f1 fd1) (Within : Fx K mg "_law_within" sWithin ["_law_left", "_law_i", "_law_j"] f2 fd2) (Whole : Fx K mg "_law_whole" sWhole ["_law_found"] f3 fd3) (B : Bl mg) : FnOk P w K mg base CX0 2 f fd ["_law_left", "_law_step"] (spP K fStepped) := by
  have GHolders : FnOk P w K mg base CX0 1 f1 fd1 ["_law_left", "_law_letter"] (spP K fHolders) := ok_Holders Holders.fn B
  have GWithin : FnOk P w K mg base CX0 1 f2 fd2 ["_law_left", "_law_i", "_law_j"] (spP K fWithin) := ok_Within Within.fn B
  have GWhole : FnOk P w K mg base CX0 1 f3 fd3 ["_law_found"] (spP K fWhole) := ok_Whole Whole.fn B
  refine fn_pure F scStepped (fun ds Q ⟨l, s, e, _⟩ => by rw [e]; rfl) (fun cdv A outer s H E hr => ?_)
  have hu : (A.deeper (envOfC "_law_stepped" (defScope sStepped) s.heap.objs.size f cdv)).units + 16 < cLine := by have q := hr.units; omega
  have nd := scStepped.nd
  refine ⟨_, (puss_cons (pus_if (PuW.t (puw_or (put_not (put_tru (pu_isi (K := K) rfl rfl B.isi (pua_cons (pu_var 1) (pua_cons (pu_ty rfl B.tuple bTuple) pua_nil))))) (puw_or (put_lt (pu_len rfl B.len (pua_cons (pu_var 1) pua_nil)) pu_int) (puw_or1 (put_not (put_tru (pu_isi (K := K) rfl rfl B.isi (pua_cons (pu_item (pu_var 1) pu_int) (pua_cons (pu_ty rfl B.str bStr) pua_nil))))))))) (puss_one (pus_ret pu_non)) puss_nil)
      (puss_cons (pus_if (PuW.t (puw_and (put_eq hu (pu_item (pu_var 1) pu_int) pu_str) (puw_and (put_eq hu (pu_len rfl B.len (pua_cons (pu_var 1) pua_nil)) pu_int) (puw_and1 (put_tru (pu_isi (K := K) rfl rfl B.isi (pua_cons (pu_item (pu_var 1) pu_int) (pua_cons (pu_ty rfl B.str bStr) pua_nil)))))))) (puss_cons (pus_if (put_ne hu (pu_len rfl B.len (pua_cons (pu_call GHolders mono_Holders hr rfl Holders.mg Holders.fn.kp Holders.bd (pua_cons (pu_var 0) (pua_cons (pu_item (pu_var 1) pu_int) pua_nil))) pua_nil)) pu_int) (puss_one (pus_ret pu_non)) puss_nil)
      (puss_one (pus_ret (pu_comp (N := ["_law_i", "_law_letters", "_law_step"]) (k := 2) (js := [1]) rfl (cp_of (sup := defScope sStepped) (XN := ["_law_left", "_law_step"]) rfl rfl (by decide +kernel)) (by decide) (loc_tup (loc2 (by decide) (by decide))) (pui_list (pu_var 0)) ⟨fun _ _ _ _ _ => (pug_tup (n := 2) rfl (pugs_cons (pug_name (i := 0) (by show (["_law_i", "_law_letters", "_law_step"] : List Str).Nodup; decide +kernel) rfl (Or.inl rfl)) (pugs_cons (pug_name (i := 1) (by show (["_law_i", "_law_letters", "_law_step"] : List Str).Nodup; decide +kernel) rfl (Or.inl rfl)) pugs_nil))), fun _ _ _ _ _ => puts_nil, fun _ _ _ _ _ => (pu_tup (pua_cons (pu_var 0) (pua_cons (pu_tuple rfl B.tuple (pua_cons (pu_comp (N := ["_law_letter", "_law_step"]) (k := 1) (js := [2]) rfl (cp_of (sup := relabS ⟨.function, [(".0", .local), ("_law_i", .local), ("_law_letters", .local), ("tuple", .globalImplicit), ("_law_step", .free)], false, false, []⟩ (defScope sStepped)) (XN := ["_law_i", "_law_letters", "_law_step"]) rfl rfl (by decide +kernel)) (by decide) (loc_name (by decide)) (pui_tup (pu_var 1)) ⟨fun _ _ _ _ _ => (pug_name (i := 0) (by show (["_law_letter", "_law_step"] : List Str).Nodup; decide +kernel) rfl (Or.inl rfl)), fun _ _ _ _ _ => (puts_one (put_ne hu (pu_var 0) (pu_item (pu_var 1) pu_int))), fun _ _ _ _ _ => (pu_var 0)⟩) pua_nil)) pua_nil)))⟩)))) puss_nil)
      (puss_cons (pus_if (PuW.t (puw_or (put_ne hu (pu_item (pu_var 1) pu_int) pu_str) (puw_or (put_ne hu (pu_len rfl B.len (pua_cons (pu_var 1) pua_nil)) pu_int) (puw_or (put_not (put_tru (pu_call GWhole mono_Whole hr rfl Whole.mg Whole.fn.kp Whole.bd (pua_cons (pu_item (pu_var 1) pu_int) pua_nil)))) (puw_or1 (put_not (put_tru (pu_call GWhole mono_Whole hr rfl Whole.mg Whole.fn.kp Whole.bd (pua_cons (pu_item (pu_var 1) pu_int) pua_nil))))))))) (puss_one (pus_ret pu_non)) puss_nil)
      (puss_cons (pus_if (put_not (put_tru (pu_call GWithin mono_Within hr rfl Within.mg Within.fn.kp Within.bd (pua_cons (pu_var 0) (pua_cons (pu_item (pu_var 1) pu_int) (pua_cons (pu_item (pu_var 1) pu_int) pua_nil)))))) (puss_one (pus_ret pu_non)) puss_nil)
      (puss_one (pus_ret (pu_comp (N := ["_law_i", "_law_letters", "_law_step"]) (k := 2) (js := [1]) rfl (cp_of (sup := defScope sStepped) (XN := ["_law_left", "_law_step"]) rfl rfl (by decide +kernel)) (by decide) (loc_tup (loc2 (by decide) (by decide))) (pui_list (pu_var 0)) ⟨fun _ _ _ _ _ => (pug_tup (n := 2) rfl (pugs_cons (pug_name (i := 0) (by show (["_law_i", "_law_letters", "_law_step"] : List Str).Nodup; decide +kernel) rfl (Or.inl rfl)) (pugs_cons (pug_name (i := 1) (by show (["_law_i", "_law_letters", "_law_step"] : List Str).Nodup; decide +kernel) rfl (Or.inl rfl)) pugs_nil))), fun _ _ _ _ _ => (puts_one (put_ne hu (pu_var 0) (pu_item (pu_var 2) pu_int))), fun _ _ _ _ _ => (pu_tup (pua_cons (pu_var 0) (pua_cons (pu_var 1) pua_nil)))⟩))))))), fun ds Q h => ?_⟩
  obtain ⟨l, st, rfl, ok, q⟩ := h
  have hl6 := ok.len
  cases st with
  | letter x =>
    simp only [stp]
    walk_at "pu"
    refine ⟨true, kit_same, ?_⟩
    rw [if_neg (by decide), if_neg (by decide)]
    refine ⟨_, atI_nat (j := 0) rfl, (fun n z => nomatch z), true, kit_same, ?_⟩
    rw [if_neg (by decide)]
    walk_at "go"
    walk_at "go"
    refine ⟨_, atI_nat (j := 0) rfl, rfl, ?_⟩
    rw [if_pos rfl, if_pos (by decide)]
    refine ⟨_, atI_nat (j := 1) rfl, (fun n z => nomatch z), true, kit_same, ?_⟩
    rw [if_pos rfl]
    walk_at "go"
    refine ⟨_, atI_nat (j := 1) rfl, l, rfl, x, rfl, ok, ?_⟩
    rw [List.length_map]
    refine ite2 (fun e => ?_) (fun e => ?_)
    · walk_at "go"
      simp only [stepped] at q
      rw [if_neg (by omega)] at q
      exact q
    · simp only [stepped] at q
      rw [if_pos (by omega)] at q
      walk_at "go"
      walk_at "go"
      refine ⟨by rw [List.length_map, sizeLine_eq]; omega, fun m out => out = ((l.take m).map fun p => (p.1, p.2.filter fun y => decide (y ≠ x))).map np, rfl, ?_, ?_⟩
      · rintro m d out hd - rfl
        obtain ⟨p, hp, rfl⟩ := np_get hd
        have hp4 := ok.four p (List.mem_of_getElem? hp)
        walk_at "pu"
        refine ⟨_, rfl, by rw [List.length_map, sizeLine_eq]; omega, fun m out => out = ((p.2.take m).filter fun y => decide (y ≠ x)).map PV.str, rfl, ?_, ?_⟩
        · rintro m d out hd - rfl
          obtain ⟨y, hy, rfl⟩ := str_get hd
          refine ⟨_, atI_nat (j := 1) rfl, rfl, rfl, ite2 (fun e => ?_) (fun e => ?_)⟩
          · have hyx : y ≠ x := fun z => e (by rw [z])
            show _ = _
            rw [List.take_add_one, hy]
            simp [hyx]
          · have hyx : y = x := Decidable.by_contra fun z => e fun w => z (by injection w)
            show _ = _
            rw [List.take_add_one, hy]
            simp [hyx]
        · rintro out - rfl
          refine ⟨by decide, ?_⟩
          rw [List.length_map, List.take_of_length_le (Nat.le_refl _), List.take_add_one, hp]
          simp [np, ld]
      · rintro out - rfl
        rw [List.length_map, List.take_of_length_le (Nat.le_refl _)]
        exact q
  | pattern i j =>
    simp only [stp]
    walk_at "pu"
    refine ⟨true, kit_same, ?_⟩
    rw [if_neg (by decide), if_neg (by decide)]
    refine ⟨_, atI_nat (j := 0) rfl, (fun n z => nomatch z), true, kit_same, ?_⟩
    rw [if_neg (by decide)]
    walk_at "go"
    walk_at "go"
    refine ⟨_, atI_nat (j := 0) rfl, rfl, ?_⟩
    rw [if_neg (fun z => by injection z with z; exact absurd z (by decide +kernel))]
    walk_at "go"
    walk_at "go"
    refine ⟨_, atI_nat (j := 0) rfl, rfl, ?_⟩
    rw [if_neg (fun z => z rfl), if_neg (by decide)]
    refine ⟨_, atI_nat (j := 1) rfl, ⟨_, rfl⟩, _, atI_nat (j := 2) rfl, ⟨_, rfl⟩, ?_⟩
    walk_at "go"
    walk_at "go"
    simp only [stepped] at q
    refine ⟨_, atI_nat (j := 1) rfl, _, atI_nat (j := 2) rfl, l, rfl, i, rfl, j, rfl, ok, ite2 (fun e => ?_) (fun e => ?_)⟩
    · walk_at "go"
      rw [if_neg (by rw [e]; decide)] at q
      exact q
    · rw [if_pos (by simpa using e)] at q
      walk_at "go"
      walk_at "go"
      refine ⟨by rw [List.length_map, sizeLine_eq]; omega, fun m out => out = ((l.take m).filter fun p => decide (p.1 ≠ i)).map np, rfl, ?_, ?_⟩
      · rintro m d out hd - rfl
        obtain ⟨p, hp, rfl⟩ := np_get hd
        walk_at "pu"
        refine ⟨_, atI_nat (j := 1) rfl, rfl, ite2 (fun e => ⟨by decide, ?_⟩) (fun e => ?_)⟩
        · have hpi : ¬ p.1 = i := fun z => e (by rw [z])
          rw [List.take_add_one, hp]
          simp [hpi, np]
        · have hpi : p.1 = i := Decidable.by_contra fun z => e fun w => z (by injection w with w; omega)
          rw [List.take_add_one, hp]
          simp [hpi]
      · rintro out - rfl
        rw [List.length_map, List.take_of_length_le (Nat.le_refl _)]
        exact q
end
end Q11
set_option Elab.async false
set_option linter.all false
set_option maxRecDepth 100000
set_option maxHeartbeats 4000000
namespace Q11
open PySem PySem.Spec L2 PL
open PyProof.Rows hiding St
def fShape : PF := fun ds Q => ∃ (h : Int) (cs : List Int), ds = [.int h, .lst (cs.map PV.int)] ∧ cs.length ≤ 6 ∧ ∀ sh k, Pats (sixOf (alphaN h)) cs.length sh → (k = .frz ∨ k = .new) → Q (.lst (sh.map ld)) k
theorem mono_Shape : MonoF fShape := fun ds Q Q' m ⟨h, cs, e, h1, q⟩ => ⟨h, cs, e, h1, fun sh k a b => m _ _ (q sh k a b)⟩
def upN (ps : List (Option Nat)) : Nat → Nat → Nat
  | 0, k => k
  | m + 1, k => match ps.getD (upN ps m k) none with
    | some j => j
    | none => upN ps m k
def topAt (sh : List (List Str)) (ps : List (Option Nat)) (x : Str) (k : Nat) : Bool := decide (x ∈ sh.getD k []) && match ps.getD k none with
  | none => true
  | some j => decide (¬ x ∈ sh.getD j [])
structure JoinTree (sh : List (List Str)) (ps : List (Option Nat)) : Prop where
  len : ps.length = sh.length
  one : (ps.filter fun o => o.isNone).length = 1
  rng : ∀ k j : Nat, ps[k]? = some (some j) → j < sh.length ∧ j ≠ k
  up : ∀ k : Nat, k < sh.length → ps[upN ps sh.length k]? = some none
  tops : ∀ p ∈ sh, ∀ x ∈ p, ((List.range sh.length).filter (topAt sh ps x)).length = 1
def fIsTree : PF := fun ds Q => ∃ (sh : List (List Str)) (ps : List (Option Nat)), ds = [.lst (sh.map ld), .lst (ps.map optP)] ∧ sh.length ≤ 6 ∧ JoinTree sh ps ∧ Q (.bl true) .frz
theorem mono_IsTree : MonoF fIsTree := fun ds Q Q' m ⟨sh, ps, e, h1, h2, q⟩ => ⟨sh, ps, e, h1, h2, m _ _ q⟩
local macro_rules | `(tactic| walk_at "pu") => `(tactic| simp only [pSeq, pSet, pRet, pRetN, pIf, pDrop, pNext, pBreak, pCont, pDropM, pSetM, mApp, mAppM, mPopAt, mExtT, pUnp, gNameP, gNilP, gConsP, gTupP, t2, i0, i2, pVar, pC, pCons, pNil, pTup, pLst, noOwn, isOwn, tBl, tAndP, tOrP, tNotP, tTru, tTrue, TruP, tNotE, tAndE, tOrE, tIfE, pEq, pIn, pIsN, pIx, pCat, PL.tB, fLen, LenP, fList, fTuple, fSortS, fIsi, tCallP, pSortSet, pJoin, pSlL, pRev, oNone, oSome, pComp, iRange1, iRange2, iLst, iTupl, pDG, pDI, tOrT, pChain, fMax2, fMin2, fMin3, fAll, fListS, fListD, pDictEnum, pSlS, pSetIx, pPutIx, mDPop, iDic, pCompD, pFor, pWhile, PL.plain, startP, retOut, blkP, List.map_cons, List.map_nil, List.length_cons, List.length_nil, List.cons_append, List.nil_append, List.replicate, List.getElem?_cons_zero, List.getElem?_cons_succ, List.getElem?_nil, Option.getD_some, Option.getD_none, List.set_cons_zero, List.set_cons_succ, List.cons.injEq,
  Option.some.injEq, Prod.mk.injEq, PV.int.injEq, PV.bl.injEq, PV.str.injEq, PV.lst.injEq, PV.tup.injEq, PV.ty.injEq, PV.dK.injEq, exists_eq_left', exists_eq_left, exists_eq', exists_eq, exists_and_left, exists_and_right, exists_eq_right, true_and, and_true, reduceCtorEq, false_and, and_false, false_or, or_false, exists_false, exists_const, Bool.false_eq_true, if_true, if_false, and_assoc, ite_true, ite_false, Bool.not_eq_true', decide_eq_true_eq, decide_eq_false_iff_not, Bool.not_false, Bool.not_true, true_or, or_true, not_true_eq_false, not_false_eq_true, Bool.and_eq_true, Nat.zero_add, Nat.sub_self, Nat.reduceAdd, Nat.reduceSub, implies_true, ne_eq, noMutR, noMut, noMutL, Bool.true_and, Bool.and_true, List.all_nil, fAlphabet, fAny, fRing, fTree, fWhole, pFrz, frzAt])
local macro_rules | `(tactic| walk_at "go") => `(tactic| ((first | (with_reducible refine hold ?_) | (with_reducible refine holdT ?_)); walk_at "pu"))
local macro_rules | `(tactic| walk_at "side") => `(tactic| first | assumption | decide | omega | exact ⟨by decide, by decide⟩ | exact ⟨by decide, by decide, by decide⟩ | exact Or.inl ⟨by omega, by omega⟩ | exact Or.inr ⟨by omega, by omega⟩)
local macro_rules | `(tactic| walk_at "auto") => `(tactic| repeat (first | ((with_reducible refine hold ?_); walk_at "pu") | ((with_reducible refine holdT ?_); walk_at "pu") | ((with_reducible refine And.intro ?_ ?_); (· walk_at "side"))))
section
variable {P : Program} {w : World} {K : PySem.W.Frag} {mg : Str → Option Value} {base : Heap}
theorem opt_get {ps : List (Option Nat)} {m : Nat} {d : PV} (hd : (ps.map optP)[m]? = some d) : ∃ o, ps[m]? = some o ∧ d = optP o := by
  rw [List.getElem?_map] at hd
  cases hq : ps[m]? with
  | none => rw [hq] at hd; cases hd
  | some p => rw [hq] at hd; cases hd; exact ⟨p, rfl, rfl⟩
theorem opt_at {ps : List (Option Nat)} {m : Nat} {o : Option Nat} {i : Int} (h : ps[m]? = some o) (hi : i = m) : atI (ps.map optP) i = some (optP o) := by
  subst hi; exact atI_nat (by rw [List.getElem?_map, h]; rfl)
theorem optP_non {o : Option Nat} : optP o = .non ↔ o = none := by cases o <;> simp [optP]
theorem scShape : FnScope ["_law_head", "_law_cells", "_law_letters"] ["_law_head", "_law_cells"] (defScope sShape) := ⟨rfl, rfl, rfl, by decide +kernel, rfl, by decide +kernel, by decide +kernel⟩
theorem ok_Shape {f f1 f2 f3 f4 f5 f6 : Addr} {fd fd1 fd2 fd3 fd4 fd5 fd6 : FuncData} (F : Fun K "_law_shape" "_law_shape" sShape f fd) (Mixed : Fx K mg "_law_mixed" sMixed ["_law_cell", "_law_k"] f1 fd1) (Picked : Fx K mg "_law_picked" sPicked ["_law_cell", "_law_some", "_law_many"] f2 fd2)
    (Alphabet : Fx K mg "_law_alphabet" sAlphabet ["_law_cell"] f3 fd3) (Any : Fx K mg "_law_any" sAny ["_law_cells", "_law_letters"] f4 fd4) (Ring : Fx K mg "_law_ring" sRing ["_law_cells", "_law_letters"] f5 fd5) (Tree : Fx K mg "_law_tree" sTree ["_law_cells", "_law_letters"] f6 fd6) (B : Bl mg) : FnOk P w K mg base CX0 4 f fd ["_law_head", "_law_cells"] (spP K fShape) := by
  have GAlphabet : FnOk P w K mg base CX0 3 f3 fd3 ["_law_cell"] (spP K fAlphabet) := (ok_Alphabet Alphabet.fn Mixed B).mono (by decide)
  have GAny : FnOk P w K mg base CX0 3 f4 fd4 ["_law_cells", "_law_letters"] (spP K fAny) := ok_Any Any.fn Mixed Picked B
  have GRing : FnOk P w K mg base CX0 3 f5 fd5 ["_law_cells", "_law_letters"] (spP K fRing) := ok_Ring Ring.fn Mixed Picked B
  have GTree : FnOk P w K mg base CX0 3 f6 fd6 ["_law_cells", "_law_letters"] (spP K fTree) := ok_Tree Tree.fn Mixed Picked B
  refine fn_pure F scShape (fun ds Q ⟨h, cs, e, _⟩ => by rw [e]; rfl) (fun cdv A outer s H E hr => ?_)
  have hu : (A.deeper (envOfC "_law_shape" (defScope sShape) s.heap.objs.size f cdv)).units + 16 < cLine := by have q := hr.units; omega
  have nd := scShape.nd
  refine ⟨_, (puss_cons (pus_set (i := 2) nd rfl (Or.inl rfl) (pu_call GAlphabet mono_Alphabet hr rfl Alphabet.mg Alphabet.fn.kp Alphabet.bd (pua_cons (pu_var 0) pua_nil)))
      (puss_cons (pus_frz 2 (pus_if (put_eq hu (pu_mod (pu_div (pu_var 0) pu_int) pu_int) pu_int) (puss_one (pus_ret (pu_call GAny mono_Any hr rfl Any.mg Any.fn.kp Any.bd (pua_cons (pu_var 1) (pua_cons (pu_var 2) pua_nil))))) puss_nil))
      (puss_cons (pus_if (put_eq hu (pu_mod (pu_div (pu_var 0) pu_int) pu_int) pu_int) (puss_one (pus_ret (pu_call GRing mono_Ring hr rfl Ring.mg Ring.fn.kp Ring.bd (pua_cons (pu_var 1) (pua_cons (pu_var 2) pua_nil))))) puss_nil)
      (puss_one (pus_ret (pu_item (pu_call GTree mono_Tree hr rfl Tree.mg Tree.fn.kp Tree.bd (pua_cons (pu_var 1) (pua_cons (pu_var 2) pua_nil))) pu_int)))))), fun ds Q h => ?_⟩
  obtain ⟨h, cs, rfl, h6, q⟩ := h
  have hl := six_len (alphaN h)
  have h21 : alphaN h < 21 := by
    have n2 := Int.emod_lt_of_pos (mixed h 1) (show (0 : Int) < 21 by decide)
    unfold alphaN; omega
  walk_at "pu"
  walk_at "auto"
  refine ite2 (fun e => ?_) (fun e => ?_)
  · walk_at "go"
    refine ⟨cs, rfl, sixOf (alphaN h), rfl, h6, hl, fun sh hs => ?_⟩
    exact q sh .new hs (.inr rfl)
  · walk_at "auto"
    refine ite2 (fun e => ?_) (fun e => ?_)
    · walk_at "go"
      refine ⟨cs, rfl, sixOf (alphaN h), rfl, h6, hl, fun sh hs => ?_⟩
      exact q sh .new hs (.inr rfl)
    · walk_at "auto"
      exact ⟨cs, rfl, sixOf (alphaN h), rfl, h6, hl, six_nd _ h21, fun sh ps hs => ⟨_, atI_nat (j := 0) rfl, q sh .frz hs.pats (.inl rfl)⟩⟩
end
end Q11
set_option Elab.async false
set_option linter.all false
set_option maxRecDepth 100000
set_option maxHeartbeats 4000000
namespace Q11
open PySem PySem.Spec L2 PL
open PyProof.Rows hiding St
local macro_rules | `(tactic| walk_at "pu") => `(tactic| simp only [pSeq, pSet, pRet, pRetN, pIf, pDrop, pNext, pBreak, pCont, pDropM, pSetM, mApp, mAppM, mPopAt, mExtT, pUnp, gNameP, gNilP, gConsP, gTupP, t2, i0, i2, pVar, pC, pCons, pNil, pTup, pLst, noOwn, isOwn, tBl, tAndP, tOrP, tNotP, tTru, tTrue, TruP, tNotE, tAndE, tOrE, tIfE, pEq, pIn, pIsN, pIx, pCat, PL.tB, fLen, LenP, fList, fTuple, fSortS, fIsi, tCallP, pSortSet, pJoin, pSlL, pRev, oNone, oSome, pComp, iRange1, iRange2, iLst, iTupl, pDG, pDI, tOrT, pChain, fMax2, fMin2, fMin3, fAll, fListS, fListD, pDictEnum, pSlS, pSetIx, pPutIx, mDPop, iDic, pCompD, pFor, pWhile, PL.plain, startP, retOut, blkP, List.map_cons, List.map_nil, List.length_cons, List.length_nil, List.cons_append, List.nil_append, List.replicate, List.getElem?_cons_zero, List.getElem?_cons_succ, List.getElem?_nil, Option.getD_some, Option.getD_none, List.set_cons_zero, List.set_cons_succ, List.cons.injEq,
  Option.some.injEq, Prod.mk.injEq, PV.int.injEq, PV.bl.injEq, PV.str.injEq, PV.lst.injEq, PV.tup.injEq, PV.ty.injEq, PV.dK.injEq, exists_eq_left', exists_eq_left, exists_eq', exists_eq, exists_and_left, exists_and_right, exists_eq_right, true_and, and_true, reduceCtorEq, false_and, and_false, false_or, or_false, exists_false, exists_const, Bool.false_eq_true, if_true, if_false, and_assoc, ite_true, ite_false, Bool.not_eq_true', decide_eq_true_eq, decide_eq_false_iff_not, Bool.not_false, Bool.not_true, true_or, or_true, not_true_eq_false, not_false_eq_true, Bool.and_eq_true, Nat.zero_add, Nat.sub_self, Nat.reduceAdd, Nat.reduceSub, implies_true, ne_eq, noMutR, noMut, noMutL, Bool.true_and, Bool.and_true, List.all_nil, fWhole])
local macro_rules | `(tactic| walk_at "go") => `(tactic| ((first | (with_reducible refine hold ?_) | (with_reducible refine holdT ?_)); walk_at "pu"))
local macro_rules | `(tactic| walk_at "side") => `(tactic| first | assumption | decide | omega | exact ⟨by decide, by decide⟩ | exact ⟨by decide, by decide, by decide⟩ | exact Or.inl ⟨by omega, by omega⟩ | exact Or.inr ⟨by omega, by omega⟩)
local macro_rules | `(tactic| walk_at "auto") => `(tactic| repeat (first | ((with_reducible refine hold ?_); walk_at "pu") | ((with_reducible refine holdT ?_); walk_at "pu") | ((with_reducible refine And.intro ?_ ?_); (· walk_at "side"))))
section
variable {P : Program} {w : World} {K : PySem.W.Frag} {mg : Str → Option Value} {base : Heap}
theorem scIsTree : FnScope ["_law_shape_here", "_law_found", "_law_k", "_law_up", "_law_step", "_law_pattern", "_law_letter", "_law_tops"] ["_law_shape_here", "_law_found"] (defScope sIsTree) := ⟨rfl, rfl, rfl, by decide +kernel, rfl, by decide +kernel, by decide +kernel⟩
theorem ok_IsTree {f f1 : Addr} {fd fd1 : FuncData} (F : Fun K "_law_is_tree" "_law_is_tree" sIsTree f fd) (Whole : Fx K mg "_law_whole" sWhole ["_law_found"] f1 fd1) (B : Bl mg) : FnOk P w K mg base CX0 2 f fd ["_law_shape_here", "_law_found"] (spP K fIsTree) := by
  have GWhole : FnOk P w K mg base CX0 1 f1 fd1 ["_law_found"] (spP K fWhole) := ok_Whole Whole.fn B
  refine fn_pure F scIsTree (fun ds Q ⟨h, cs, e, _⟩ => by rw [e]; rfl) (fun cdv A outer s H E hr => ?_)
  have hu : (A.deeper (envOfC "_law_is_tree" (defScope sIsTree) s.heap.objs.size f cdv)).units + 16 < cLine := by have q := hr.units; omega
  have nd := scIsTree.nd
  refine ⟨_, (puss_cons (pus_if (PuW.t (puw_or (put_not (put_tru (pu_isi (K := K) rfl rfl B.isi (pua_cons (pu_var 1) (pua_cons (pu_ty rfl B.list bList) pua_nil))))) (puw_or (put_ne hu (pu_len rfl B.len (pua_cons (pu_var 1) pua_nil)) (pu_len rfl B.len (pua_cons (pu_var 0) pua_nil))) (puw_or1 (put_ne hu (pu_len rfl B.len (pua_cons (pu_comp (N := ["_law_one"]) (k := 1) (js := []) rfl (cp_of (sup := defScope sIsTree) (XN := ["_law_shape_here", "_law_found", "_law_k", "_law_up", "_law_step", "_law_pattern", "_law_letter", "_law_tops"]) rfl rfl (by decide +kernel)) (by decide) (loc_name (by decide)) (pui_list (pu_var 1)) ⟨fun _ _ _ _ _ => (pug_name (i := 0) (by show (["_law_one"] : List Str).Nodup; decide +kernel) rfl (Or.inl rfl)), fun _ _ _ _ _ => (puts_one (put_isN (pu_var 0) pu_non)), fun _ _ _ _ _ => (pu_var 0)⟩) pua_nil)) pu_int))))) (puss_one (pus_ret pu_bl)) puss_nil)
      (puss_cons (pus_for rfl PassesOwn.never (pui_range1 rfl B.range (pua_cons (pu_len rfl B.len (pua_cons (pu_var 1) pua_nil)) pua_nil)) (pug_name (i := 2) nd rfl (Or.inl rfl)) (puss_one (pus_if (put_notN (pu_item (pu_var 1) (pu_var 2)) pu_non) (puss_one (pus_if (PuW.t (puw_or (put_not (put_tru (pu_call GWhole mono_Whole hr rfl Whole.mg Whole.fn.kp Whole.bd (pua_cons (pu_item (pu_var 1) (pu_var 2)) pua_nil)))) (puw_or (put_not (put_leLt pu_int (pu_item (pu_var 1) (pu_var 2)) (pu_len rfl B.len (pua_cons (pu_var 0) pua_nil)))) (puw_or1 (put_eq hu (pu_item (pu_var 1) (pu_var 2)) (pu_var 2)))))) (puss_one (pus_ret pu_bl)) puss_nil)) puss_nil)))
      (puss_cons (pus_for rfl PassesOwn.never (pui_range1 rfl B.range (pua_cons (pu_len rfl B.len (pua_cons (pu_var 1) pua_nil)) pua_nil)) (pug_name (i := 2) nd rfl (Or.inl rfl)) (puss_cons (pus_set (i := 3) nd rfl (Or.inl rfl) (pu_var 2))
      (puss_cons (pus_for rfl PassesOwn.never (pui_range1 rfl B.range (pua_cons (pu_len rfl B.len (pua_cons (pu_var 1) pua_nil)) pua_nil)) (pug_name (i := 4) nd rfl (Or.inl rfl)) (puss_one (pus_if (put_notN (pu_item (pu_var 1) (pu_var 3)) pu_non) (puss_one (pus_set (i := 3) nd rfl (Or.inl rfl) (pu_item (pu_var 1) (pu_var 3)))) puss_nil)))
      (puss_one (pus_if (put_notN (pu_item (pu_var 1) (pu_var 3)) pu_non) (puss_one (pus_ret pu_bl)) puss_nil)))))
      (puss_cons (pus_for rfl PassesOwn.never (pui_list (pu_var 0)) (pug_name (i := 5) nd rfl (Or.inl rfl)) (puss_one (pus_for rfl PassesOwn.never (pui_tup (pu_var 5)) (pug_name (i := 6) nd rfl (Or.inl rfl)) (puss_cons (pus_set (i := 7) nd rfl (Or.inl rfl) pu_int)
      (puss_cons (pus_for rfl PassesOwn.never (pui_range1 rfl B.range (pua_cons (pu_len rfl B.len (pua_cons (pu_var 0) pua_nil)) pua_nil)) (pug_name (i := 2) nd rfl (Or.inl rfl)) (puss_one (pus_if (PuW.t (puw_and (put_in hu (pu_var 6) (pu_item (pu_var 0) (pu_var 2))) (puw_and1 (PuW.t (puw_or (put_isN (pu_item (pu_var 1) (pu_var 2)) pu_non) (puw_or1 (put_notIn hu (pu_var 6) (pu_item (pu_var 0) (pu_item (pu_var 1) (pu_var 2)))))))))) (puss_one (pus_set (i := 7) nd rfl (Or.inl rfl) (pu_add (pu_var 7) pu_int))) puss_nil)))
      (puss_one (pus_if (put_ne hu (pu_var 7) pu_int) (puss_one (pus_ret pu_bl)) puss_nil)))))))
      (puss_one (pus_ret pu_bl)))))), fun ds Q h => ?_⟩
  obtain ⟨sh, ps, rfl, h6, T, q⟩ := h
  have hlen := T.len
  walk_at "pu"
  refine ⟨true, kit_same, ?_⟩
  rw [if_neg (by decide), List.length_map, List.length_map, if_neg (by omega)]
  refine ⟨by rw [sizeLine_eq]; omega, fun i out => out.length = ((ps.take i).filter fun o => o.isNone).length, by simp, ?_, ?_⟩
  · intro i d out hd _ ho
    obtain ⟨o, hoo, rfl⟩ := opt_get hd
    refine ite2 (fun e => ?_) (fun e => ?_)
    · have hn := optP_non.mp e
      subst hn
      show _ = _
      rw [List.take_add_one, hoo, List.length_append, ho]
      simp
    · have hn : ¬ o = none := fun z => e (optP_non.mpr z)
      have hs : o.isNone = false := by cases o with | none => exact absurd rfl hn | some j => rfl
      show _ = _
      rw [List.take_add_one, hoo, ho]
      simp [hs]
  · intro out _ ho
    rw [List.take_of_length_le (Nat.le_refl _), T.one] at ho
    rw [if_neg (by omega)]
    walk_at "go"
    walk_at "go"
    obtain ⟨Iv, hIv⟩ : ∃ Iv : Nat → PEnv → Prop, ∀ i ρ, Iv i ρ ↔ ∃ (k2 : Option (PV × Bool)), ρ = [some (PV.lst (List.map ld sh), false), some (PV.lst (List.map optP ps), false), k2, none, none, none, none, none] := ⟨_, fun _ _ => Iff.rfl⟩
    rw [List.length_map]
    refine ⟨by omega, by omega, Iv, (hIv _ _).mpr ⟨none, rfl⟩, ?_, ?_⟩
    · intro i d ρ hd hI
      obtain ⟨k2, rfl⟩ := (hIv _ _).mp hI
      obtain ⟨hi, rfl⟩ := rngP_get hd
      have hi' : i < ps.length := by omega
      have hoi : ps[i]? = some ps[i] := List.getElem?_eq_getElem hi'
      walk_at "go"
      refine ⟨_, opt_at hoi (by omega), ite2 (fun e => ?_) (fun e => ?_)⟩
      · obtain ⟨j, hj⟩ : ∃ j, ps[i] = some j := by
          cases hps : ps[i] with
          | none => rw [hps] at e; exact absurd rfl e
          | some j => exact ⟨j, rfl⟩
        rw [hj] at hoi
        obtain ⟨hj1, hj2⟩ := T.rng i j hoi
        have hat : atI (ps.map optP) (0 + (i : Int)) = some (PV.int j) := opt_at hoi (by omega)
        walk_at "go"
        refine ⟨_, hat, ⟨_, rfl⟩, _, hat, _, rfl, ?_⟩
        rw [if_pos (by omega)]
        refine ⟨_, rfl, ?_⟩
        rw [List.length_map, if_neg (by omega)]
        refine ⟨_, hat, rfl, ?_⟩
        rw [if_neg (fun z => by injection z with z; omega)]
        walk_at "go"
        exact (hIv _ _).mpr ⟨_, rfl⟩
      · walk_at "go"
        exact (hIv _ _).mpr ⟨_, rfl⟩
    · intro ρ hI
      obtain ⟨k2, rfl⟩ := (hIv _ _).mp hI
      walk_at "go"
      rw [List.length_map]
      obtain ⟨Jv, hJv⟩ : ∃ Jv : Nat → PEnv → Prop, ∀ i ρ, Jv i ρ ↔ ∃ (k2 k3 k4 : Option (PV × Bool)), ρ = [some (PV.lst (List.map ld sh), false), some (PV.lst (List.map optP ps), false), k2, k3, k4, none, none, none] := ⟨_, fun _ _ => Iff.rfl⟩
      refine ⟨by omega, by omega, Jv, (hJv _ _).mpr ⟨_, _, _, rfl⟩, ?_, ?_⟩
      · intro i d ρ hd hJ
        obtain ⟨k2, k3, k4, rfl⟩ := (hJv _ _).mp hJ
        obtain ⟨hi, rfl⟩ := rngP_get hd
        have hi' : i < sh.length := by omega
        walk_at "go"
        walk_at "go"
        rw [List.length_map]
        have upl : ∀ m, upN ps m i < sh.length := fun m => by
          induction m with
          | zero => exact hi'
          | succ m ih =>
            unfold upN
            cases hu : ps.getD (upN ps m i) none with
            | none => exact ih
            | some j =>
              rw [List.getD_eq_getElem?_getD, List.getElem?_eq_getElem (by omega)] at hu
              exact (T.rng (upN ps m i) j (by rw [List.getElem?_eq_getElem (by omega)]; exact congrArg some hu)).1
        obtain ⟨Lv, hLv⟩ : ∃ Lv : Nat → PEnv → Prop, ∀ m ρ, Lv m ρ ↔ ∃ (k4 : Option (PV × Bool)), ρ = [some (PV.lst (List.map ld sh), false), some (PV.lst (List.map optP ps), false), some (PV.int (0 + (i : Int)), false), some (PV.int (upN ps m i : Nat), false), k4, none, none, none] := ⟨_, fun _ _ => Iff.rfl⟩
        refine ⟨by omega, by omega, Lv, (hLv _ _).mpr ⟨k4, by simp [upN]⟩, ?_, ?_⟩
        · intro m d ρ hd hL
          obtain ⟨k4, rfl⟩ := (hLv _ _).mp hL
          obtain ⟨hm, rfl⟩ := rngP_get hd
          have hul := upl m
          have hu1 : ps[upN ps m i]? = some ps[upN ps m i] := List.getElem?_eq_getElem (by omega)
          have hu2 : ps.getD (upN ps m i) none = ps[upN ps m i] := by rw [List.getD_eq_getElem?_getD, hu1]; rfl
          walk_at "go"
          refine ⟨_, opt_at hu1 rfl, ite2 (fun e => ?_) (fun e => ?_)⟩
          · walk_at "go"
            obtain ⟨j, hj⟩ : ∃ j, ps[upN ps m i] = some j := by
              cases hps : ps[upN ps m i] with
              | none => rw [hps] at e; exact absurd rfl e
              | some j => exact ⟨j, rfl⟩
            have : upN ps (m + 1) i = j := by
              show (match ps.getD (upN ps m i) none with | some j => j | none => upN ps m i) = _
              rw [hu2, hj]
            rw [hj] at hu1
            exact ⟨_, opt_at hu1 rfl, (hLv _ _).mpr ⟨some (PV.int (0 + (m : Int)), false), by rw [this]; rfl⟩⟩
          · walk_at "go"
            have e' : ps[upN ps m i] = none := optP_non.mp (by simpa using e)
            refine (hLv _ _).mpr ⟨some (PV.int (0 + (m : Int)), false), ?_⟩
            have : upN ps (m + 1) i = upN ps m i := by
              show (match ps.getD (upN ps m i) none with | some j => j | none => upN ps m i) = _
              rw [hu2, e']
            rw [this]
        · intro ρ hL
          obtain ⟨k4, rfl⟩ := (hLv _ _).mp hL
          rw [rngP_len]
          have hup := T.up i hi'
          have hn : (ps.length : Int).toNat = sh.length := by omega
          rw [hn]
          walk_at "go"
          refine ⟨_, opt_at hup rfl, ?_⟩
          rw [if_neg (fun z => z rfl)]
          walk_at "go"
          exact (hJv _ _).mpr ⟨_, _, _, rfl⟩
      · intro ρ hJ
        obtain ⟨k2, k3, k4, rfl⟩ := (hJv _ _).mp hJ
        walk_at "go"
        obtain ⟨Mv, hMv⟩ : ∃ Mv : Nat → PEnv → Prop, ∀ i ρ, Mv i ρ ↔ ∃ (k2 k3 k4 k5 k6 k7 : Option (PV × Bool)), ρ = [some (PV.lst (List.map ld sh), false), some (PV.lst (List.map optP ps), false), k2, k3, k4, k5, k6, k7] := ⟨_, fun _ _ => Iff.rfl⟩
        refine ⟨Mv, (hMv _ _).mpr ⟨_, _, _, _, _, _, rfl⟩, ?_, ?_⟩
        · intro i d ρ hd hM
          obtain ⟨k2, k3, k4, k5, k6, k7, rfl⟩ := (hMv _ _).mp hM
          obtain ⟨p, hp, rfl⟩ : ∃ p, sh[i]? = some p ∧ d = ld p := by
            rw [List.getElem?_map] at hd
            cases hq : sh[i]? with
            | none => rw [hq] at hd; cases hd
            | some p => rw [hq] at hd; cases hd; exact ⟨p, rfl, rfl⟩
          have hpm := List.mem_of_getElem? hp
          walk_at "go"
          obtain ⟨Nv, hNv⟩ : ∃ Nv : Nat → PEnv → Prop, ∀ i ρ, Nv i ρ ↔ ∃ (k2 k3 k4 k6 k7 : Option (PV × Bool)), ρ = [some (PV.lst (List.map ld sh), false), some (PV.lst (List.map optP ps), false), k2, k3, k4, some (ld p, false), k6, k7] := ⟨_, fun _ _ => Iff.rfl⟩
          refine ⟨_, rfl, Nv, (hNv _ _).mpr ⟨_, _, _, _, _, rfl⟩, ?_, ?_⟩
          · intro j d ρ hd hN
            obtain ⟨k2, k3, k4, k6, k7, rfl⟩ := (hNv _ _).mp hN
            obtain ⟨x, hx, rfl⟩ := str_get hd
            have htop := T.tops p hpm x (List.mem_of_getElem? hx)
            walk_at "go"
            walk_at "go"
            rw [List.length_map]
            obtain ⟨Tv, hTv⟩ : ∃ Tv : Nat → PEnv → Prop, ∀ m ρ, Tv m ρ ↔ ∃ (k2 : Option (PV × Bool)), ρ = [some (PV.lst (List.map ld sh), false), some (PV.lst (List.map optP ps), false), k2, k3, k4, some (ld p, false), some (PV.str x, false), some (PV.int ((((List.range m).filter (topAt sh ps x)).length : Nat) : Int), false)] := ⟨_, fun _ _ => Iff.rfl⟩
            refine ⟨by omega, by omega, Tv, (hTv _ _).mpr ⟨k2, rfl⟩, ?_, ?_⟩
            · intro m d ρ hd hT
              obtain ⟨k2, rfl⟩ := (hTv _ _).mp hT
              obtain ⟨hm, rfl⟩ := rngP_get hd
              have hm1 : m < sh.length := by omega
              have hs1 : atI (sh.map ld) (0 + (m : Int)) = some (ld sh[m]) := by rw [Int.zero_add]; exact atI_nat (by simp [hm1])
              have hp1 : ps[m]? = some ps[m] := List.getElem?_eq_getElem (by omega)
              have hcnt : ∀ b : Bool, topAt sh ps x m = b → ((List.range (m + 1)).filter (topAt sh ps x)).length = ((List.range m).filter (topAt sh ps x)).length + (if b = true then 1 else 0) := fun b hb => by
                rw [List.range_succ, List.filter_append, List.length_append]
                cases b <;> simp [hb]
              have hit : topAt sh ps x m = true → Hold (pSet 7 (pAdd (pVar 7) (pC (PV.int 1)))) { nx := Tv (m + 1), rt := Q, bk := Hold (pIf (tBl (t2 (pEq true) (pVar 7) (pC (PV.int 1)))) (pRet (pC (PV.bl false))) pNext) { nx := Nv (j + 1), rt := Q, bk := Mv (i + 1), ct := Nv (j + 1) }, ct := Tv (m + 1) }
                  [some (PV.lst (List.map ld sh), false), some (PV.lst (List.map optP ps), false), some (PV.int (0 + ↑m), false), k3, k4, some (ld p, false), some (PV.str x, false), some (PV.int ↑(List.filter (topAt sh ps x) (List.range m)).length, false)] := fun hb => by
                walk_at "go"
                refine (hTv _ _).mpr ⟨some (PV.int (0 + (m : Int)), false), ?_⟩
                rw [hcnt true hb, if_pos rfl, Int.natCast_add]
                rfl
              have miss : topAt sh ps x m = false → Hold pNext { nx := Tv (m + 1), rt := Q, bk := Hold (pIf (tBl (t2 (pEq true) (pVar 7) (pC (PV.int 1)))) (pRet (pC (PV.bl false))) pNext) { nx := Nv (j + 1), rt := Q, bk := Mv (i + 1), ct := Nv (j + 1) }, ct := Tv (m + 1) }
                  [some (PV.lst (List.map ld sh), false), some (PV.lst (List.map optP ps), false), some (PV.int (0 + ↑m), false), k3, k4, some (ld p, false), some (PV.str x, false), some (PV.int ↑(List.filter (topAt sh ps x) (List.range m)).length, false)] := fun hb => by
                walk_at "go"
                refine (hTv _ _).mpr ⟨some (PV.int (0 + (m : Int)), false), ?_⟩
                rw [hcnt false hb, if_neg (by decide), Nat.add_zero]
              have hg1 : sh.getD m [] = sh[m] := by rw [List.getD_eq_getElem?_getD, List.getElem?_eq_getElem hm1]; rfl
              have hg2 : ps.getD m none = ps[m] := by rw [List.getD_eq_getElem?_getD, hp1]; rfl
              walk_at "go"
              refine ⟨_, hs1, _, .inr rfl, plain_strs _, ite2 (fun e => ?_) (fun e => ?_)⟩
              · have hxm : x ∈ sh[m] := mem_strs.mp e
                refine ⟨_, opt_at hp1 (by omega), ite2 (fun e2 => hit ?_) (fun e2 => ?_)⟩
                · unfold topAt
                  rw [hg1, hg2, optP_non.mp e2]
                  simp [hxm]
                · obtain ⟨jj, hjj⟩ : ∃ jj, ps[m] = some jj := by
                    cases hps : ps[m] with
                    | none => rw [hps] at e2; exact absurd rfl e2
                    | some jj => exact ⟨jj, rfl⟩
                  rw [hjj] at hp1
                  obtain ⟨hj1, hj2⟩ := T.rng m jj hp1
                  have hs2 : atI (sh.map ld) (jj : Int) = some (ld sh[jj]) := atI_nat (by simp [hj1])
                  have hg3 : sh.getD jj [] = sh[jj] := by rw [List.getD_eq_getElem?_getD, List.getElem?_eq_getElem hj1]; rfl
                  refine ⟨_, opt_at hp1 (by omega), _, rfl, _, hs2, _, .inr rfl, plain_strs _, ite2 (fun e3 => hit ?_) (fun e3 => miss ?_)⟩
                  · have hxj : ¬ x ∈ sh[jj] := fun z => e3 (mem_strs.mpr z)
                    unfold topAt
                    rw [hg1, hg2, hjj]
                    simp [hxm, hg3, hxj, hj1]
                  · have hxj : x ∈ sh[jj] := Decidable.by_contra fun z => e3 fun y => z (mem_strs.mp y)
                    unfold topAt
                    rw [hg1, hg2, hjj]
                    simp [hxm, hg3, hxj, hj1]
              · have hxm : ¬ x ∈ sh[m] := fun z => e (mem_strs.mpr z)
                refine miss ?_
                unfold topAt
                rw [hg1]
                simp [hxm]
            · intro ρ hT
              obtain ⟨k2, rfl⟩ := (hTv _ _).mp hT
              rw [rngP_len]
              have hn : (sh.length : Int).toNat = sh.length := by omega
              rw [hn, htop]
              walk_at "go"
              rw [if_neg (by decide)]
              walk_at "go"
              exact (hNv _ _).mpr ⟨_, _, _, _, _, rfl⟩
          · intro ρ hN
            obtain ⟨k2, k3, k4, k6, k7, rfl⟩ := (hNv _ _).mp hN
            exact (hMv _ _).mpr ⟨_, _, _, _, _, _, rfl⟩
        · intro ρ hM
          obtain ⟨k2, k3, k4, k5, k6, k7, rfl⟩ := (hMv _ _).mp hM
          walk_at "go"
          exact q
end
end Q11
set_option Elab.async false
set_option linter.all false
set_option maxRecDepth 100000
set_option maxHeartbeats 4000000
namespace Q11
open PySem PySem.Spec L2 PL
open PyProof.Rows hiding St
def doStep (l : Left) : Stp → Left
  | .letter x => l.map fun p => (p.1, p.2.filter fun y => decide (y ≠ x))
  | .pattern i _ => l.filter fun p => decide (p.1 ≠ i)
def size (l : Left) : Nat := (l.map fun p => 1 + p.2.length).sum
def runF : Nat → Left → List Stp × Left
  | 0, l => ([], l)
  | n + 1, l => match anyStep l with
    | none => ([], l)
    | some s => (s :: (runF n (doStep l s)).1, (runF n (doStep l s)).2)
theorem any_letter {l : Left} {x : Str} (h : anyStep l = some (.letter x)) : 2 ≤ l.length ∧ letterStep l = some x := by
  unfold anyStep at h
  split at h
  · cases h
  · rename_i hl
    cases hx : letterStep l with
    | some y => rw [hx] at h; cases h; exact ⟨by omega, rfl⟩
    | none =>
      rw [hx] at h
      unfold patternStep at h
      cases hf : List.find? (fun z => inner z.1 z.2) (l.flatMap fun p => l.map fun q => (p, q)) with
      | none => rw [hf] at h; cases h
      | some z => rw [hf] at h; cases h
theorem any_pattern {l : Left} {i j : Nat} (h : anyStep l = some (.pattern i j)) : ∃ p q, p ∈ l ∧ q ∈ l ∧ p.1 = i ∧ q.1 = j ∧ inner p q = true := by
  unfold anyStep at h
  split at h
  · cases h
  · cases hx : letterStep l with
    | some y => rw [hx] at h; cases h
    | none =>
      rw [hx] at h
      unfold patternStep at h
      cases hf : List.find? (fun z => inner z.1 z.2) (l.flatMap fun p => l.map fun q => (p, q)) with
      | none => rw [hf] at h; cases h
      | some z =>
        rw [hf] at h
        cases h
        have hm := List.mem_of_find?_eq_some hf
        have hi := List.find?_some hf
        rw [List.mem_flatMap] at hm
        obtain ⟨p, hp, hm⟩ := hm
        rw [List.mem_map] at hm
        obtain ⟨q, hq, rfl⟩ := hm
        exact ⟨p, q, hp, hq, rfl, rfl, hi⟩
theorem at_one {l : Left} (ok : LeftOk l) {p : Nat × List Str} (hp : p ∈ l) : atNum l p.1 = [p] := by
  have hn := ok.nd
  clear ok
  induction l with
  | nil => cases hp
  | cons a l ih =>
    simp only [List.map_cons, List.nodup_cons] at hn
    unfold atNum at ih ⊢
    rw [List.filter_cons]
    rcases List.mem_cons.mp hp with rfl | hp
    · simp only [decide_true, if_true]
      congr 1
      rw [List.filter_eq_nil_iff]
      intro b hb
      have : b.1 ≠ p.1 := fun z => hn.1 (by rw [← z]; exact List.mem_map_of_mem (f := (·.1)) hb)
      simpa using this
    · have hne : ¬ a.1 = p.1 := fun z => hn.1 (by rw [z]; exact List.mem_map_of_mem (f := (·.1)) hp)
      simp only [hne, decide_false, Bool.false_eq_true, if_false]
      exact ih hp hn.2
theorem within_of {l : Left} (ok : LeftOk l) {p q : Nat × List Str} (hp : p ∈ l) (hq : q ∈ l) : withinB l p.1 q.1 = inner p q := by
  unfold withinB inner
  rw [at_one ok hp, at_one ok hq]
  by_cases e : p.1 = q.1
  · simp [e]
  · simp only [e, List.length_singleton, ne_eq, not_true_eq_false, or_self, if_false, List.map_cons, List.map_nil, not_false_eq_true, decide_true, Bool.true_and]
    show ((p.2.filter fun x => decide (¬ x ∈ q.2)).length == 0) = _
    rw [Bool.eq_iff_iff, beq_iff_eq, List.length_eq_zero_iff, List.filter_eq_nil_iff, List.all_eq_true]
    constructor
    · intro h x hx
      have := h x hx
      simpa using this
    · intro h x hx
      have := h x hx
      simpa using this
theorem lone_find {l : Left} {x : Str} (h : letterStep l = some x) : (holders l x).length = 1 := by
  have := List.find?_some h
  unfold lone at this
  rw [beq_iff_eq] at this
  exact this
theorem stepped_any {l : Left} (ok : LeftOk l) {s : Stp} (h : anyStep l = some s) : stepped l s = some (doStep l s) := by
  cases s with
  | letter x =>
    have := lone_find (any_letter h).2
    simp only [stepped, doStep]
    rw [if_pos this]
  | pattern i j =>
    obtain ⟨p, q, hp, hq, rfl, rfl, hin⟩ := any_pattern h
    simp only [stepped, doStep]
    rw [if_pos (by rw [within_of ok hp hq]; exact hin)]
theorem doStep_ok {l : Left} (ok : LeftOk l) (s : Stp) : LeftOk (doStep l s) := by
  cases s with
  | letter x =>
    refine ⟨?_, by simp only [doStep, List.length_map]; exact ok.len, fun p hp => ?_⟩
    · have : (doStep l (.letter x)).map (·.1) = l.map (·.1) := by simp [doStep]
      rw [this]; exact ok.nd
    · simp only [doStep, List.mem_map] at hp
      obtain ⟨q, hq, rfl⟩ := hp
      exact Nat.le_trans (List.length_filter_le _ _) (ok.four q hq)
  | pattern i j =>
    refine ⟨?_, Nat.le_trans (List.length_filter_le _ _) ok.len, fun p hp => ok.four p (List.mem_filter.mp hp).1⟩
    exact ok.nd.sublist (List.Sublist.map _ List.filter_sublist)
theorem stuck_of {l : Left} (ok : LeftOk l) (h : anyStep l = none) (h2 : 2 ≤ l.length) : stuckB l = true := by
  unfold anyStep at h
  rw [if_neg (by omega)] at h
  cases hx : letterStep l with
  | some y => rw [hx] at h; cases h
  | none =>
    rw [hx] at h
    unfold patternStep at h
    have h : List.find? (fun z => inner z.1 z.2) (l.flatMap fun p => l.map fun q => (p, q)) = none := by simpa using h
    unfold stuckB
    rw [Bool.and_eq_true]
    refine ⟨List.all_eq_true.mpr fun p hp => ?_, by simp; omega⟩
    rw [Bool.and_eq_true]
    refine ⟨List.all_eq_true.mpr fun x hx2 => ?_, List.all_eq_true.mpr fun q hq => ?_⟩
    · unfold letterStep at hx
      rw [List.find?_eq_none] at hx
      have := hx x (List.mem_flatMap.mpr ⟨p, hp, hx2⟩)
      unfold lone at this
      unfold holders
      simpa using this
    · rw [List.find?_eq_none] at h
      have := h (p, q) (List.mem_flatMap.mpr ⟨p, hp, List.mem_map.mpr ⟨q, hq, rfl⟩⟩)
      rw [within_of ok hp hq]
      simpa using this
end Q11
set_option Elab.async false
set_option linter.all false
set_option maxRecDepth 100000
set_option maxHeartbeats 4000000
namespace Q11
open PySem PySem.Spec L2 PL
open PyProof.Rows hiding St
theorem sum_map_le {α : Type} {l : List α} {f g : α → Nat} (h : ∀ a ∈ l, f a ≤ g a) : (l.map f).sum ≤ (l.map g).sum := by
  induction l with
  | nil => exact Nat.le_refl _
  | cons a l ih =>
    simp only [List.map_cons, List.sum_cons]
    have h1 := h a (List.mem_cons_self ..)
    have h2 := ih fun b hb => h b (List.mem_cons_of_mem _ hb)
    omega
theorem sum_map_lt {α : Type} {l : List α} {f g : α → Nat} (h : ∀ a ∈ l, f a ≤ g a) {a : α} (ha : a ∈ l) (hl : f a < g a) : (l.map f).sum < (l.map g).sum := by
  induction l with
  | nil => cases ha
  | cons b l ih =>
    simp only [List.map_cons, List.sum_cons]
    have h1 := h b (List.mem_cons_self ..)
    rcases List.mem_cons.mp ha with rfl | ha
    · have := sum_map_le (f := f) (g := g) (l := l) fun b hb => h b (List.mem_cons_of_mem _ hb)
      omega
    · have := ih (fun b hb => h b (List.mem_cons_of_mem _ hb)) ha
      omega
theorem sum_filter_lt {α : Type} {l : List α} {f : α → Nat} {p : α → Bool} (hf : ∀ a, 0 < f a) {a : α} (ha : a ∈ l) (hp : p a = false) : ((l.filter p).map f).sum < (l.map f).sum := by
  induction l with
  | nil => cases ha
  | cons b l ih =>
    have hle : ((l.filter p).map f).sum ≤ (l.map f).sum := by
      clear ih ha
      induction l with
      | nil => exact Nat.le_refl _
      | cons c l ih2 =>
        rw [List.filter_cons]
        split
        · simp only [List.map_cons, List.sum_cons]; omega
        · simp only [List.map_cons, List.sum_cons]; omega
    rw [List.filter_cons]
    rcases List.mem_cons.mp ha with rfl | ha
    · rw [hp]
      simp only [Bool.false_eq_true, if_false, List.map_cons, List.sum_cons]
      have := hf a
      omega
    · have := ih ha
      split
      · simp only [List.map_cons, List.sum_cons]; omega
      · simp only [List.map_cons, List.sum_cons]; omega
theorem letter_mem {l : Left} {x : Str} (h : letterStep l = some x) : ∃ p ∈ l, x ∈ p.2 := by
  have := List.mem_of_find?_eq_some h
  rw [List.mem_flatMap] at this
  exact this
theorem size_dec {l : Left} {s : Stp} (h : anyStep l = some s) : size (doStep l s) < size l := by
  cases s with
  | letter x =>
    obtain ⟨p, hp, hx⟩ := letter_mem (any_letter h).2
    unfold size
    simp only [doStep, List.map_map]
    refine sum_map_lt (a := p) (fun q _ => ?_) hp ?_
    · have := List.length_filter_le (fun y => decide (y ≠ x)) q.2
      simp only [Function.comp]; omega
    · have : (p.2.filter fun y => decide (y ≠ x)).length < p.2.length := by
        refine Nat.lt_of_le_of_ne (List.length_filter_le _ _) fun z => ?_
        rw [List.length_filter_eq_length_iff] at z
        have := z x hx
        simp at this
      simp only [Function.comp]; omega
  | pattern i j =>
    obtain ⟨p, q, hp, hq, rfl, rfl, hin⟩ := any_pattern h
    unfold size
    simp only [doStep]
    exact sum_filter_lt (fun a => by omega) hp (by simp)
theorem run_done : ∀ (n : Nat) (l : Left), size l ≤ n → anyStep (runF n l).2 = none
  | 0, l, h => by
    cases l with
    | nil => rfl
    | cons a l => simp [size] at h
  | n + 1, l, h => by
    unfold runF
    cases ha : anyStep l with
    | none => exact ha
    | some s => exact run_done n (doStep l s) (by have := size_dec ha; omega)
def ids (l : Left) : List Nat := l.map (·.1)
def parOf : List Stp → Nat → Option Nat
  | [], _ => none
  | .letter _ :: ss, i => parOf ss i
  | .pattern a b :: ss, i => match parOf ss i with
    | some j => some j
    | none => if a = i then some b else none
theorem par_fold : ∀ (ss : List Stp) (ps : List (Option Nat)) (i : Nat), i < ps.length → (ss.foldl parStep ps)[i]? = (match parOf ss i with | some j => some (some j) | none => ps[i]?)
  | [], ps, i, h => rfl
  | .letter x :: ss, ps, i, h => par_fold ss ps i h
  | .pattern a b :: ss, ps, i, h => by
    rw [List.foldl_cons, par_fold ss _ i (by simp only [parStep, List.length_set]; exact h)]
    simp only [parOf, parStep]
    cases hp : parOf ss i with
    | some j => rfl
    | none =>
      by_cases e : a = i
      · subst e; simp [h]
      · simp [e]
def topL (l : Left) (f : Nat → Option Nat) (x : Str) (p : Nat × List Str) : Bool := decide (x ∈ p.2) && match f p.1 with
  | none => true
  | some j => l.all fun q => decide (q.1 = j → ¬ x ∈ q.2)
structure JT (l : Left) (f : Nat → Option Nat) : Prop where
  out : ∀ i, ¬ i ∈ ids l → f i = none
  root : ∃ r ∈ ids l, f r = none ∧ ∀ i ∈ ids l, i ≠ r → ∃ j, f i = some j ∧ j ∈ ids l
  rank : ∃ rk : Nat → Nat, (∀ i ∈ ids l, rk i < l.length) ∧ ∀ i ∈ ids l, ∀ j, f i = some j → rk i < rk j
  tops : ∀ x : Str, (∃ p ∈ l, x ∈ p.2) → (l.filter (topL l f x)).length = 1
theorem jt_one {l : Left} (h : l.length = 1) : JT l (parOf []) := by
  obtain ⟨p, rfl⟩ := List.length_eq_one_iff.mp h
  refine ⟨fun _ _ => rfl, ⟨p.1, by simp [ids], rfl, fun i hi hn => ?_⟩, ⟨fun _ => 0, fun _ _ => Nat.zero_lt_one, fun i _ j z => by cases z⟩, fun x hx => ?_⟩
  · simp [ids] at hi; exact absurd hi hn
  · obtain ⟨q, hq, hx⟩ := hx
    rw [List.mem_singleton] at hq
    subst hq
    simp [topL, hx, parOf]
theorem ids_letter (l : Left) (x : Str) : ids (doStep l (.letter x)) = ids l := by simp [ids, doStep]
theorem filter_congr_len {α β : Type} {l : List α} {g : α → β} {p : α → Bool} {q : β → Bool} (h : ∀ a ∈ l, p a = q (g a)) : ((l.map g).filter q).length = (l.filter p).length := by
  induction l with
  | nil => rfl
  | cons a l ih =>
    have h1 := h a (List.mem_cons_self ..)
    have h2 := ih fun b hb => h b (List.mem_cons_of_mem _ hb)
    simp only [List.map_cons, List.filter_cons, ← h1]
    split
    · simp [h2]
    · exact h2
end Q11
set_option Elab.async false
set_option linter.all false
set_option maxRecDepth 100000
set_option maxHeartbeats 4000000
namespace Q11
open PySem PySem.Spec L2 PL
open PyProof.Rows hiding St
theorem same_num {l : Left} (ok : LeftOk l) {p q : Nat × List Str} (hp : p ∈ l) (hq : q ∈ l) (h : p.1 = q.1) : p = q := by
  have h1 := at_one ok hp
  have h2 := at_one ok hq
  rw [h, h2] at h1
  cases h1; rfl
theorem mem_ids {l : Left} {i : Nat} : i ∈ ids l ↔ ∃ p ∈ l, p.1 = i := by simp [ids]
theorem jt_letter {l : Left} {x : Str} {f : Nat → Option Nat} (ok : LeftOk l) (h : anyStep l = some (.letter x)) (J : JT (doStep l (.letter x)) f) : JT l f := by
  have hid := ids_letter l x
  have hlen : (doStep l (.letter x)).length = l.length := by simp [doStep]
  obtain ⟨rk, hr1, hr2⟩ := J.rank
  rw [hid, hlen] at hr1
  rw [hid] at hr2
  refine ⟨by have := J.out; rw [hid] at this; exact this, by have := J.root; rw [hid] at this; exact this, ⟨rk, hr1, hr2⟩, fun y hy => ?_⟩
  by_cases e : y = x
  · subst e
    have h1 := lone_find (any_letter h).2
    have : l.filter (topL l f y) = holders l y := by
      unfold holders
      refine List.filter_congr fun a ha => ?_
      unfold topL
      by_cases hya : y ∈ a.2
      · simp only [hya, decide_true, Bool.true_and]
        cases hf : f a.1 with
        | none => rfl
        | some j =>
          rw [List.all_eq_true]
          intro q hq
          rw [decide_eq_true_iff]
          intro hqj hyq
          have m1 : a ∈ holders l y := List.mem_filter.mpr ⟨ha, by simpa using hya⟩
          have m2 : q ∈ holders l y := List.mem_filter.mpr ⟨hq, by simpa using hyq⟩
          obtain ⟨z, hz⟩ := List.length_eq_one_iff.mp h1
          rw [hz, List.mem_singleton] at m1 m2
          rw [m1] at hf
          rw [m2] at hqj
          have := hr2 z.1 (mem_ids.mpr ⟨z, by rw [← m2]; exact hq, rfl⟩) j hf
          rw [hqj] at this
          exact Nat.lt_irrefl _ this
      · simp [hya]
    rw [this, h1]
  · have hin : ∀ p : List Str, y ∈ p.filter (fun z => decide (z ≠ x)) ↔ y ∈ p := fun p => by simp [List.mem_filter, e]
    have := J.tops y (by
      obtain ⟨p, hp, hyp⟩ := hy
      exact ⟨(p.1, p.2.filter fun z => decide (z ≠ x)), List.mem_map.mpr ⟨p, hp, rfl⟩, (hin p.2).mpr hyp⟩)
    rw [← this]
    symm
    unfold doStep
    refine filter_congr_len fun a ha => ?_
    unfold topL
    simp only [hin]
    cases f a.1 with
    | none => rfl
    | some j =>
      congr 1
      show (List.all l fun q => decide (q.1 = j → ¬ y ∈ q.2)) = (List.map (fun p => (p.1, List.filter (fun y => decide (y ≠ x)) p.2)) l).all fun q => decide (q.1 = j → ¬ y ∈ q.2)
      rw [Bool.eq_iff_iff, List.all_eq_true, List.all_eq_true]
      constructor
      · intro h1 b hb
        obtain ⟨c, hc, rfl⟩ := List.mem_map.mp hb
        have := h1 c hc
        rw [decide_eq_true_iff] at this ⊢
        exact fun z w => this z ((hin c.2).mp w)
      · intro h1 c hc
        have := h1 (c.1, c.2.filter fun y => decide (y ≠ x)) (List.mem_map.mpr ⟨c, hc, rfl⟩)
        rw [decide_eq_true_iff] at this ⊢
        exact fun z w => this z ((hin c.2).mpr w)
theorem jt_pattern {l : Left} {i j : Nat} {f : Nat → Option Nat} (ok : LeftOk l) (h : anyStep l = some (.pattern i j)) (J : JT (doStep l (.pattern i j)) f) : JT l fun k => match f k with | some m => some m | none => if i = k then some j else none := by
  obtain ⟨p, q, hp, hq, rfl, rfl, hin⟩ := any_pattern h
  unfold inner at hin
  rw [Bool.and_eq_true, decide_eq_true_iff, List.all_eq_true] at hin
  obtain ⟨hne, hsub⟩ := hin
  have hid : ∀ k, k ∈ ids (doStep l (.pattern p.1 q.1)) ↔ k ∈ ids l ∧ k ≠ p.1 := fun k => by
    rw [mem_ids, mem_ids]
    constructor
    · rintro ⟨a, ha, rfl⟩
      have := List.mem_filter.mp ha
      exact ⟨⟨a, this.1, rfl⟩, by simpa using this.2⟩
    · rintro ⟨⟨a, ha, rfl⟩, hk⟩
      exact ⟨a, List.mem_filter.mpr ⟨ha, by simpa using hk⟩, rfl⟩
  have hpi : p.1 ∈ ids l := mem_ids.mpr ⟨p, hp, rfl⟩
  have hqi : q.1 ∈ ids l := mem_ids.mpr ⟨q, hq, rfl⟩
  have hfp : f p.1 = none := J.out p.1 fun z => ((hid _).mp z).2 rfl
  have hlt : (doStep l (.pattern p.1 q.1)).length < l.length := by
    refine Nat.lt_of_le_of_ne (List.length_filter_le _ _) fun z => ?_
    have := List.length_filter_eq_length_iff.mp z p hp
    simp at this
  obtain ⟨r, hr, hfr, hrest⟩ := J.root
  have hrp := ((hid r).mp hr).2
  have kept : ∀ k m, k ∈ ids (doStep l (.pattern p.1 q.1)) → f k = some m → m ∈ ids (doStep l (.pattern p.1 q.1)) := fun k m hk hf => by
    by_cases e : k = r
    · rw [e, hfr] at hf; cases hf
    · obtain ⟨m', h1, h2⟩ := hrest k hk e
      rw [hf] at h1; cases h1; exact h2
  refine ⟨fun k hk => ?_, ⟨r, ((hid r).mp hr).1, ?_, fun k hk hkr => ?_⟩, ?_, fun x hx => ?_⟩
  · have h1 : f k = none := J.out k fun z => hk ((hid k).mp z).1
    have h2 : ¬ p.1 = k := fun z => hk (z ▸ hpi)
    simp only [h1, h2, if_false]
  · have h2 : ¬ p.1 = r := fun z => hrp z.symm
    simp only [hfr, h2, if_false]
  · by_cases e : k = p.1
    · subst e
      exact ⟨q.1, by simp only [hfp, if_true], hqi⟩
    · obtain ⟨m, h1, h2⟩ := hrest k ((hid k).mpr ⟨hk, e⟩) hkr
      exact ⟨m, by simp only [h1], ((hid m).mp h2).1⟩
  · obtain ⟨rk, h1, h2⟩ := J.rank
    refine ⟨fun k => if k = p.1 then 0 else rk k + 1, fun k hk => ?_, fun k hk m hf => ?_⟩
    · by_cases e : k = p.1
      · simp only [e, if_true]; omega
      · simp only [e, if_false]
        have := h1 k ((hid k).mpr ⟨hk, e⟩)
        omega
    · by_cases e : k = p.1
      · subst e
        simp only [hfp, if_true] at hf
        cases hf
        simp only [if_true, Ne.symm hne, if_false]
        omega
      · have hk' := (hid k).mpr ⟨hk, e⟩
        have e2 : ¬ p.1 = k := fun z => e z.symm
        cases hfk : f k with
        | none => simp only [hfk, e2, if_false] at hf; cases hf
        | some m' =>
          simp only [hfk] at hf
          cases hf
          have hm := ((hid m).mp (kept k m hk' hfk)).2
          have := h2 k hk' m hfk
          simp only [e, hm, if_false]
          omega
  · have hx' : ∃ a ∈ doStep l (.pattern p.1 q.1), x ∈ a.2 := by
      obtain ⟨a, ha, hxa⟩ := hx
      by_cases e : a.1 = p.1
      · have := same_num ok ha hp e
        subst this
        exact ⟨q, List.mem_filter.mpr ⟨hq, by simpa using Ne.symm hne⟩, by simpa using hsub x hxa⟩
      · exact ⟨a, List.mem_filter.mpr ⟨ha, by simpa using e⟩, hxa⟩
    have := J.tops x hx'
    rw [← this]
    congr 1
    conv => rhs; arg 2; unfold doStep
    rw [List.filter_filter]
    refine List.filter_congr fun a ha => ?_
    by_cases e : a.1 = p.1
    · have := same_num ok ha hp e
      subst this
      simp only [ne_eq, not_true_eq_false, decide_false, Bool.and_false]
      unfold topL
      simp only [hfp, if_true]
      by_cases hxa : x ∈ a.2
      · have hxq : x ∈ q.2 := by simpa using hsub x hxa
        rw [Bool.and_eq_false_iff]
        right
        rw [List.all_eq_false]
        exact ⟨q, hq, by simp [hxq]⟩
      · simp [hxa]
    · have e2 : ¬ p.1 = a.1 := fun z => e z.symm
      simp only [ne_eq, e, not_false_eq_true, decide_true, Bool.and_true]
      unfold topL
      cases hf : f a.1 with
      | none => simp only [hf, e2, if_false]
      | some m =>
        simp only [hf]
        congr 1
        have hm := ((hid m).mp (kept a.1 m ((hid _).mpr ⟨mem_ids.mpr ⟨a, ha, rfl⟩, e⟩) hf)).2
        rw [Bool.eq_iff_iff, List.all_eq_true, List.all_eq_true]
        constructor
        · intro h1 b hb
          exact h1 b (List.mem_filter.mp hb).1
        · intro h1 b hb
          by_cases e3 : b.1 = m
          · exact h1 b (List.mem_filter.mpr ⟨hb, by rw [decide_eq_true_iff, e3]; exact hm⟩)
          · simp [e3]
theorem jt_run : ∀ (n : Nat) (l : Left), LeftOk l → (runF n l).2.length = 1 → JT l (parOf (runF n l).1)
  | 0, l, ok, h => jt_one h
  | n + 1, l, ok, h => by
    unfold runF at h ⊢
    cases ha : anyStep l with
    | none => rw [ha] at h; exact jt_one h
    | some s =>
      rw [ha] at h
      have ih := jt_run n (doStep l s) (doStep_ok ok s) h
      cases s with
      | letter x => exact jt_letter ok ha ih
      | pattern i j => exact jt_pattern ok ha ih
end Q11
set_option Elab.async false
set_option linter.all false
set_option maxRecDepth 100000
set_option maxHeartbeats 4000000
namespace Q11
open PySem PySem.Spec L2 PL
open PyProof.Rows hiding St
def enumL (sh : List (List Str)) : Left := (List.range sh.length).map fun i => (i, sh.getD i [])
theorem enum_len (sh : List (List Str)) : (enumL sh).length = sh.length := by simp [enumL]
theorem enum_ids (sh : List (List Str)) : ids (enumL sh) = List.range sh.length := by simp [ids, enumL, Function.comp_def]
theorem enum_ok {sh : List (List Str)} (h6 : sh.length ≤ 6) (h4 : ∀ p ∈ sh, p.length ≤ 4) : LeftOk (enumL sh) := by
  refine ⟨by have := enum_ids sh; unfold ids at this; rw [this]; exact List.nodup_range, by rw [enum_len]; exact h6, fun p hp => ?_⟩
  obtain ⟨i, hi, rfl⟩ := List.mem_map.mp hp
  have hi := List.mem_range.mp hi
  rw [List.getD_eq_getElem?_getD, List.getElem?_eq_getElem hi]
  exact h4 _ (List.getElem_mem hi)
theorem fold_len : ∀ (ss : List Stp) (ps : List (Option Nat)), (ss.foldl parStep ps).length = ps.length
  | [], ps => rfl
  | .letter x :: ss, ps => fold_len ss ps
  | .pattern a b :: ss, ps => by rw [List.foldl_cons, fold_len ss]; simp [parStep]
theorem par_list (ss : List Stp) (n : Nat) : parentsBy ss n = (List.range n).map (parOf ss) := by
  refine List.ext_getElem? fun i => ?_
  rcases Nat.lt_or_ge i n with h | h
  · unfold parentsBy
    rw [par_fold ss _ i (by simpa using h)]
    rw [List.getElem?_map, List.getElem?_range h, List.getElem?_replicate, if_pos h]
    show _ = some (parOf ss i)
    cases hp : parOf ss i <;> rfl
  · rw [List.getElem?_eq_none (by unfold parentsBy; rw [fold_len]; simpa using h), List.getElem?_eq_none (by simpa using h)]
theorem filter_one {l : List Nat} (hn : l.Nodup) {p : Nat → Bool} {r : Nat} (hr : r ∈ l) (hp : p r = true) (hu : ∀ k ∈ l, k ≠ r → p k = false) : (l.filter p).length = 1 := by
  induction l with
  | nil => cases hr
  | cons a l ih =>
    rw [List.nodup_cons] at hn
    rw [List.filter_cons]
    rcases List.mem_cons.mp hr with rfl | hr
    · rw [hp, if_pos rfl, List.length_cons]
      have : l.filter p = [] := by
        rw [List.filter_eq_nil_iff]
        intro k hk
        rw [hu k (List.mem_cons_of_mem _ hk) fun z => hn.1 (z ▸ hk)]
        decide
      rw [this]; rfl
    · rw [hu a (List.mem_cons_self ..) fun z => hn.1 (z ▸ hr), if_neg (by decide)]
      exact ih hn.2 hr fun k hk => hu k (List.mem_cons_of_mem _ hk)
theorem join_of {sh : List (List Str)} {ss : List Stp} (J : JT (enumL sh) (parOf ss)) : JoinTree sh (parentsBy ss sh.length) := by
  have hid := enum_ids sh
  have hlen := enum_len sh
  have hget : ∀ k, k < sh.length → (parentsBy ss sh.length)[k]? = some (parOf ss k) := fun k hk => by rw [par_list, List.getElem?_map, List.getElem?_range hk]; rfl
  have hgd : ∀ k, k < sh.length → (parentsBy ss sh.length).getD k none = parOf ss k := fun k hk => by rw [List.getD_eq_getElem?_getD, hget k hk]; rfl
  obtain ⟨r, hr, hfr, hrest⟩ := J.root
  obtain ⟨rk, hk1, hk2⟩ := J.rank
  rw [hid] at hr hrest hk1 hk2
  rw [hlen] at hk1
  have hr' := List.mem_range.mp hr
  have rngs : ∀ k j, k < sh.length → parOf ss k = some j → j < sh.length ∧ j ≠ k := fun k j hk hf => by
    have hkm := List.mem_range.mpr hk
    have hkr : k ≠ r := fun z => by rw [z, hfr] at hf; cases hf
    obtain ⟨m, h1, h2⟩ := hrest k hkm hkr
    rw [hf] at h1; cases h1
    exact ⟨List.mem_range.mp h2, fun z => by have := hk2 k hkm j hf; rw [z] at this; exact Nat.lt_irrefl _ this⟩
  refine ⟨by rw [par_list]; simp, ?_, fun k j h => ?_, fun k hk => ?_, fun p hp x hx => ?_⟩
  · rw [par_list, filter_congr_len (p := fun k => (parOf ss k).isNone) fun a _ => rfl]
    refine filter_one List.nodup_range hr (by rw [hfr]; rfl) fun k hk hkr => ?_
    obtain ⟨m, h1, _⟩ := hrest k hk hkr
    rw [h1]; rfl
  · have hk : k < sh.length := by
      have := (List.getElem?_eq_some_iff.mp h).1
      rw [par_list] at this
      simpa using this
    rw [hget k hk] at h
    exact rngs k j hk (Option.some.inj h)
  · have hup : ∀ m, upN (parentsBy ss sh.length) m k < sh.length ∧ (parOf ss (upN (parentsBy ss sh.length) m k) = none ∨ m ≤ rk (upN (parentsBy ss sh.length) m k)) := fun m => by
      induction m with
      | zero => exact ⟨hk, .inr (Nat.zero_le _)⟩
      | succ m ih =>
        obtain ⟨i1, i2⟩ := ih
        show (match (parentsBy ss sh.length).getD (upN (parentsBy ss sh.length) m k) none with | some j => j | none => upN (parentsBy ss sh.length) m k) < _ ∧ (parOf ss (match (parentsBy ss sh.length).getD (upN (parentsBy ss sh.length) m k) none with | some j => j | none => upN (parentsBy ss sh.length) m k) = none ∨ _ ≤ rk (match (parentsBy ss sh.length).getD (upN (parentsBy ss sh.length) m k) none with | some j => j | none => upN (parentsBy ss sh.length) m k))
        rw [hgd _ i1]
        cases hf : parOf ss (upN (parentsBy ss sh.length) m k) with
        | none => exact ⟨i1, .inl hf⟩
        | some j =>
          refine ⟨(rngs _ j i1 hf).1, .inr ?_⟩
          rcases i2 with i2 | i2
          · rw [hf] at i2; cases i2
          · have := hk2 _ (List.mem_range.mpr i1) j hf
            show m + 1 ≤ rk j
            omega
    obtain ⟨u1, u2⟩ := hup sh.length
    rw [hget _ u1]
    rcases u2 with u2 | u2
    · rw [u2]
    · have := hk1 _ (List.mem_range.mpr u1)
      omega
  · obtain ⟨i, hi, e⟩ := List.getElem_of_mem hp
    have hgi : ∀ k (hk : k < sh.length), sh.getD k [] = sh[k] := fun k hk => by rw [List.getD_eq_getElem?_getD, List.getElem?_eq_getElem hk]; rfl
    have := J.tops x ⟨(i, sh.getD i []), List.mem_map.mpr ⟨i, List.mem_range.mpr hi, rfl⟩, by rw [hgi i hi, e]; exact hx⟩
    rw [← this]
    symm
    conv => lhs; arg 1; arg 2; unfold enumL
    refine filter_congr_len fun k hk => ?_
    have hk := List.mem_range.mp hk
    unfold topAt topL
    rw [hgd k hk]
    cases hf : parOf ss k with
    | none => simp only [hf]
    | some j =>
      simp only [hf]
      congr 1
      have hj := (rngs k j hk hf).1
      rw [Bool.eq_iff_iff, decide_eq_true_iff, List.all_eq_true]
      constructor
      · intro h b hb
        obtain ⟨m, hm, rfl⟩ := List.mem_map.mp hb
        rw [decide_eq_true_iff]
        intro z
        have z : m = j := z
        subst z; exact h
      · intro h
        have := h (j, sh.getD j []) (List.mem_map.mpr ⟨j, List.mem_range.mpr hj, rfl⟩)
        rw [decide_eq_true_iff] at this
        exact this rfl
theorem runF_some {n : Nat} {l : Left} {s : Stp} (h : anyStep l = some s) : runF (n + 1) l = (s :: (runF n (doStep l s)).1, (runF n (doStep l s)).2) := by
  conv => lhs; unfold runF
  rw [h]
theorem runF_none {n : Nat} {l : Left} (h : anyStep l = none) : runF (n + 1) l = ([], l) := by
  conv => lhs; unfold runF
  rw [h]
theorem run_walk : ∀ (n : Nat) (l : Left), LeftOk l → ∀ k : Nat, k ≤ (runF n l).1.length → ∃ l' m, LeftOk l' ∧ ((runF n l).1.take k).foldl doStep l = l' ∧ runF m l' = ((runF n l).1.drop k, (runF n l).2)
  | n, l, ok, 0, _ => ⟨l, n, ok, rfl, rfl⟩
  | 0, l, ok, k + 1, h => by simp [runF] at h
  | n + 1, l, ok, k + 1, h => by
    cases ha : anyStep l with
    | none => rw [runF_none ha] at h; simp at h
    | some s =>
      rw [runF_some ha] at h ⊢
      obtain ⟨l', m, h1, h2, h3⟩ := run_walk n (doStep l s) (doStep_ok ok s) k (by simpa using h)
      exact ⟨l', m, h1, h2, h3⟩
theorem run_head {n : Nat} {l : Left} {s : Stp} {ss : List Stp} {l2 : Left} (h : runF n l = (s :: ss, l2)) : anyStep l = some s := by
  cases n with
  | zero => unfold runF at h; cases h
  | succ n =>
    unfold runF at h
    cases ha : anyStep l with
    | none => rw [ha] at h; cases h
    | some t => rw [ha] at h; cases h; rfl
theorem step_ne {l : Left} {s : Stp} (h : anyStep l = some s) : doStep l s ≠ [] := by
  cases s with
  | letter x =>
    have := (any_letter h).1
    intro z
    have hl : (doStep l (.letter x)).length = l.length := by simp [doStep]
    rw [z, List.length_nil] at hl
    omega
  | pattern i j =>
    obtain ⟨p, q, hp, hq, rfl, rfl, hin⟩ := any_pattern h
    unfold inner at hin
    rw [Bool.and_eq_true, decide_eq_true_iff] at hin
    have : q ∈ doStep l (.pattern p.1 q.1) := List.mem_filter.mpr ⟨hq, by simpa using Ne.symm hin.1⟩
    exact fun z => by rw [z] at this; cases this
theorem run_ne : ∀ (n : Nat) (l : Left), l ≠ [] → (runF n l).2 ≠ []
  | 0, l, h => h
  | n + 1, l, h => by
    unfold runF
    cases ha : anyStep l with
    | none => exact h
    | some s => exact run_ne n (doStep l s) (step_ne ha)
end Q11
set_option Elab.async false
set_option linter.all false
set_option maxRecDepth 100000
set_option maxHeartbeats 4000000
namespace Q11
open PySem PySem.Spec L2 PL
open PyProof.Rows hiding St
def theRun (sh : List (List Str)) : List Stp × Left := runF (size (enumL sh)) (enumL sh)
def apartP (sh : List (List Str)) : PV := if (theRun sh).2.length = 1 then .tup [.str "tree", .lst ((parentsBy (theRun sh).1 sh.length).map optP)] else .tup [.str "core", .lst ((theRun sh).1.map stp), .lst ((theRun sh).2.map np)]
structure ShOk (sh : List (List Str)) : Prop where
  ne : sh ≠ []
  six : sh.length ≤ 6
  four : ∀ p ∈ sh, p.length ≤ 4
def fApart : PF := fun ds Q => ∃ sh : List (List Str), ds = [.lst (sh.map ld)] ∧ ShOk sh ∧ Q (apartP sh) .frz
theorem mono_Apart : MonoF fApart := fun ds Q Q' m ⟨l, e, h, q⟩ => ⟨l, e, h, m _ _ q⟩
def fRight : PF := fun ds Q => ∃ sh : List (List Str), ds = [.lst (sh.map ld)] ∧ ShOk sh ∧ Q (.bl true) .frz
theorem mono_Right : MonoF fRight := fun ds Q Q' m ⟨l, e, h, q⟩ => ⟨l, e, h, m _ _ q⟩
local macro_rules | `(tactic| walk_at "pu") => `(tactic| simp only [pSeq, pSet, pRet, pRetN, pIf, pDrop, pNext, pBreak, pCont, pDropM, pSetM, mApp, mAppM, mPopAt, mExtT, pUnp, gNameP, gNilP, gConsP, gTupP, t2, i0, i2, pVar, pC, pCons, pNil, pTup, pLst, noOwn, isOwn, tBl, tAndP, tOrP, tNotP, tTru, tTrue, TruP, tNotE, tAndE, tOrE, tIfE, pEq, pIn, pIsN, pIx, pCat, PL.tB, fLen, LenP, fList, fTuple, fSortS, fIsi, tCallP, pSortSet, pJoin, pSlL, pRev, oNone, oSome, pComp, iRange1, iRange2, iLst, iTupl, pDG, pDI, tOrT, pChain, fMax2, fMin2, fMin3, fAll, fListS, fListD, pDictEnum, pSlS, pSetIx, pPutIx, mDPop, iDic, pCompD, pFor, pWhile, PL.plain, startP, retOut, blkP, List.map_cons, List.map_nil, List.length_cons, List.length_nil, List.cons_append, List.nil_append, List.replicate, List.getElem?_cons_zero, List.getElem?_cons_succ, List.getElem?_nil, Option.getD_some, Option.getD_none, List.set_cons_zero, List.set_cons_succ, List.cons.injEq,
  Option.some.injEq, Prod.mk.injEq, PV.int.injEq, PV.bl.injEq, PV.str.injEq, PV.lst.injEq, PV.tup.injEq, PV.ty.injEq, PV.dK.injEq, exists_eq_left', exists_eq_left, exists_eq', exists_eq, exists_and_left, exists_and_right, exists_eq_right, true_and, and_true, reduceCtorEq, false_and, and_false, false_or, or_false, exists_false, exists_const, Bool.false_eq_true, if_true, if_false, and_assoc, ite_true, ite_false, Bool.not_eq_true', decide_eq_true_eq, decide_eq_false_iff_not, Bool.not_false, Bool.not_true, true_or, or_true, not_true_eq_false, not_false_eq_true, Bool.and_eq_true, Nat.zero_add, Nat.sub_self, Nat.reduceAdd, Nat.reduceSub, implies_true, ne_eq, noMutR, noMut, noMutL, Bool.true_and, Bool.and_true, List.all_nil, fApart, fIsTree, fStepped, fStuck, pFrz, frzAt])
local macro_rules | `(tactic| walk_at "go") => `(tactic| ((first | (with_reducible refine hold ?_) | (with_reducible refine holdT ?_)); walk_at "pu"))
local macro_rules | `(tactic| walk_at "side") => `(tactic| first | assumption | decide | omega | exact ⟨by decide, by decide⟩ | exact ⟨by decide, by decide, by decide⟩ | exact Or.inl ⟨by omega, by omega⟩ | exact Or.inr ⟨by omega, by omega⟩)
local macro_rules | `(tactic| walk_at "auto") => `(tactic| repeat (first | ((with_reducible refine hold ?_); walk_at "pu") | ((with_reducible refine holdT ?_); walk_at "pu") | ((with_reducible refine And.intro ?_ ?_); (· walk_at "side"))))
section
variable {P : Program} {w : World} {K : PySem.W.Frag} {mg : Str → Option Value} {base : Heap}
theorem plain_ld (p : List Str) : PL.plain 5 (ld p) = true := by simp [PL.plain, ld]
theorem run_nil {m : Nat} {l l3 : Left} (h : runF m l = ([], l3)) : l3 = l := by
  cases m with
  | zero => unfold runF at h; cases h; rfl
  | succ m =>
    cases ha : anyStep l with
    | none => rw [runF_none ha] at h; cases h; rfl
    | some s => rw [runF_some ha] at h; cases h
theorem plain_np (l : Left) : (l.map np).all (PL.plain 5) = true := by
  rw [List.all_map, List.all_eq_true]; intro p _; simp [PL.plain, np, ld]
theorem noMut_strs : ∀ (p : List Str), noMutL (p.map PV.str) = true
  | [] => rfl
  | x :: p => by simp only [List.map_cons, noMutL, noMut, Bool.true_and]; exact noMut_strs p
theorem noMut_np : ∀ (l : Left), noMutL (l.map np) = true
  | [] => rfl
  | p :: l => by simp only [List.map_cons, noMutL, np, ld, noMut, Bool.true_and, Bool.and_true, noMut_strs]; exact noMut_np l
theorem scRight : FnScope ["_law_shape_here", "_law_handed", "_law_told", "_law_left", "_law_step"] ["_law_shape_here"] (defScope sRight) := ⟨rfl, rfl, rfl, by decide +kernel, rfl, by decide +kernel, by decide +kernel⟩
theorem ok_Right {f f1 f2 f3 f4 f5 f6 f7 : Addr} {fd fd1 fd2 fd3 fd4 fd5 fd6 fd7 : FuncData} (F : Fun K "_law_right" "_law_right" sRight f fd) (Apart : Fx K mg "apart" sApart ["shape"] f1 fd1) (GApart : FnOk P w K mg base CX0 4 f1 fd1 ["shape"] (spP K fApart))
    (IsTree : Fx K mg "_law_is_tree" sIsTree ["_law_shape_here", "_law_found"] f2 fd2) (Stepped : Fx K mg "_law_stepped" sStepped ["_law_left", "_law_step"] f3 fd3) (Stuck : Fx K mg "_law_stuck" sStuck ["_law_left"] f4 fd4)
    (Holders : Fx K mg "_law_holders" sHolders ["_law_left", "_law_letter"] f5 fd5) (Within : Fx K mg "_law_within" sWithin ["_law_left", "_law_i", "_law_j"] f6 fd6) (Whole : Fx K mg "_law_whole" sWhole ["_law_found"] f7 fd7) (B : Bl mg) : FnOk P w K mg base CX0 5 f fd ["_law_shape_here"] (spP K fRight) := by
  have GIsTree : FnOk P w K mg base CX0 4 f2 fd2 ["_law_shape_here", "_law_found"] (spP K fIsTree) := (ok_IsTree IsTree.fn Whole B).mono (by decide)
  have GStepped : FnOk P w K mg base CX0 4 f3 fd3 ["_law_left", "_law_step"] (spP K fStepped) := (ok_Stepped Stepped.fn Holders Within Whole B).mono (by decide)
  have GStuck : FnOk P w K mg base CX0 4 f4 fd4 ["_law_left"] (spP K fStuck) := (ok_Stuck Stuck.fn Holders Within B).mono (by decide)
  refine fn_pure F scRight (fun ds Q ⟨h, e, _⟩ => by rw [e]; rfl) (fun cdv A outer s H E hr => ?_)
  have hu : (A.deeper (envOfC "_law_right" (defScope sRight) s.heap.objs.size f cdv)).units + 16 < cLine := by have q := hr.units; omega
  have nd := scRight.nd
  refine ⟨_, (puss_cons (pus_set (i := 1) nd rfl (Or.inl rfl) (pu_list rfl B.list (pua_cons (pu_var 0) pua_nil)))
      (puss_cons (pus_frz 1 (pus_set (i := 2) nd rfl (Or.inl rfl) (pu_call GApart mono_Apart hr rfl Apart.mg Apart.fn.kp Apart.bd (pua_cons (pu_var 1) pua_nil))))
      (puss_cons (pus_if (PuW.t (puw_or (put_not (put_tru (pu_isi (K := K) rfl rfl B.isi (pua_cons (pu_var 2) (pua_cons (pu_ty rfl B.tuple bTuple) pua_nil))))) (puw_or (put_lt (pu_len rfl B.len (pua_cons (pu_var 2) pua_nil)) pu_int) (puw_or (put_not (put_tru (pu_isi (K := K) rfl rfl B.isi (pua_cons (pu_item (pu_var 2) pu_int) (pua_cons (pu_ty rfl B.str bStr) pua_nil))))) (puw_or1 (put_ne hu (pu_var 1) (pu_var 0))))))) (puss_one (pus_ret pu_bl)) puss_nil)
      (puss_cons (pus_if (PuW.t (puw_and (put_eq hu (pu_item (pu_var 2) pu_int) pu_str) (puw_and1 (put_eq hu (pu_len rfl B.len (pua_cons (pu_var 2) pua_nil)) pu_int)))) (puss_one (pus_ret (pu_call GIsTree mono_IsTree hr rfl IsTree.mg IsTree.fn.kp IsTree.bd (pua_cons (pu_var 0) (pua_cons (pu_item (pu_var 2) pu_int) pua_nil))))) puss_nil)
      (puss_cons (pus_if (PuW.t (puw_or (put_ne hu (pu_item (pu_var 2) pu_int) pu_str) (puw_or (put_ne hu (pu_len rfl B.len (pua_cons (pu_var 2) pua_nil)) pu_int) (puw_or (put_not (put_tru (pu_isi (K := K) rfl rfl B.isi (pua_cons (pu_item (pu_var 2) pu_int) (pua_cons (pu_ty rfl B.list bList) pua_nil))))) (puw_or1 (put_not (put_tru (pu_isi (K := K) rfl rfl B.isi (pua_cons (pu_item (pu_var 2) pu_int) (pua_cons (pu_ty rfl B.list bList) pua_nil)))))))))) (puss_one (pus_ret pu_bl)) puss_nil)
      (puss_cons (pus_comp (i := 3) (N := ["_law_i", "_law_shape_here"]) (k := 1) (js := [0]) rfl (cp_of (sup := defScope sRight) (XN := ["_law_shape_here", "_law_handed", "_law_told", "_law_left", "_law_step"]) rfl rfl (by decide +kernel)) (by decide) (loc_name (by decide)) (pui_range1 rfl B.range (pua_cons (pu_len rfl B.len (pua_cons (pu_var 0) pua_nil)) pua_nil)) ⟨fun _ _ _ _ _ => (pug_name (i := 0) (by show (["_law_i", "_law_shape_here"] : List Str).Nodup; decide +kernel) rfl (Or.inl rfl)), fun _ _ _ _ _ => puts_nil, fun _ _ _ _ _ => (pu_tup (pua_cons (pu_var 0) (pua_cons (pu_item (pu_var 1) (pu_var 0)) pua_nil)))⟩ nd rfl rfl)
      (puss_cons (pus_for rfl PassesOwn.never (pui_list (pu_item (pu_var 2) pu_int)) (pug_name (i := 4) nd rfl (Or.inl rfl)) (puss_cons (pus_set (i := 3) nd rfl (Or.inl rfl) (pu_call GStepped mono_Stepped hr rfl Stepped.mg Stepped.fn.kp Stepped.bd (pua_cons (pu_var 3) (pua_cons (pu_var 4) pua_nil))))
      (puss_one (pus_if (put_isN (pu_var 3) pu_non) (puss_one (pus_ret pu_bl)) puss_nil))))
      (puss_one (pus_ret (pu_and (pu_eq hu (pu_item (pu_var 2) pu_int) (pu_var 3)) (pu_one (pu_call GStuck mono_Stuck hr rfl Stuck.mg Stuck.fn.kp Stuck.bd (pua_cons (pu_var 3) pua_nil))))))))))))), fun ds Q h => ?_⟩
  obtain ⟨sh, rfl, ok, q⟩ := h
  have hshl : sh.length ≤ 6 := ok.six
  have plsh : (sh.map ld).all (PL.plain 5) = true := by rw [List.all_map, List.all_eq_true]; intro p _; exact plain_ld p
  walk_at "pu"
  walk_at "go"
  refine ⟨sh, rfl, ok, ?_⟩
  unfold apartP
  by_cases h1 : (theRun sh).2.length = 1
  · rw [if_pos h1]
    walk_at "go"
    refine ⟨true, kit_same, ?_⟩
    rw [if_neg (by decide), if_neg (by decide)]
    refine ⟨_, atI_nat (j := 0) rfl, (fun n z => nomatch z), true, kit_same, ?_⟩
    rw [if_neg (by decide)]
    refine ⟨plsh, plsh, ?_⟩
    walk_at "go"
    walk_at "go"
    refine ⟨_, atI_nat (j := 0) rfl, rfl, ?_⟩
    rw [if_pos rfl, if_pos (by decide)]
    walk_at "go"
    have J := join_of (jt_run (size (enumL sh)) (enumL sh) (enum_ok ok.six ok.four) h1)
    exact ⟨_, atI_nat (j := 1) rfl, sh, rfl, _, rfl, ok.six, J, q⟩
  · rw [if_neg h1]
    walk_at "go"
    refine ⟨true, kit_same, ?_⟩
    rw [if_neg (by decide), if_neg (by decide)]
    refine ⟨_, atI_nat (j := 0) rfl, (fun n z => nomatch z), true, kit_same, ?_⟩
    rw [if_neg (by decide)]
    refine ⟨plsh, plsh, ?_⟩
    walk_at "go"
    walk_at "go"
    refine ⟨_, atI_nat (j := 0) rfl, rfl, ?_⟩
    rw [if_neg (fun z => by injection z with z; exact absurd z (by decide +kernel))]
    walk_at "go"
    walk_at "go"
    refine ⟨_, atI_nat (j := 0) rfl, rfl, ?_⟩
    rw [if_neg (fun z => z rfl), if_neg (by decide)]
    refine ⟨_, atI_nat (j := 1) rfl, (fun n z => nomatch z), true, kit_same, ?_⟩
    rw [if_neg (by decide)]
    refine ⟨_, atI_nat (j := 2) rfl, (fun n z => nomatch z), true, kit_same, ?_⟩
    rw [if_neg (by decide)]
    walk_at "go"
    walk_at "go"
    rw [List.length_map]
    have hrl : (rngP 0 ((sh.length : Int).toNat)).length = sh.length := by rw [rngP_len]; omega
    rw [hrl]
    refine ⟨by omega, by omega, by rw [sizeLine_eq]; omega, fun m out => out = ((enumL sh).take m).map np, rfl, ?_, ?_⟩
    · rintro m d out hd - rfl
      obtain ⟨hm, rfl⟩ := rngP_get hd
      have hm1 : m < sh.length := by omega
      have hs1 : atI (sh.map ld) (0 + (m : Int)) = some (ld sh[m]) := by rw [Int.zero_add]; exact atI_nat (by simp [hm1])
      have hg1 : sh.getD m [] = sh[m] := by rw [List.getD_eq_getElem?_getD, List.getElem?_eq_getElem hm1]; rfl
      refine ⟨_, rfl, _, hs1, by decide, ?_⟩
      have hgm : (enumL sh)[m]? = some (m, sh[m]) := by unfold enumL; rw [List.getElem?_map, List.getElem?_range hm1]; show some (m, sh.getD m []) = _; rw [hg1]
      show _ = _
      rw [List.take_add_one, hgm, Int.zero_add]
      simp [np]
    · rintro out - rfl
      rw [List.take_of_length_le (by rw [enum_len]; exact Nat.le_refl _)]
      walk_at "go"
      obtain ⟨Iv, hIv⟩ : ∃ Iv : Nat → PEnv → Prop, ∀ i ρ, Iv i ρ ↔ ∃ (k4 : Option (PV × Bool)) (l' : Left), ρ = [some (PV.lst (List.map ld sh), false), some (PV.lst (List.map ld sh), false),
          some (PV.tup [PV.str (Str.ofString "core"), PV.lst (List.map stp (theRun sh).fst), PV.lst (List.map np (theRun sh).snd)], false), some (PV.lst (List.map np l'), true), k4] ∧ LeftOk l' ∧ ((theRun sh).1.take i).foldl doStep (enumL sh) = l' := ⟨_, fun _ _ => Iff.rfl⟩
      have eok := enum_ok ok.six ok.four
      refine ⟨_, atI_nat (j := 1) rfl, _, rfl, Iv, (hIv _ _).mpr ⟨none, enumL sh, rfl, eok, rfl⟩, ?_, ?_⟩
      · intro i d ρ hd hI
        obtain ⟨k4, l', rfl, lok, hl'⟩ := (hIv _ _).mp hI
        obtain ⟨st, hst, rfl⟩ : ∃ st, (theRun sh).1[i]? = some st ∧ d = stp st := by
          rw [List.getElem?_map] at hd
          cases hx : (theRun sh).1[i]? with
          | none => rw [hx] at hd; cases hd
          | some x => rw [hx] at hd; cases hd; exact ⟨x, rfl, rfl⟩
        have hil := (List.getElem?_eq_some_iff.mp hst).1
        obtain ⟨l2, m, hl2, he2, hr2⟩ := run_walk (size (enumL sh)) (enumL sh) eok i (Nat.le_of_lt hil)
        have hll : l2 = l' := by rw [← he2]; exact hl'
        subst hll
        have hdrop : (theRun sh).1.drop i = st :: (theRun sh).1.drop (i + 1) := by
          rw [List.drop_eq_getElem_cons hil]
          rw [List.getElem?_eq_getElem hil] at hst
          rw [Option.some.inj hst]
        have hany : anyStep l2 = some st := run_head (by rw [hr2]; exact congrArg (·, _) hdrop)
        have hstp := stepped_any lok hany
        walk_at "go"
        refine ⟨l2, rfl, st, rfl, lok, ?_⟩
        rw [hstp]
        refine ⟨noMut_np _, ?_⟩
        walk_at "go"
        rw [if_neg (fun z => nomatch z)]
        walk_at "go"
        refine (hIv _ _).mpr ⟨_, doStep l2 st, rfl, doStep_ok lok st, ?_⟩
        rw [List.take_add_one, hst, List.foldl_append, hl']
        rfl
      · intro ρ hI
        obtain ⟨k4, l', rfl, lok, hl'⟩ := (hIv _ _).mp hI
        walk_at "go"
        rw [List.length_map, List.take_of_length_le (Nat.le_refl _)] at hl'
        obtain ⟨l2, m, hl2, he2, hr2⟩ := run_walk (size (enumL sh)) (enumL sh) eok (theRun sh).1.length (Nat.le_refl _)
        have hfin : l' = (theRun sh).2 := by
          have e1 : l2 = l' := by
            rw [← he2, ← hl']
            show List.foldl doStep (enumL sh) (List.take (theRun sh).1.length (theRun sh).1) = _
            rw [List.take_of_length_le (Nat.le_refl _)]
          subst e1
          refine (run_nil (m := m) ?_).symm
          rw [hr2]
          show ((theRun sh).1.drop (theRun sh).1.length, (theRun sh).2) = ([], (theRun sh).2)
          rw [List.drop_length]
        have hst : stuckB l' = true := by
          rw [hfin] at lok ⊢
          have hn := run_done (size (enumL sh)) (enumL sh) (Nat.le_refl _)
          refine stuck_of lok hn ?_
          have hne := run_ne (size (enumL sh)) (enumL sh) (fun z => by
            have := enum_len sh
            rw [z] at this
            exact ok.ne (List.length_eq_zero_iff.mp this.symm))
          have : (theRun sh).2.length ≠ 0 := fun z => hne (List.length_eq_zero_iff.mp z)
          omega
        refine ⟨_, atI_nat (j := 2) rfl, plain_np _, plain_np _, ?_⟩
        rw [if_pos (by rw [hfin])]
        exact ⟨l', rfl, lok, by rw [hst]; exact q⟩
end
end Q11
set_option Elab.async false
set_option linter.all false
set_option maxRecDepth 100000
set_option maxHeartbeats 4000000
namespace Q11
open PySem PySem.Spec L2 PL
open PyProof.Rows hiding St
theorem run_ids : ∀ (n : Nat) (l : Left) (i j : Nat), Stp.pattern i j ∈ (runF n l).1 → i ∈ ids l
  | 0, l, i, j, h => by simp [runF] at h
  | n + 1, l, i, j, h => by
    cases ha : anyStep l with
    | none => rw [runF_none ha] at h; simp at h
    | some s =>
      rw [runF_some ha] at h
      rcases List.mem_cons.mp h with h | h
      · rw [← h] at ha
        obtain ⟨p, q, hp, hq, rfl, rfl, hin⟩ := any_pattern ha
        exact mem_ids.mpr ⟨p, hp, rfl⟩
      · have := run_ids n _ i j h
        cases s with
        | letter x => rw [ids_letter] at this; exact this
        | pattern a b =>
          obtain ⟨p, hp, e⟩ := mem_ids.mp this
          exact mem_ids.mpr ⟨p, (List.mem_filter.mp hp).1, e⟩
def fTakenApart : PF := fun ds Q => ∃ sh : List (List Str), ds = [.lst (sh.map ld)] ∧ ShOk sh ∧ Q (.tup [.lst ((theRun sh).1.map stp), .lst ((theRun sh).2.map np)]) .frz
theorem mono_TakenApart : MonoF fTakenApart := fun ds Q Q' m ⟨l, e, h, q⟩ => ⟨l, e, h, m _ _ q⟩
local macro_rules | `(tactic| walk_at "pu") => `(tactic| simp only [pSeq, pSet, pRet, pRetN, pIf, pDrop, pNext, pBreak, pCont, pDropM, pSetM, mApp, mAppM, mPopAt, mExtT, pUnp, gNameP, gNilP, gConsP, gTupP, t2, i0, i2, pVar, pC, pCons, pNil, pTup, pLst, noOwn, isOwn, tBl, tAndP, tOrP, tNotP, tTru, tTrue, TruP, tNotE, tAndE, tOrE, tIfE, pEq, pIn, pIsN, pIx, pCat, PL.tB, fLen, LenP, fList, fTuple, fSortS, fIsi, tCallP, pSortSet, pJoin, pSlL, pRev, oNone, oSome, pComp, iRange1, iRange2, iLst, iTupl, pDG, pDI, tOrT, pChain, fMax2, fMin2, fMin3, fAll, fListS, fListD, pDictEnum, pSlS, pSetIx, pPutIx, mDPop, iDic, pCompD, pFor, pWhile, PL.plain, startP, retOut, blkP, List.map_cons, List.map_nil, List.length_cons, List.length_nil, List.cons_append, List.nil_append, List.replicate, List.getElem?_cons_zero, List.getElem?_cons_succ, List.getElem?_nil, Option.getD_some, Option.getD_none, List.set_cons_zero, List.set_cons_succ, List.cons.injEq,
  Option.some.injEq, Prod.mk.injEq, PV.int.injEq, PV.bl.injEq, PV.str.injEq, PV.lst.injEq, PV.tup.injEq, PV.ty.injEq, PV.dK.injEq, exists_eq_left', exists_eq_left, exists_eq', exists_eq, exists_and_left, exists_and_right, exists_eq_right, true_and, and_true, reduceCtorEq, false_and, and_false, false_or, or_false, exists_false, exists_const, Bool.false_eq_true, if_true, if_false, and_assoc, ite_true, ite_false, Bool.not_eq_true', decide_eq_true_eq, decide_eq_false_iff_not, Bool.not_false, Bool.not_true, true_or, or_true, not_true_eq_false, not_false_eq_true, Bool.and_eq_true, Nat.zero_add, Nat.sub_self, Nat.reduceAdd, Nat.reduceSub, implies_true, ne_eq, noMutR, noMut, noMutL, Bool.true_and, Bool.and_true, List.all_nil, fTakenApart, fParentsBy])
local macro_rules | `(tactic| walk_at "go") => `(tactic| ((first | (with_reducible refine hold ?_) | (with_reducible refine holdT ?_)); walk_at "pu"))
local macro_rules | `(tactic| walk_at "side") => `(tactic| first | assumption | decide | omega | exact ⟨by decide, by decide⟩ | exact ⟨by decide, by decide, by decide⟩ | exact Or.inl ⟨by omega, by omega⟩ | exact Or.inr ⟨by omega, by omega⟩)
local macro_rules | `(tactic| walk_at "auto") => `(tactic| repeat (first | ((with_reducible refine hold ?_); walk_at "pu") | ((with_reducible refine holdT ?_); walk_at "pu") | ((with_reducible refine And.intro ?_ ?_); (· walk_at "side"))))
section
variable {P : Program} {w : World} {K : PySem.W.Frag} {mg : Str → Option Value} {base : Heap}
theorem scApart : FnScope ["shape", "done"] ["shape"] (defScope sApart) := ⟨rfl, rfl, rfl, by decide +kernel, rfl, by decide +kernel, by decide +kernel⟩
theorem ok_Apart {f f1 f2 : Addr} {fd fd1 fd2 : FuncData} (F : Fun K "apart" "apart" sApart f fd) (TakenApart : Fx K mg "taken_apart" sTakenApart ["shape"] f1 fd1) (GTakenApart : FnOk P w K mg base CX0 3 f1 fd1 ["shape"] (spP K fTakenApart))
    (ParentsBy : Fx K mg "parents_by" sParentsBy ["steps", "size"] f2 fd2) (B : Bl mg) : FnOk P w K mg base CX0 4 f fd ["shape"] (spP K fApart) := by
  have GParentsBy : FnOk P w K mg base CX0 3 f2 fd2 ["steps", "size"] (spP K fParentsBy) := (ok_ParentsBy ParentsBy.fn B).mono (by decide)
  refine fn_pure F scApart (fun ds Q ⟨h, e, _⟩ => by rw [e]; rfl) (fun cdv A outer s H E hr => ?_)
  have hu : (A.deeper (envOfC "apart" (defScope sApart) s.heap.objs.size f cdv)).units + 16 < cLine := by have q := hr.units; omega
  have nd := scApart.nd
  refine ⟨_, (puss_cons (pus_set (i := 1) nd rfl (Or.inl rfl) (pu_call GTakenApart mono_TakenApart hr rfl TakenApart.mg TakenApart.fn.kp TakenApart.bd (pua_cons (pu_var 0) pua_nil)))
      (puss_cons (pus_if (put_eq hu (pu_len rfl B.len (pua_cons (pu_item (pu_var 1) pu_int) pua_nil)) pu_int) (puss_one (pus_ret (pu_tup (pua_cons pu_str (pua_cons (pu_call GParentsBy mono_ParentsBy hr rfl ParentsBy.mg ParentsBy.fn.kp ParentsBy.bd (pua_cons (pu_item (pu_var 1) pu_int) (pua_cons (pu_len rfl B.len (pua_cons (pu_var 0) pua_nil)) pua_nil))) pua_nil))))) puss_nil)
      (puss_one (pus_ret (pu_tup (pua_cons pu_str (pua_cons (pu_item (pu_var 1) pu_int) (pua_cons (pu_item (pu_var 1) pu_int) pua_nil)))))))), fun ds Q h => ?_⟩
  obtain ⟨sh, rfl, ok, q⟩ := h
  have hshl : sh.length ≤ 6 := ok.six
  unfold apartP at q
  walk_at "pu"
  refine ⟨sh, rfl, ok, ?_⟩
  walk_at "go"
  refine ⟨_, atI_nat (j := 1) rfl, _, rfl, ?_⟩
  rw [List.length_map]
  refine ite2 (fun e => ?_) (fun e => ?_)
  · rw [if_pos (by omega)] at q
    walk_at "go"
    refine ⟨_, atI_nat (j := 0) rfl, (theRun sh).1, rfl, sh.length, by rw [List.length_map], by omega, fun i j h => ?_, by decide, q⟩
    have := run_ids _ _ i j h
    rw [enum_ids] at this
    exact List.mem_range.mp this
  · rw [if_neg (by omega)] at q
    walk_at "go"
    walk_at "go"
    refine ⟨_, atI_nat (j := 0) rfl, _, atI_nat (j := 1) rfl, by decide, q⟩
end
end Q11
set_option Elab.async false
set_option linter.all false
set_option maxRecDepth 100000
set_option maxHeartbeats 4000000
namespace PL
open PySem PySem.Spec L2
open PyProof.Rows hiding St
abbrev PFM := PV → List PV → (PV → PV → Prop) → Prop
def MonoM (F : PFM) : Prop := ∀ d ds Q Q', (∀ d e, Q d e → Q' d e) → F d ds Q → F d ds Q'
structure StepA (a : Addr) (Fz : FZ) (H : Hp) (Fz' : FZ) (H' : Hp) : Prop where
  sub : ∀ b, Fz b → Fz' b
  new : ∀ b, Fz' b → Fz b ∨ H b = none
  keep : ∀ b o, H b = some o → b ≠ a → H' b = some o
  al : ∀ b, Fz' b → H' b ≠ none
def spM (K : PySem.W.Frag) (F : PFM) : Sp := fun vs H Q _ => ∃ Fz a d0 ds vs', vs = .ref a :: vs' ∧ (∀ b, Fz b → H b ≠ none) ∧ ¬ Fz a ∧ Own K Fz H d0 a ∧ DenL K Fz H ds vs' ∧
  F d0 ds fun d0' d => ∀ v Fz' H', StepA a Fz H Fz' H' → Own K Fz' H' d0' a → Den K Fz' H' d v → Q v H'
theorem Rel.handed {K : PySem.W.Frag} {Fz Fz' : FZ} {ρ : PEnv} {σ : St} {H H' : Hp} {i : Nat} {d d' : PV} {a : Addr} (R : Rel K Fz ρ σ H) (hi : ρ[i]? = some (some (d, true))) (hs : σ[i]? = some (some (.ref a))) (s : StepA a Fz H Fz' H') (ow : Own K Fz' H' d' a) :
    Rel K Fz' (ρ.set i (some (d', true))) σ H' ∧ Step ρ σ Fz H Fz' H' ∧ OwnIn ρ σ H (ρ.set i (some (d', true))) σ := by
  obtain ⟨a', e', nf, ow0⟩ := R.own i d hi
  rw [hs] at e'; cases e'
  obtain ⟨oa, hoa, hni⟩ := ow0.at
  have hil : i < ρ.length := (List.getElem?_eq_some_iff.mp hi).1
  have nf' : ¬ Fz' a := fun z => (s.new a z).elim nf (fun z => by rw [hoa] at z; cases z)
  have kx : KeepX Fz H H' := fun b o e w => s.keep b o e fun z => by
    subst z
    rcases w with w | w
    · exact nf w
    · rw [hoa] at e; cases e; exact hni w
  have old : ∀ (j : Nat) (e : PV), (ρ.set i (some (d', true)))[j]? = some (some (e, true)) → (j = i ∧ e = d') ∨ (j ≠ i ∧ ρ[j]? = some (some (e, true))) := fun j e h => by
    by_cases z : j = i
    · subst z
      rw [List.getElem?_set_self hil] at h
      cases h; exact .inl ⟨rfl, rfl⟩
    · rw [List.getElem?_set_ne (Ne.symm z)] at h
      exact .inr ⟨z, h⟩
  refine ⟨⟨s.al, by rw [List.length_set]; exact R.len, fun j e h => ?_, fun j e h => ?_, fun j k e e2 b h1 h2 h3 h4 => ?_⟩, ⟨s.sub, fun b h => (s.new b h).elim .inl (fun z => .inr (.inl z)), fun b o e w => s.keep b o e fun z => w ?_⟩, fun b h => ?_⟩
  · by_cases z : j = i
    · subst z
      rw [List.getElem?_set_self hil] at h
      cases h
    · rw [List.getElem?_set_ne (Ne.symm z)] at h
      obtain ⟨v, q1, q2⟩ := R.frz j e h
      exact ⟨v, q1, Den.mono (.mk' kx) s.sub _ _ q2⟩
  · rcases old j e h with ⟨rfl, rfl⟩ | ⟨z, h⟩
    · exact ⟨a, hs, nf', ow⟩
    · obtain ⟨b, q1, q2, q3⟩ := R.own j e h
      have hb : b ≠ a := fun y => by subst y; exact z (R.inj j i e d b h hi q1 hs)
      refine ⟨b, q1, fun y => ?_, q3.mono (.mk' kx) s.sub fun o ho => s.keep b o ho hb⟩
      obtain ⟨ob, hob, _⟩ := q3.at
      exact (s.new b y).elim q2 (fun y => by rw [hob] at y; cases y)
  · have f1 : ∃ e', ρ[j]? = some (some (e', true)) := by
      rcases old j e h1 with ⟨rfl, _⟩ | ⟨_, h⟩
      · exact ⟨d, hi⟩
      · exact ⟨e, h⟩
    have f2 : ∃ e', ρ[k]? = some (some (e', true)) := by
      rcases old k e2 h2 with ⟨rfl, _⟩ | ⟨_, h⟩
      · exact ⟨d, hi⟩
      · exact ⟨e2, h⟩
    obtain ⟨x1, f1⟩ := f1
    obtain ⟨x2, f2⟩ := f2
    exact R.inj j k x1 x2 b f1 f2 h3 h4
  · subst z; exact ⟨i, d, hi, hs⟩
  · obtain ⟨j, e, h1, h2⟩ := h
    rcases old j e h1 with ⟨rfl, _⟩ | ⟨_, h⟩
    · exact .inl ⟨j, d, hi, h2⟩
    · exact .inl ⟨j, e, h, h2⟩
def mCallM (i : Nat) (F : PFM) (t : TPA) : TPM := fun ρ Q => ∃ d0, ρ[i]? = some (some (d0, true)) ∧ t ρ fun ops => noOwn ops = true ∧ F d0 (ops.map (·.1)) fun d0' d => Q d (ρ.set i (some (d0', true)))
section
variable {X : Cx} {k : Nat} {f : Addr} {fd : FuncData} {ps : List Str} {F : PFM} {x y : Str} {p p2 pos : Pos} {es : List Expr} {t : TPA}
theorem pum_call (i : Nat) (G : FnOk X.prog X.w X.K X.mg X.base CX0 k f fd ps (spM X.K F)) (m : MonoM F) (hr : Room k X.A) (hg : Gl X x) (hm : X.mg x = some (.ref f)) (hk : PySem.W.keepIn X.K (.ref f) = true) (hb : Binds X.K fd ps []) (ha : PuA X es t)
    (hN : X.N[i]? = some y := by rfl) (hv : Vis X.env.scope y := by first | exact Or.inl rfl | exact Or.inr (Or.inl rfl) | exact Or.inr (Or.inr rfl)) (hd2 : (y == ("__debug__" : Str)) = false := by decide) (hcd : (y == ("__classdict__" : Str)) = false := by decide)
    (hd : (x == ("__debug__" : Str)) = false := by decide) (he : starEach (.Name y p2 :: es) X.env = (false, eval (.Name y p2) X.env) :: starEach es X.env := by rfl) (hpl : (backTo pos (starEach es X.env)).any (·.1) = false := by rfl) :
    PuM X (.Call (.Name x p) (.Name y p2 :: es) [] pos) (mCallM i F t) where
  mono ρ Q Q' mm h := by
    obtain ⟨d0, e1, h⟩ := h
    exact ⟨d0, e1, ha.mono ρ _ _ (fun ops ⟨hn, h⟩ => ⟨hn, m _ _ _ _ (fun d e q => mm _ _ q) h⟩) h⟩
  run := PE.weak (pe_call G hr hg hm hk hb .nil pass0 (pa_cons (pe_var hN hv hd2 hcd) ha.run he) hd he hpl) fun σ H Q h => by
    obtain ⟨ρ, Fz, R, d0, e1, h⟩ := h
    obtain ⟨a, hs, nf, ow⟩ := R.own i d0 e1
    refine ⟨.ref a, hs, ρ, Fz, R, ha.mono ρ _ _ (fun ops h vs Fz' H' x o => ?_) h⟩
    obtain ⟨hn, h⟩ := h
    show spM X.K F ((.ref a :: vs) ++ []) H' Q E0
    rw [List.append_nil]
    obtain ⟨F2, x2, s2, h2⟩ := o.frozen x hn
    have R2 := R.ext x2
    obtain ⟨a', hs', nf', ow'⟩ := R2.own i d0 e1
    rw [hs] at hs'; cases hs'
    refine ⟨F2, a, d0, _, vs, rfl, x2.al, nf', ow', h2, m _ _ _ _ (fun d0' d q v F3 H3 st ow3 dv => ?_) h⟩
    obtain ⟨R3, s3, o3⟩ := R2.handed e1 hs st ow3
    exact q v F3 H3 ((Step.of x2).trans (OwnIn.refl ρ σ H) s3) (OwnIn.trans (Step.of x2) (OwnIn.refl ρ σ H) o3) R3 dv
end
end PL
set_option Elab.async false
set_option linter.all false
set_option maxRecDepth 100000
set_option maxHeartbeats 4000000
namespace PL
open PySem PySem.Spec L2
open PyProof.Rows hiding St
structure FOut where
  nx : PEnv → Prop
  rt : PEnv → Prop
structure FOut.le (O O' : FOut) : Prop where
  nx : ∀ ρ, O.nx ρ → O'.nx ρ
  rt : ∀ ρ, O.rt ρ → O'.rt ρ
abbrev TPF := PEnv → FOut → Prop
def outF (K : PySem.W.Frag) (z : Nat) (D : Ends) (ρ : PEnv) (σ : St) (Fz : FZ) (H : Hp) : FOut where
  nx := fun ρ' => ∀ σ' Fz' H', Step ρ σ Fz H Fz' H' → OwnIn ρ σ H ρ' σ' → Rel K Fz' ρ' σ' H' → σ'[z]? = σ[z]? → D.nx σ' H'
  rt := fun ρ' => ∀ σ' Fz' H', Step ρ σ Fz H Fz' H' → OwnIn ρ σ H ρ' σ' → Rel K Fz' ρ' σ' H' → σ'[z]? = σ[z]? → D.rt .non H'
def liftF (K : PySem.W.Frag) (z : Nat) (t : TPF) : TS := fun D σ H => ∃ ρ Fz, Rel K Fz ρ σ H ∧ t ρ (outF K z D ρ σ Fz H)
structure PuF1 (X : Cx) (z : Nat) (st : Stmt) (t : TPF) : Prop where
  mono : ∀ ρ O O', O.le O' → t ρ O → t ρ O'
  run : PS X st (liftF X.K z t)
structure PuF (X : Cx) (z : Nat) (st : List Stmt) (t : TPF) : Prop where
  mono : ∀ ρ O O', O.le O' → t ρ O → t ρ O'
  run : PSs X st (liftF X.K z t)
theorem outF_le {K : PySem.W.Frag} {z : Nat} {D D' : Ends} {ρ ρ' : PEnv} {σ σ' : St} {Fz Fz' : FZ} {H H' : Hp} (s : Step ρ σ Fz H Fz' H') (oi : OwnIn ρ σ H ρ' σ') (hz : σ'[z]? = σ[z]?) (h1 : ∀ σ H, D.nx σ H → D'.nx σ H) (h2 : ∀ v H, D.rt v H → D'.rt v H) :
    (outF K z D ρ σ Fz H).le (outF K z D' ρ' σ' Fz' H') where
  nx ρ2 q σ2 F2 H2 s2 o2 R2 e2 := h1 _ _ (q σ2 F2 H2 (s.trans oi s2) (OwnIn.trans s oi o2) R2 (e2.trans hz))
  rt ρ2 q σ2 F2 H2 s2 o2 R2 e2 := h2 _ _ (q σ2 F2 H2 (s.trans oi s2) (OwnIn.trans s oi o2) R2 (e2.trans hz))
theorem Step.stay {K : PySem.W.Frag} {ρ : PEnv} {σ : St} {Fz : FZ} {H : Hp} (R : Rel K Fz ρ σ H) : Step ρ σ Fz H Fz H := .of ⟨Same.refl H, fun _ h => h, fun _ h => .inl h, R.al⟩
section
variable {X : Cx} {z : Nat} {st : Stmt} {rest a b body : List Stmt} {t u v : TPF} {tm : TPM} {e c : Expr} {tc : TPT} {pos pos' p : Pos} {x : Str}
def fNext : TPF := fun ρ O => O.nx ρ
def fSeq (t u : TPF) : TPF := fun ρ O => t ρ { O with nx := fun ρ' => u ρ' O }
def fRetN : TPF := fun ρ O => O.rt ρ
def fDropM (tm : TPM) : TPF := fun ρ O => tm ρ fun _ ρ' => O.nx ρ'
def fIf (tc : TPT) (t u : TPF) : TPF := fun ρ O => tc ρ fun b => if b = true then t ρ O else u ρ O
def fFor (ti : TPI) (i : Nat) (tb : TPF) : TPF := fun ρ O => ti ρ fun its o => o = false ∧ ∃ Iv : Nat → PEnv → Prop, Iv 0 ρ ∧ (∀ k d ρ', its[k]? = some d → Iv k ρ' → tb (ρ'.set i (some (d, false))) { O with nx := Iv (k + 1) }) ∧ ∀ ρ', Iv its.length ρ' → O.nx ρ'
def fPut (i : Nat) (ti tv : TPE) : TPF := fun ρ O => tv ρ fun d k => isOwn k = false ∧ ∃ ks ds, ρ[i]? = some (some (.dK ks ds, true)) ∧ ks.length < sizeLine ∧ ti ρ fun e _ => ∃ c : Key, e = keyP c ∧
  O.nx (ρ.set i (some (if hasK ks c = true then .dK ks (putD ks ds c d) else .dK (ks ++ [c]) (ds ++ [d]), true)))
theorem puf_nil : PuF X z [] fNext where
  mono ρ O O' m h := m.nx _ h
  run := PSs.weak pss_nil fun D σ H h => by
    obtain ⟨ρ, Fz, R, h⟩ := h
    exact h σ Fz H (Step.stay R) (OwnIn.refl ρ σ H) R rfl
theorem puf_one (h1 : PuF1 X z st t) : PuF X z [st] t := ⟨h1.mono, pss_one h1.run⟩
theorem puf_cons (h1 : PuF1 X z st t) (h2 : PuF X z rest u) : PuF X z (st :: rest) (fSeq t u) where
  mono ρ O O' m h := h1.mono ρ { O with nx := fun ρ' => u ρ' O } _ ⟨fun ρ' q => h2.mono ρ' O O' m q, m.rt⟩ h
  run := PSs.weak (pss_cons h1.run h2.run) fun D σ H h => by
    obtain ⟨ρ, Fz, R, h⟩ := h
    refine ⟨ρ, Fz, R, h1.mono ρ { outF X.K z D ρ σ Fz H with nx := fun ρ' => u ρ' (outF X.K z D ρ σ Fz H) } _ ⟨fun ρ' q => ?_, fun _ q => q⟩ h⟩
    intro σ' Fz' H' s oi R' e
    exact ⟨ρ', Fz', R', h2.mono ρ' _ _ (outF_le s oi e (fun _ _ h => h) (fun _ _ h => h)) q⟩
theorem puf_retN : PuF1 X z (.Return none pos) fRetN where
  mono ρ O O' m h := m.rt _ h
  run := PS.weak ps_retN fun D σ H h => by
    obtain ⟨ρ, Fz, R, h⟩ := h
    exact h σ Fz H (Step.stay R) (OwnIn.refl ρ σ H) R rfl
theorem puf_exprM (he : PuM X e tm) (hs : swapsWith e none pos.line X.env = pure false := by rfl) : PuF1 X z (.Expr e pos) (fDropM tm) where
  mono ρ O O' m h := he.mono ρ _ _ (fun _ ρ' q => m.nx _ q) h
  run := PS.weak (ps_expr he.run hs) fun D σ H h => by
    obtain ⟨ρ, Fz, R, h⟩ := h
    exact ⟨ρ, Fz, R, he.mono ρ _ _ (fun d ρ' q v F' H' s o R' _ => q σ F' H' s o R' rfl) h⟩
theorem puf_if (hc : PuT X c tc) (ha : PuF X z a t) (hb : PuF X z b u) : PuF1 X z (.If c a b pos) (fIf tc t u) where
  mono ρ O O' m h := hc.mono ρ _ _ (fun b q => by
    cases b with
    | true => rw [if_pos rfl] at q ⊢; exact ha.mono ρ _ _ m q
    | false => rw [if_neg Bool.false_ne_true] at q ⊢; exact hb.mono ρ _ _ m q) h
  run := PS.weak (ps_if hc.run ha.run hb.run) fun D σ H h => by
    obtain ⟨ρ, Fz, R, h⟩ := h
    refine ⟨ρ, Fz, R, hc.mono ρ _ _ (fun b q F' H' x => ?_) h⟩
    have le := outF_le (K := X.K) (z := z) (D := D) (.of x) (OwnIn.refl ρ σ H) rfl (fun _ _ h => h) (fun _ _ h => h)
    cases b with
    | true => rw [if_pos rfl] at q; exact iteT ⟨ρ, F', R.ext x, ha.mono ρ _ _ le q⟩
    | false => rw [if_neg Bool.false_ne_true] at q; exact iteF ⟨ρ, F', R.ext x, hb.mono ρ _ _ le q⟩
theorem puf_for {i : Nat} {iter : Expr} {ti : TPI} (hN : X.N.Nodup) (hi : X.N[i]? = some x) (hx : Loc X.env.scope x) (hc : X.calm = true) (hp : PassesOwn (model X.prog X.w) X.A X.env X.xe) (hit : PuI X (.Name x p) iter ti) (hb : PuF X z body t) (hiz : i ≠ z := by decide)
    (hf : X.fn x = true ∨ X.env.scope.names.lookup x = some .local := by first | exact .inl rfl | exact .inr rfl | assumption) (hs : ∀ x, foldedSetIterable iter X.env x = pure x := by intro _; rfl) : PuF1 X z (.For (.Name x p) iter body [] pos) (fFor ti i t) where
  mono ρ O O' m h := hit.mono ρ _ _ (fun its o ⟨e, I, h0, hs, hd⟩ => ⟨e, I, h0, fun k d ρ' hk hI => hb.mono _ { O with nx := I (k + 1) } _ ⟨fun _ q => q, m.rt⟩ (hs k d ρ' hk hI), fun ρ' hI => m.nx _ (hd ρ' hI)⟩) h
  run := PS.weak (ps_for hp hc hit.run (pg_name hN hi hx hf) hb.run hs) fun D σ H h => by
    obtain ⟨ρ, Fz, R, h⟩ := h
    refine ⟨ρ, Fz, R, hit.mono ρ _ _ (fun its o q J Fz1 H1 x wk => ?_) h⟩
    obtain ⟨rfl, Iv, h0, hstep, hdone⟩ := q
    have R1 := R.ext x
    have le := outF_le (K := X.K) (z := z) (D := D) (Step.of (ρ := ρ) (σ := σ) x) (OwnIn.refl ρ σ H) rfl (fun _ _ h => h) (fun _ _ h => h)
    refine ⟨fun i m σ' H' => m = its.length - i ∧ i ≤ its.length ∧ ∃ ρ' F', Rel X.K F' ρ' σ' H' ∧ Iv i ρ' ∧ Step ρ σ Fz1 H1 F' H' ∧ OwnIn ρ σ H1 ρ' σ' ∧ σ'[z]? = σ[z]?,
      ⟨its.length, by omega, Nat.zero_le _, ρ, Fz1, R1, h0, Step.stay R1, OwnIn.refl ρ σ H1, rfl⟩, ?_⟩
    rintro k m σ' H' ⟨rfl, hle, ρ', F', R', hI, s', o', z'⟩
    have kp : KeepX Fz1 H1 H' := s'.kept R1
    obtain ⟨wgo, wstop⟩ := wk H' (.inr ⟨rfl, kp⟩) k
    by_cases hlt : k < its.length
    · obtain ⟨go, yl⟩ := wgo its[k] (List.getElem?_eq_getElem hlt)
      refine .inr ⟨go, fun σ2 H2 => ∃ ρ2 F2, Rel X.K F2 ρ2 σ2 H2 ∧ Iv (k + 1) ρ2 ∧ Step ρ σ Fz1 H1 F2 H2 ∧ OwnIn ρ σ H1 ρ2 σ2 ∧ σ2[z]? = σ[z]?, fun σ2 H2 hN => ⟨its.length - (k + 1), by omega, rfl, hlt, hN⟩, fun xv H2 y => ?_⟩
      obtain ⟨sm, dn⟩ := yl xv H2 y
      have x2 : Ext F' H' F' H2 := ⟨sm, fun _ h => h, fun _ h => .inl h, fun b hb z => R'.al b hb (sm.free z)⟩
      have R2 := (R'.ext x2).set (i := i) (Den.mono (Keep.of (Same.refl _)) s'.sub _ _ dn)
      have so : OwnIn ρ σ H1 (ρ'.set i (some (its[k], false))) (σ'.set i (some xv)) := fun b hb => o' b (own_set b hb)
      have st : Step ρ σ Fz1 H1 F' H2 := s'.trans o' (.of x2)
      have e2 : (σ'.set i (some xv))[z]? = σ[z]? := by rw [List.getElem?_set_ne hiz]; exact z'
      refine ⟨_, F', R2, hb.mono _ { outF X.K z D ρ σ Fz H with nx := Iv (k + 1) } _ ⟨fun ρ3 q σ3 F3 H3 s3 o3 R3 e3 => ?_, fun ρ3 q σ3 F3 H3 s3 o3 R3 e3 => ?_⟩ (hstep k its[k] ρ' (List.getElem?_eq_getElem hlt) hI)⟩
      · exact ⟨ρ3, F3, R3, q, st.trans so s3, OwnIn.trans st so o3, e3.trans e2⟩
      · exact le.rt ρ3 q σ3 F3 H3 (st.trans so s3) (OwnIn.trans st so o3) R3 (e3.trans e2)
    · have e : k = its.length := by omega
      subst e
      exact .inl ⟨wstop (Nat.le_refl _), le.nx ρ' (hdone ρ' hI) σ' F' H' s' o' R' z'⟩
theorem puf_put {ei ev : Expr} {ti tv : TPE} (i : Nat) (hu : X.A.units + 1 < cLine) (hi : PuE X ei ti) (hv : PuE X ev tv) (hN : X.N[i]? = some x := by rfl) (hvs : Vis X.env.scope x := by first | exact Or.inl rfl | exact Or.inr (Or.inl rfl) | exact Or.inr (Or.inr rfl)) (hd : (x == ("__debug__" : Str)) = false := by decide) (hcd : (x == ("__classdict__" : Str)) = false := by decide)
    (hs : swapsWith ev (some (.Subscript (.Name x p) ei pos')) pos.line X.env = pure false := by rfl) : PuF1 X z (.Assign [.Subscript (.Name x p) ei pos'] ev pos) (fPut i ti tv) where
  mono ρ O O' m h := hv.mono ρ _ _ (fun d k ⟨hk, ks, ds, e1, e2, h⟩ => ⟨hk, ks, ds, e1, e2, hi.mono ρ _ _ (fun e _ ⟨c, q1, q⟩ => ⟨c, q1, m.nx _ q⟩) h⟩) h
  run := PS.weak (ps_dput hu (pe_var hN hvs hd hcd) hi.run hv.run hs) fun D σ H h => by
    obtain ⟨ρ, Fz, R, h⟩ := h
    refine ⟨ρ, Fz, R, hv.mono ρ _ _ (fun d k q v F1 H1 p1 => ?_) h⟩
    obtain ⟨hk, ks, ds, e1, e2, q⟩ := q
    obtain ⟨F2, x2, s2, d2⟩ := p1.frozen (frz_new hk)
    have R2 := R.ext x2
    obtain ⟨a, xs, hs, ha, _, hd, nf⟩ := own_dK R2 e1
    refine ⟨_, hs, ρ, F2, R2, hi.mono ρ _ _ (fun e ke q u F3 H3 p3 => ?_) q⟩
    obtain ⟨c, rfl, q⟩ := q
    have R3 := R2.ext p3.ext
    obtain ⟨a', xs', hs', ha', hl', hd', nf'⟩ := own_dK R3 e1
    rw [hs] at hs'; cases hs'
    obtain rfl := root_key (p3.root R2)
    refine ⟨a, _, rfl, DPut.k ha' (by rw [List.length_zip]; omega), ?_⟩
    have d3 := Den.mono (.of p3.ext.same) p3.ext.sub _ _ d2
    have x3 := x2.trans p3.ext
    have ow : Own X.K F3 (upd H3 a (.dK (putK (ks.zip xs') c v))) (if hasK ks c = true then .dK ks (putD ks ds c d) else .dK (ks ++ [c]) (ds ++ [d])) a := by
      unfold putK
      rw [zip_any hl']
      by_cases hc : hasK ks c = true
      · rw [if_pos hc, if_pos hc, put_zip]
        exact ⟨_, upd_same, by simp [hl'], DenL.rew' ha' (fun z => z) nf' (put_den c d3 ks ds xs' hd')⟩
      · rw [if_neg hc, if_neg hc]
        refine ⟨xs' ++ [v], ?_, by simp [hl'], DenL.rew' ha' (fun z => z) nf' (DenL.snoc hd' d3)⟩
        rw [upd_same, List.zip_append hl']; rfl
    obtain ⟨R4, s4, o4⟩ := R3.mut e1 hs ha' ow
    exact q σ F3 _ ((Step.of x3).trans (OwnIn.refl ρ σ H) s4) (OwnIn.trans (Step.of x3) (OwnIn.refl ρ σ H) o4) R4 rfl
end
def startM (N : List Str) (d0 : PV) (ds : List PV) : PEnv := (startP N (d0 :: ds)).set 0 (some (d0, true))
theorem startM_get {N : List Str} {d0 : PV} {ds : List PV} (i : Nat) : (startM N d0 ds)[i]? = if i = 0 then some (some (d0, true)) else (startP N (d0 :: ds))[i]? := by
  unfold startM
  by_cases h : i = 0
  · subst h
    rw [if_pos rfl, List.getElem?_set_self (by simp [startP])]
  · rw [if_neg h, List.getElem?_set_ne (fun e => h e.symm)]
section
variable {P : Program} {w : World} {K : PySem.W.Frag} {mg : Str → Option Value} {base : Heap}
theorem fn_pureM {x qual : Str} {st : Stmt} {f : Addr} {fd : FuncData} {N ps : List Str} {k : Nat} {F : PFM} (Fn : Fun K x qual st f fd) (S : FnScope N ps (defScope st)) (len : ∀ d0 ds Q, F d0 ds Q → ds.length + 1 = ps.length)
    (hbody : ∀ (cdv : Value) (A : Around) (outer : List Env) (s : Shared) (H : Hp) (E : XK), Room k (A.deeper (envOfC qual (defScope st) s.heap.objs.size f cdv)) →
      ∃ t, PuF (cxOf CX0 P w K mg base N qual (defScope st) f cdv A outer s H E).nox 0 (defBody st) t ∧ ∀ d0 ds Q, F d0 ds Q → t (startM N d0 ds) ⟨fun ρ' => ∃ d, ρ'[0]? = some (some (d, true)) ∧ Q d .non, fun ρ' => ∃ d, ρ'[0]? = some (some (d, true)) ∧ Q d .non⟩) : FnOk P w K mg base CX0 (k + 1) f fd ps (spM K F) := by
  refine Fn.ok S (fun vs H Q E ⟨Fz, a, d0, ds, vs', e, _, _, _, hd, q⟩ => by rw [e, List.length_cons, ← hd.length]; exact len _ _ _ q) (fun cdv A outer s H vs Q E hr h => ?_)
  obtain ⟨t, ht, hq⟩ := hbody cdv A outer s H E hr
  obtain ⟨Fz, a, d0, ds, vs', rfl, al, nf, ow, hd, h⟩ := h
  have get : ∀ (i : Nat) (d : PV) (b : Bool), (startM N d0 ds)[i]? = some (some (d, b)) → (i = 0 ∧ d = d0 ∧ b = true) ∨ (∃ j, i = j + 1 ∧ b = false ∧ ds[j]? = some d) := fun i d b e => by
    rw [startM_get] at e
    cases i with
    | zero => rw [if_pos rfl] at e; cases e; exact .inl ⟨rfl, rfl, rfl⟩
    | succ j =>
      rw [if_neg (by omega)] at e
      right
      unfold startP at e
      rw [List.map_cons, List.cons_append, List.getElem?_cons_succ] at e
      by_cases hi : j < ds.length
      · rw [List.getElem?_append_left (by simpa using hi), List.getElem?_map, List.getElem?_eq_getElem hi] at e
        have e' : (some (ds[j], false) : Option (PV × Bool)) = some (d, b) := Option.some.inj e
        have e2 := Option.some.inj e'
        exact ⟨j, rfl, (congrArg Prod.snd e2).symm, by rw [List.getElem?_eq_getElem hi]; exact congrArg some (congrArg Prod.fst e2)⟩
      · rw [List.getElem?_append_right (by simpa using hi), List.getElem?_replicate] at e
        split at e <;> cases e
  have hl := hd.length
  have s0 : (start N (V.ref a :: vs'))[0]? = some (some (.ref a)) := by simp [L2.start]
  have ownd : ∀ b, Owned (startM N d0 ds) (start N (V.ref a :: vs')) b → b = a := fun b ⟨i, d, e, e2⟩ => by
    rcases get i d true e with ⟨rfl, _, _⟩ | ⟨j, _, hb, _⟩
    · rw [s0] at e2; cases e2; rfl
    · cases hb
  have R : Rel K Fz (startM N d0 ds) (start N (V.ref a :: vs')) H := by
    refine ⟨al, by simp [startM, startP, L2.start, hl], fun i d e => ?_, fun i d e => ?_, fun i j d e b h1 h2 h3 h4 => ?_⟩
    · rcases get i d false e with ⟨_, _, hb⟩ | ⟨j, rfl, _, e'⟩
      · cases hb
      · obtain ⟨v, q1, q2⟩ := hd.get e'
        have hj : j < vs'.length := (List.getElem?_eq_some_iff.mp q1).1
        refine ⟨v, ?_, q2⟩
        unfold L2.start
        rw [List.map_cons, List.cons_append, List.getElem?_cons_succ, List.getElem?_append_left (by simpa using hj), List.getElem?_map, q1]
        rfl
    · rcases get i d true e with ⟨rfl, rfl, _⟩ | ⟨j, _, hb, _⟩
      · exact ⟨a, s0, nf, ow⟩
      · cases hb
    · rcases get i d true h1 with ⟨rfl, _, _⟩ | ⟨_, _, hb, _⟩
      · rcases get j e true h2 with ⟨rfl, _, _⟩ | ⟨_, _, hb, _⟩
        · rfl
        · cases hb
      · cases hb
  have fin : ∀ ρ' σ' Fz' H' d, ρ'[0]? = some (some (d, true)) → Step (startM N d0 ds) (start N (V.ref a :: vs')) Fz H Fz' H' → Rel K Fz' ρ' σ' H' → σ'[0]? = (start N (V.ref a :: vs'))[0]? → StepA a Fz H Fz' H' ∧ Own K Fz' H' d a := fun ρ' σ' Fz' H' d e s' R' z' => by
    obtain ⟨a', e1, nf', ow'⟩ := R'.own 0 d e
    rw [z', s0] at e1; cases e1
    refine ⟨⟨s'.sub, fun b hb => ?_, fun b o e ne => s'.keep b o e fun z => ne (ownd b z), R'.al⟩, ow'⟩
    rcases s'.new b hb with z | z | z
    · exact .inl z
    · exact .inr z
    · rw [ownd b z] at hb; exact absurd hb nf'
  refine ⟨_, ht.run, startM N d0 ds, Fz, R, ht.mono _ ⟨fun ρ' => ∃ d, ρ'[0]? = some (some (d, true)) ∧ _, fun ρ' => ∃ d, ρ'[0]? = some (some (d, true)) ∧ _⟩ _ ⟨fun ρ' q σ' F' H' s' o' R' z' => ?_, fun ρ' q σ' F' H' s' o' R' z' => ?_⟩ (hq d0 ds _ h)⟩
  · obtain ⟨d, e, q⟩ := q
    obtain ⟨s1, o1⟩ := fin ρ' σ' F' H' d e s' R' z'
    exact q .non F' H' s1 o1 (by simp only [Den])
  · obtain ⟨d, e, q⟩ := q
    obtain ⟨s1, o1⟩ := fin ρ' σ' F' H' d e s' R' z'
    exact q .non F' H' s1 o1 (by simp only [Den])
end
end PL
set_option Elab.async false
set_option linter.all false
set_option maxRecDepth 100000
set_option maxHeartbeats 4000000
namespace Q11
open PySem PySem.Spec L2 PL
open PyProof.Rows hiding St
def fDoStep : PFM := fun d ds Q => ∃ (l : Left) (s : Stp), d = pd l ∧ ds = [stp s] ∧ LeftOk l ∧ anyStep l = some s ∧ Q (pd (doStep l s)) .non
theorem mono_DoStep : MonoM fDoStep := fun d ds Q Q' m ⟨l, s, e1, e2, h, h2, q⟩ => ⟨l, s, e1, e2, h, h2, m _ _ q⟩
def cutL (x : Str) (p : Nat × List Str) : Nat × List Str := (p.1, p.2.filter fun y => decide (y ≠ x))
def cutN (x : Str) (l : Left) (k : Nat) : Left := (l.take k).map (cutL x) ++ l.drop k
theorem kD_cut (x : Str) (l : Left) (k : Nat) : kD (cutN x l k) = kD l := by
  unfold kD cutN
  rw [List.map_append, List.map_map]
  conv => rhs; rw [← List.take_append_drop k l, List.map_append]
  rfl
theorem kD_len (l : Left) : (kD l).length = l.length := by simp [kD]
theorem zip_kv (l : Left) : (kD l).zip (vD l) = l.map fun p => ((Sum.inl (p.1 : Int) : Key), ld p.2) := by
  unfold kD vD
  rw [List.zip_map']
theorem put_at {l : Left} {i : Nat} {p q : List Str} (hn : (l.map (·.1)).Nodup) {k : Nat} (h : l[k]? = some (i, p)) : putD (kD l) (vD l) (.inl (i : Int)) (ld q) = vD (l.set k (i, q)) := by
  unfold putD
  rw [zip_kv, List.map_map]
  have hk : k < l.length := (List.getElem?_eq_some_iff.mp h).1
  refine List.ext_getElem? fun m => ?_
  unfold vD
  rw [List.getElem?_map, List.getElem?_map, List.getElem?_set]
  by_cases e : k = m
  · subst e
    rw [h, if_pos rfl, if_pos hk]
    simp
  · rw [if_neg e]
    cases hm : l[m]? with
    | none => rfl
    | some r =>
      have hm' : m < l.length := (List.getElem?_eq_some_iff.mp hm).1
      have ne : ¬ r.1 = i := fun z => e (by
        have h1 : (l.map (·.1))[k]? = some i := by rw [List.getElem?_map, h]; rfl
        have h2 : (l.map (·.1))[m]? = some i := by rw [List.getElem?_map, hm, ← z]; rfl
        exact (List.getElem?_inj (by simpa using hk) hn).mp (h1.trans h2.symm))
      have e2 : ¬ ((r.1 : Int) = (i : Int)) := by omega
      simp [e2]
theorem has_at {l : Left} {i : Nat} {p : List Str} (h : (i, p) ∈ l) : hasK (kD l) (.inl (i : Int)) = true := by
  unfold hasK
  rw [List.any_eq_true]
  exact ⟨.inl (i : Int), List.mem_map.mpr ⟨(i, p), h, rfl⟩, by simp⟩
theorem drop_at (l : Left) (i : Nat) : PV.dK (dropKs (kD l) (.inl (i : Int))) (dropD (kD l) (vD l) (.inl (i : Int))) = pd (l.filter fun p => decide (p.1 ≠ i)) := by
  have e : ∀ p : Nat × List Str, decide ((Sum.inl (p.1 : Int) : Key) ≠ .inl (i : Int)) = decide (p.1 ≠ i) := fun p => by
    by_cases z : p.1 = i
    · simp [z]
    · have z2 : ¬ ((p.1 : Int) = (i : Int)) := by omega
      simp [z, z2]
  unfold dropKs dropD pd
  rw [zip_kv, List.filter_map, List.map_map]
  unfold kD vD
  rw [List.filter_map]
  congr 1
  · congr 1
    exact List.filter_congr fun p _ => e p
  · have : (List.filter ((fun kv : Key × PV => decide (kv.1 ≠ Sum.inl (i : Int))) ∘ fun p : Nat × List Str => ((Sum.inl (p.1 : Int) : Key), ld p.2)) l) = l.filter fun p => decide (p.1 ≠ i) := List.filter_congr fun p _ => e p
    rw [this]
    rfl
theorem cut_set {x : Str} {l : Left} {k : Nat} {p : Nat × List Str} (h : l[k]? = some p) : (cutN x l k).set k (cutL x p) = cutN x l (k + 1) := by
  have hk : k < l.length := (List.getElem?_eq_some_iff.mp h).1
  unfold cutN
  have hl : ((l.take k).map (cutL x)).length = k := by rw [List.length_map, List.length_take]; omega
  rw [List.set_append_right _ _ (by omega), hl, Nat.sub_self, List.drop_eq_getElem_cons hk, List.set_cons_zero, List.take_add_one, h]
  simp
theorem cut_get {x : Str} {l : Left} {k : Nat} {p : Nat × List Str} (h : l[k]? = some p) : (cutN x l k)[k]? = some p := by
  have hk : k < l.length := (List.getElem?_eq_some_iff.mp h).1
  unfold cutN
  have hl : ((l.take k).map (cutL x)).length = k := by rw [List.length_map, List.length_take]; omega
  rw [List.getElem?_append_right (by omega), hl, Nat.sub_self, List.getElem?_drop, Nat.add_zero, h]
theorem cut_ids (x : Str) (l : Left) (k : Nat) : (cutN x l k).map (·.1) = l.map (·.1) := by
  unfold cutN
  rw [List.map_append, List.map_map]
  conv => rhs; rw [← List.take_append_drop k l, List.map_append]
  rfl
local macro_rules | `(tactic| walk_at "pu") => `(tactic| simp only [pSeq, pSet, pRet, pRetN, pIf, pDrop, pNext, pBreak, pCont, pDropM, pSetM, mApp, mAppM, mPopAt, mExtT, pUnp, gNameP, gNilP, gConsP, gTupP, t2, i0, i2, pVar, pC, pCons, pNil, pTup, pLst, noOwn, isOwn, tBl, tAndP, tOrP, tNotP, tTru, tTrue, TruP, tNotE, tAndE, tOrE, tIfE, pEq, pIn, pIsN, pIx, pCat, PL.tB, fLen, LenP, fList, fTuple, fSortS, fIsi, tCallP, pSortSet, pJoin, pSlL, pRev, oNone, oSome, pComp, iRange1, iRange2, iLst, iTupl, pDG, pDI, tOrT, pChain, fMax2, fMin2, fMin3, fAll, fListS, fListD, pDictEnum, pSlS, pSetIx, pPutIx, mDPop, iDic, pCompD, pFor, pWhile, PL.plain, startP, retOut, blkP, List.map_cons, List.map_nil, List.length_cons, List.length_nil, List.cons_append, List.nil_append, List.replicate, List.getElem?_cons_zero, List.getElem?_cons_succ, List.getElem?_nil, Option.getD_some, Option.getD_none, List.set_cons_zero, List.set_cons_succ, List.cons.injEq,
  Option.some.injEq, Prod.mk.injEq, PV.int.injEq, PV.bl.injEq, PV.str.injEq, PV.lst.injEq, PV.tup.injEq, PV.ty.injEq, PV.dK.injEq, exists_eq_left', exists_eq_left, exists_eq', exists_eq, exists_and_left, exists_and_right, exists_eq_right, true_and, and_true, reduceCtorEq, false_and, and_false, false_or, or_false, exists_false, exists_const, Bool.false_eq_true, if_true, if_false, and_assoc, ite_true, ite_false, Bool.not_eq_true', decide_eq_true_eq, decide_eq_false_iff_not, Bool.not_false, Bool.not_true, true_or, or_true, not_true_eq_false, not_false_eq_true, Bool.and_eq_true, Nat.zero_add, Nat.sub_self, Nat.reduceAdd, Nat.reduceSub, implies_true, ne_eq, noMutR, noMut, noMutL, Bool.true_and, Bool.and_true, List.all_nil, fSeq, fIf, fDropM, fRetN, fFor, fPut, fNext, startM, stp, pd])
local macro_rules | `(tactic| walk_at "go") => `(tactic| ((first | (with_reducible refine hold ?_) | (with_reducible refine holdT ?_)); walk_at "pu"))
local macro_rules | `(tactic| walk_at "side") => `(tactic| first | assumption | decide | omega | exact ⟨by decide, by decide⟩ | exact ⟨by decide, by decide, by decide⟩ | exact Or.inl ⟨by omega, by omega⟩ | exact Or.inr ⟨by omega, by omega⟩)
local macro_rules | `(tactic| walk_at "auto") => `(tactic| repeat (first | ((with_reducible refine hold ?_); walk_at "pu") | ((with_reducible refine holdT ?_); walk_at "pu") | ((with_reducible refine And.intro ?_ ?_); (· walk_at "side"))))
section
variable {P : Program} {w : World} {K : PySem.W.Frag} {mg : Str → Option Value} {base : Heap}
theorem scDoStep : FnScope ["left", "step", "i"] ["left", "step"] (defScope sDoStep) := ⟨rfl, rfl, rfl, by decide +kernel, rfl, by decide +kernel, by decide +kernel⟩
theorem ok_DoStep {f : Addr} {fd : FuncData} (F : Fun K "do_step" "do_step" sDoStep f fd) (B : Bl mg) : FnOk P w K mg base CX0 1 f fd ["left", "step"] (spM K fDoStep) := by
  refine fn_pureM F scDoStep (fun d0 ds Q ⟨l, s, _, e, _⟩ => by rw [e]; rfl) (fun cdv A outer s H E hr => ?_)
  have hu : (A.deeper (envOfC "do_step" (defScope sDoStep) s.heap.objs.size f cdv)).units + 16 < cLine := by have q := hr.units; omega
  have nd := scDoStep.nd
  refine ⟨_, (puf_cons (puf_if (put_eq hu (pu_item (pu_var 1) pu_int) pu_str) (puf_cons (puf_exprM (pum_dpop 0 (pu_item (pu_var 1) pu_int)))
      (puf_one puf_retN)) puf_nil)
      (puf_one (puf_for (i := 2) nd rfl (Or.inl rfl) rfl PassesOwn.never (pui_list (pu_listD rfl rfl B.list (pua_cons (pu_var 0) pua_nil))) (puf_one (puf_put 0 (hu1 hu) (pu_var 2) (pu_tuple rfl B.tuple (pua_cons (pu_comp (N := ["letter", "step"]) (k := 1) (js := [1]) rfl (cp_of (sup := defScope sDoStep) (XN := ["left", "step", "i"]) rfl rfl (by decide +kernel)) (by decide) (loc_name (by decide)) (pui_tup (pu_dget (hu1 hu) (pu_var 0) (pu_var 2))) ⟨fun _ _ _ _ _ => (pug_name (i := 0) (by show (["letter", "step"] : List Str).Nodup; decide +kernel) rfl (Or.inl rfl)), fun _ _ _ _ _ => (puts_one (put_ne hu (pu_var 0) (pu_item (pu_var 1) pu_int))), fun _ _ _ _ _ => (pu_var 0)⟩) pua_nil))))))), fun d0 ds Q h => ?_⟩
  obtain ⟨l, s, rfl, rfl, ok, ha, q⟩ := h
  have hl6 := ok.len
  cases s with
  | pattern i j =>
    obtain ⟨p, p2, hp, hp2, rfl, rfl, hin⟩ := any_pattern ha
    walk_at "pu"
    refine ⟨_, atI_nat (j := 0) rfl, rfl, ?_⟩
    rw [if_pos rfl]
    refine ⟨_, atI_nat (j := 1) rfl, .inl (p.1 : Int), rfl, ⟨_, dg_at l p.1 p.2 ok.nd hp⟩, ?_⟩
    rw [drop_at]
    exact q
  | letter x =>
    walk_at "pu"
    refine ⟨_, atI_nat (j := 0) rfl, rfl, ?_⟩
    rw [if_neg (fun z => by injection z with z; exact absurd z (by decide))]
    obtain ⟨Iv, hIv⟩ : ∃ Iv : Nat → PEnv → Prop, ∀ k ρ, Iv k ρ ↔ ∃ k2 : Option (PV × Bool), ρ = [some (PV.dK (kD l) (vD (cutN x l k)), true), some (PV.tup [PV.str (Str.ofString "letter"), PV.str x], false), k2] := ⟨_, fun _ _ => Iff.rfl⟩
    refine ⟨Iv, (hIv _ _).mpr ⟨none, rfl⟩, ?_, ?_⟩
    · intro k d ρ hd hI
      obtain ⟨k2, rfl⟩ := (hIv _ _).mp hI
      obtain ⟨p, hp, rfl⟩ := key_get hd
      have hcg := cut_get (x := x) hp
      have hcn : ((cutN x l k).map (·.1)).Nodup := by rw [cut_ids]; exact ok.nd
      have hdg := dg_at (cutN x l k) p.1 p.2 hcn (List.mem_of_getElem? hcg)
      rw [kD_cut] at hdg
      have hp4 := ok.four p (List.mem_of_getElem? hp)
      walk_at "pu"
      refine ⟨.inl (p.1 : Int), rfl, _, hdg, _, rfl, by rw [List.length_map, sizeLine_eq]; omega, fun m out => out = ((p.2.take m).filter fun y => decide (y ≠ x)).map PV.str, by simp, ?_, ?_⟩
      · rintro m d out hd - rfl
        obtain ⟨y, hy, rfl⟩ := str_get hd
        refine ⟨_, atI_nat (j := 1) rfl, rfl, rfl, ite2 (fun e => ?_) (fun e => ?_)⟩
        · have hne : y ≠ x := fun z => e (by rw [z])
          show _ = _
          rw [List.take_add_one, hy]
          simp [hne]
        · have hne : y = x := Decidable.by_contra fun z => e fun w => z (by injection w)
          show _ = _
          rw [List.take_add_one, hy]
          simp [hne]
      · rintro out - rfl
        rw [List.length_map, List.take_of_length_le (Nat.le_refl _)]
        refine ⟨by rw [kD_len, sizeLine_eq]; omega, .inl (p.1 : Int), rfl, (hIv _ _).mpr ⟨some (PV.int (p.1 : Int), false), ?_⟩⟩
        have hh := has_at (List.mem_of_getElem? (show l[k]? = some (p.1, p.2) from hp))
        have hput := put_at (q := p.2.filter fun y => decide (y ≠ x)) hcn hcg
        rw [kD_cut] at hput
        rw [if_pos hh, ← cut_set hp]
        show [some (PV.dK (kD l) (putD (kD l) (vD (cutN x l k)) (Sum.inl (p.1 : Int)) (ld (p.2.filter fun y => decide (y ≠ x)))), true), _, _] = _
        rw [hput]
        rfl
    · intro ρ hI
      obtain ⟨k2, rfl⟩ := (hIv _ _).mp hI
      refine ⟨_, rfl, ?_⟩
      have e1 : cutN x l (List.map keyP (kD l)).length = doStep l (.letter x) := by
        unfold cutN
        rw [List.length_map, kD_len, List.take_of_length_le (Nat.le_refl _), List.drop_of_length_le (Nat.le_refl _), List.append_nil]
        rfl
      have e2 : kD (doStep l (.letter x)) = kD l := by rw [← e1, kD_cut]
      rw [e1, ← e2]
      exact q
local macro_rules | `(tactic| walk_at "pu") => `(tactic| simp only [pSeq, pSet, pRet, pRetN, pIf, pDrop, pNext, pBreak, pCont, pDropM, pSetM, mApp, mAppM, mPopAt, mExtT, pUnp, gNameP, gNilP, gConsP, gTupP, t2, i0, i2, pVar, pC, pCons, pNil, pTup, pLst, noOwn, isOwn, tBl, tAndP, tOrP, tNotP, tTru, tTrue, TruP, tNotE, tAndE, tOrE, tIfE, pEq, pIn, pIsN, pIx, pCat, PL.tB, fLen, LenP, fList, fTuple, fSortS, fIsi, tCallP, pSortSet, pJoin, pSlL, pRev, oNone, oSome, pComp, iRange1, iRange2, iLst, iTupl, pDG, pDI, tOrT, pChain, fMax2, fMin2, fMin3, fAll, fListS, fListD, pDictEnum, pSlS, pSetIx, pPutIx, mDPop, iDic, pCompD, pFor, pWhile, PL.plain, startP, retOut, blkP, List.map_cons, List.map_nil, List.length_cons, List.length_nil, List.cons_append, List.nil_append, List.replicate, List.getElem?_cons_zero, List.getElem?_cons_succ, List.getElem?_nil, Option.getD_some, Option.getD_none, List.set_cons_zero, List.set_cons_succ, List.cons.injEq,
  Option.some.injEq, Prod.mk.injEq, PV.int.injEq, PV.bl.injEq, PV.str.injEq, PV.lst.injEq, PV.tup.injEq, PV.ty.injEq, PV.dK.injEq, exists_eq_left', exists_eq_left, exists_eq', exists_eq, exists_and_left, exists_and_right, exists_eq_right, true_and, and_true, reduceCtorEq, false_and, and_false, false_or, or_false, exists_false, exists_const, Bool.false_eq_true, if_true, if_false, and_assoc, ite_true, ite_false, Bool.not_eq_true', decide_eq_true_eq, decide_eq_false_iff_not, Bool.not_false, Bool.not_true, true_or, or_true, not_true_eq_false, not_false_eq_true, Bool.and_eq_true, Nat.zero_add, Nat.sub_self, Nat.reduceAdd, Nat.reduceSub, implies_true, ne_eq, noMutR, noMut, noMutL, Bool.true_and, Bool.and_true, List.all_nil, fDoStep, fAnyStep, mCallM, pFrz, frzAt])
local macro_rules | `(tactic| walk_at "go") => `(tactic| ((first | (with_reducible refine hold ?_) | (with_reducible refine holdT ?_)); walk_at "pu"))
local macro_rules | `(tactic| walk_at "side") => `(tactic| first | assumption | decide | omega | exact ⟨by decide, by decide⟩ | exact ⟨by decide, by decide, by decide⟩ | exact Or.inl ⟨by omega, by omega⟩ | exact Or.inr ⟨by omega, by omega⟩)
local macro_rules | `(tactic| walk_at "auto") => `(tactic| repeat (first | ((with_reducible refine hold ?_); walk_at "pu") | ((with_reducible refine holdT ?_); walk_at "pu") | ((with_reducible refine And.intro ?_ ?_); (· walk_at "side"))))
theorem scTakenApart : FnScope ["shape", "left", "steps", "step"] ["shape"] (defScope sTakenApart) := ⟨rfl, rfl, rfl, by decide +kernel, rfl, by decide +kernel, by decide +kernel⟩
theorem enum_pd (sh : List (List Str)) : PV.dK (enumKs (sh.map ld).length) (sh.map ld) = pd (enumL sh) := by
  unfold pd
  have e1 : enumKs (sh.map ld).length = kD (enumL sh) := by
    unfold enumKs kD enumL
    rw [List.length_map, List.map_map]
    rfl
  have e2 : sh.map ld = vD (enumL sh) := by
    unfold vD enumL
    rw [List.map_map]
    refine List.ext_getElem? fun i => ?_
    rw [List.getElem?_map, List.getElem?_map]
    rcases Nat.lt_or_ge i sh.length with h | h
    · rw [List.getElem?_eq_getElem h, List.getElem?_range h]
      simp [List.getElem?_eq_getElem h]
    · rw [List.getElem?_eq_none h, List.getElem?_eq_none (by simpa using h)]; rfl
  rw [e1, ← e2]
theorem size_le : ∀ (l : Left), (∀ p ∈ l, p.2.length ≤ 4) → size l ≤ 5 * l.length
  | [], _ => by simp [size]
  | p :: l, h => by
    have h1 := h p (List.mem_cons_self ..)
    have h2 := size_le l fun q hq => h q (List.mem_cons_of_mem _ hq)
    unfold size at h2 ⊢
    simp only [List.map_cons, List.sum_cons, List.length_cons]
    omega
theorem run_end {n : Nat} {l : Left} (h : anyStep l = none) : runF n l = ([], l) := by
  cases n with
  | zero => rfl
  | succ n => exact runF_none h
theorem stp_non {o : Option Stp} : stpO o = .non ↔ o = none := by
  cases o with
  | none => simp [stpO]
  | some s => cases s <;> simp [stpO, stp]
theorem stp_mut {o : Option Stp} : noMutR (stpO o) .frz = true := by
  cases o with
  | none => rfl
  | some s => cases s <;> rfl
theorem ok_TakenApart {f f1 f2 f3 f4 : Addr} {fd fd1 fd2 fd3 fd4 : FuncData} (F : Fun K "taken_apart" "taken_apart" sTakenApart f fd) (AnyStep : Fx K mg "any_step" sAnyStep ["left"] f1 fd1) (DoStep : Fx K mg "do_step" sDoStep ["left", "step"] f2 fd2)
    (LetterStep : Fx K mg "letter_step" sLetterStep ["left"] f3 fd3) (PatternStep : Fx K mg "pattern_step" sPatternStep ["left"] f4 fd4) (B : Bl mg) : FnOk P w K mg base CX0 3 f fd ["shape"] (spP K fTakenApart) := by
  have GDoStep : FnOk P w K mg base CX0 2 f2 fd2 ["left", "step"] (spM K fDoStep) := (ok_DoStep DoStep.fn B).mono (by decide)
  have GAnyStep : FnOk P w K mg base CX0 2 f1 fd1 ["left"] (spP K fAnyStep) := ok_AnyStep AnyStep.fn LetterStep PatternStep B
  refine fn_pure F scTakenApart (fun ds Q ⟨l, e, _⟩ => by rw [e]; rfl) (fun cdv A outer s H E hr => ?_)
  have hu : (A.deeper (envOfC "taken_apart" (defScope sTakenApart) s.heap.objs.size f cdv)).units + 16 < cLine := by have q := hr.units; omega
  have nd := scTakenApart.nd
  refine ⟨_, (puss_cons (pus_set (i := 1) nd rfl (Or.inr rfl) (pu_dictEnum rfl rfl B.dict rfl B.enumerate (pu_var 0)))
      (puss_cons (pus_set (i := 2) nd rfl (Or.inl rfl) (pu_lst pua_nil))
      (puss_cons (pus_set (i := 3) nd rfl (Or.inl rfl) (pu_call GAnyStep mono_AnyStep hr rfl AnyStep.mg AnyStep.fn.kp AnyStep.bd (pua_cons (pu_var 1) pua_nil)))
      (puss_cons (pus_while PassesOwn.never (put_notN (pu_var 3) pu_non) (puss_cons (pus_exprM (pum_call 1 GDoStep mono_DoStep hr rfl DoStep.mg DoStep.fn.kp DoStep.bd (pua_cons (pu_var 3) pua_nil)))
      (puss_cons (pus_exprM (pum_append 2 (pu_var 3)))
      (puss_one (pus_set (i := 3) nd rfl (Or.inl rfl) (pu_call GAnyStep mono_AnyStep hr rfl AnyStep.mg AnyStep.fn.kp AnyStep.bd (pua_cons (pu_var 1) pua_nil)))))))
      (puss_one (pus_frz 1 (pus_frz 2 (pus_ret (pu_tup (pua_cons (pu_var 2) (pua_cons (pu_compD (N := ["i", "left"]) (k := 1) (js := [1]) rfl (cp_of (sup := defScope sTakenApart) (XN := ["shape", "left", "steps", "step"]) rfl rfl (by decide +kernel)) (by decide) (loc_name (by decide)) (puid_keys (pu_var 1)) ⟨fun _ _ _ _ _ => (pug_name (i := 0) (by show (["i", "left"] : List Str).Nodup; decide +kernel) rfl (Or.inl rfl)), fun _ _ _ _ _ => puts_nil, fun _ _ _ _ _ => (pu_tup (pua_cons (pu_var 0) (pua_cons (pu_tuple rfl B.tuple (pua_cons (pu_dget (hu1 hu) (pu_var 1) (pu_var 0)) pua_nil)) pua_nil)))⟩) pua_nil))))))))))), fun ds Q h => ?_⟩
  obtain ⟨sh, rfl, ok, q⟩ := h
  have eok := enum_ok ok.six ok.four
  walk_at "pu"
  rw [enum_pd]
  walk_at "go"
  refine ⟨by decide, ?_⟩
  walk_at "go"
  refine ⟨_, rfl, eok, stp_mut, ?_⟩
  walk_at "go"
  obtain ⟨Iv, hIv⟩ : ∃ Iv : Nat → PEnv → Prop, ∀ m ρ, Iv m ρ ↔ ∃ (l : Left) (ss : List Stp) (n : Nat), ρ = [some (PV.lst (List.map ld sh), false), some (pd l, true), some (PV.lst (ss.map stp), true), some (stpO (anyStep l), false)] ∧ LeftOk l ∧ m = size l ∧ size l ≤ n ∧ theRun sh = (ss ++ (runF n l).1, (runF n l).2) ∧ ss.length + size l ≤ 30 := ⟨_, fun _ _ => Iff.rfl⟩
  have h30 : size (enumL sh) ≤ 30 := by
    have h1 := size_le (enumL sh) eok.four
    have h2 := eok.len
    omega
  refine ⟨Iv, ⟨_, (hIv _ _).mpr ⟨enumL sh, [], size (enumL sh), rfl, eok, rfl, Nat.le_refl _, rfl, by simpa using h30⟩⟩, ?_⟩
  intro m ρ hI
  obtain ⟨l, ss, n, rfl, lok, rfl, hn, hrun, h3⟩ := (hIv _ _).mp hI
  walk_at "go"
  refine ite2 (fun e => ?_) (fun e => ?_)
  · obtain ⟨s, hs⟩ : ∃ s, anyStep l = some s := by
      cases ha : anyStep l with
      | none => rw [ha] at e; exact absurd rfl e
      | some s => exact ⟨s, rfl⟩
    have hdec := size_dec hs
    obtain ⟨n', rfl⟩ : ∃ n', n = n' + 1 := ⟨n - 1, by omega⟩
    rw [runF_some hs] at hrun
    rw [hs]
    walk_at "go"
    refine ⟨l, rfl, s, rfl, lok, hs, ?_⟩
    walk_at "go"
    refine ⟨by rw [List.length_map, sizeLine_eq]; omega, ?_⟩
    walk_at "go"
    refine ⟨_, rfl, doStep_ok lok s, stp_mut, size (doStep l s), hdec, (hIv _ _).mpr ⟨doStep l s, ss ++ [s], n', ?_, doStep_ok lok s, rfl, by omega, ?_, by rw [List.length_append]; simp; omega⟩⟩
    · rw [List.map_append]; rfl
    · rw [hrun, List.append_assoc]; rfl
  · have hn0 : anyStep l = none := stp_non.mp (Decidable.by_contra fun z => e z)
    rw [hn0]
    rw [run_end hn0, List.append_nil] at hrun
    walk_at "go"
    have hwk : walkKs false (kD l) (vD l) = (kD l).map keyP := rfl
    have hll := lok.len
    refine ⟨kD l, vD l, rfl, by rw [hwk, List.length_map, kD_len, sizeLine_eq]; omega, fun i out => out = (l.take i).map np, by simp, ?_, ?_⟩
    · rintro i d out hd - rfl
      rw [hwk] at hd
      obtain ⟨p, hp, rfl⟩ := key_get hd
      refine ⟨kD l, vD l, rfl, .inl (p.1 : Int), rfl, _, dg_at l p.1 p.2 lok.nd (List.mem_of_getElem? hp), _, .inr rfl, by decide, ?_⟩
      show _ = _
      rw [List.take_add_one, hp, List.map_append]
      rfl
    · rintro out - rfl
      rw [hwk, List.length_map, kD_len, List.take_of_length_le (Nat.le_refl _)]
      refine ⟨by decide, ?_⟩
      rw [hrun] at q
      exact q
end
end Q11
set_option Elab.async false
set_option linter.all false
set_option maxRecDepth 100000
set_option maxHeartbeats 4000000
namespace Q11
open PySem PySem.Spec L2 PL
open PyProof.Rows hiding St
def fLaw : PF := fun ds Q => ∃ ns : List Int, ds = [.lst (ns.map PV.int)] ∧ ns.length ≤ 63 ∧ Q (.bl true) .frz
theorem mono_Law : MonoF fLaw := fun ds Q Q' m ⟨l, e, h, q⟩ => ⟨l, e, h, m _ _ q⟩
local macro_rules | `(tactic| walk_at "pu") => `(tactic| simp only [pSeq, pSet, pRet, pRetN, pIf, pDrop, pNext, pBreak, pCont, pDropM, pSetM, mApp, mAppM, mPopAt, mExtT, pUnp, gNameP, gNilP, gConsP, gTupP, t2, i0, i2, pVar, pC, pCons, pNil, pTup, pLst, noOwn, isOwn, tBl, tAndP, tOrP, tNotP, tTru, tTrue, TruP, tNotE, tAndE, tOrE, tIfE, pEq, pIn, pIsN, pIx, pCat, PL.tB, fLen, LenP, fList, fTuple, fSortS, fIsi, tCallP, pSortSet, pJoin, pSlL, pRev, oNone, oSome, pComp, iRange1, iRange2, iLst, iTupl, pDG, pDI, tOrT, pChain, fMax2, fMin2, fMin3, fAll, fListS, fListD, pDictEnum, pSlS, pSetIx, pPutIx, mDPop, iDic, pCompD, pFor, pWhile, PL.plain, startP, retOut, blkP, List.map_cons, List.map_nil, List.length_cons, List.length_nil, List.cons_append, List.nil_append, List.replicate, List.getElem?_cons_zero, List.getElem?_cons_succ, List.getElem?_nil, Option.getD_some, Option.getD_none, List.set_cons_zero, List.set_cons_succ, List.cons.injEq,
  Option.some.injEq, Prod.mk.injEq, PV.int.injEq, PV.bl.injEq, PV.str.injEq, PV.lst.injEq, PV.tup.injEq, PV.ty.injEq, PV.dK.injEq, exists_eq_left', exists_eq_left, exists_eq', exists_eq, exists_and_left, exists_and_right, exists_eq_right, true_and, and_true, reduceCtorEq, false_and, and_false, false_or, or_false, exists_false, exists_const, Bool.false_eq_true, if_true, if_false, and_assoc, ite_true, ite_false, Bool.not_eq_true', decide_eq_true_eq, decide_eq_false_iff_not, Bool.not_false, Bool.not_true, true_or, or_true, not_true_eq_false, not_false_eq_true, Bool.and_eq_true, Nat.zero_add, Nat.sub_self, Nat.reduceAdd, Nat.reduceSub, implies_true, ne_eq, noMutR, noMut, noMutL, Bool.true_and, Bool.and_true, List.all_nil, fRight, fShape, fFilledUp, pFrz, frzAt])
local macro_rules | `(tactic| walk_at "go") => `(tactic| ((first | (with_reducible refine hold ?_) | (with_reducible refine holdT ?_)); walk_at "pu"))
local macro_rules | `(tactic| walk_at "side") => `(tactic| first | assumption | decide | omega | exact ⟨by decide, by decide⟩ | exact ⟨by decide, by decide, by decide⟩ | exact Or.inl ⟨by omega, by omega⟩ | exact Or.inr ⟨by omega, by omega⟩)
local macro_rules | `(tactic| walk_at "auto") => `(tactic| repeat (first | ((with_reducible refine hold ?_); walk_at "pu") | ((with_reducible refine holdT ?_); walk_at "pu") | ((with_reducible refine And.intro ?_ ?_); (· walk_at "side"))))
section
variable {P : Program} {w : World} {K : PySem.W.Frag} {mg : Str → Option Value} {base : Heap}
theorem scLaw : FnScope ["_law_script", "_law_cells", "_law_at", "_law_many"] ["_law_script"] (defScope sLaw) := ⟨rfl, rfl, rfl, by decide +kernel, rfl, by decide +kernel, by decide +kernel⟩
theorem ok_Law {f f1 f2 f3 : Addr} {fd fd1 fd2 fd3 : FuncData} (F : Fun K "law" "law" sLaw f fd) (Right : Fx K mg "_law_right" sRight ["_law_shape_here"] f1 fd1) (GRight : FnOk P w K mg base CX0 5 f1 fd1 ["_law_shape_here"] (spP K fRight))
    (Shape : Fx K mg "_law_shape" sShape ["_law_head", "_law_cells"] f2 fd2) (GShape : FnOk P w K mg base CX0 5 f2 fd2 ["_law_head", "_law_cells"] (spP K fShape)) (FilledUp : Fx K mg "_law_filled_up" sFilledUp ["_law_cells", "_law_at", "_law_many"] f3 fd3) (B : Bl mg) : FnOk P w K mg base CX0 6 f fd ["_law_script"] (spP K fLaw) := by
  have GFilledUp : FnOk P w K mg base CX0 5 f3 fd3 ["_law_cells", "_law_at", "_law_many"] (spP K fFilledUp) := (ok_FilledUp FilledUp.fn B).mono (by decide)
  refine fn_pure F scLaw (fun ds Q ⟨c, e, _⟩ => by rw [e]; rfl) (fun cdv A outer s H E hr => ?_)
  have hu : (A.deeper (envOfC "law" (defScope sLaw) s.heap.objs.size f cdv)).units + 16 < cLine := by have q := hr.units; omega
  have nd := scLaw.nd
  refine ⟨_, (puss_cons (pus_set (i := 1) nd rfl (Or.inl rfl) (pu_cat (pu_slice (pu_var 0) puo_none (puo_some pu_int)) (pu_lst (pua_cons pu_int pua_nil))))
      (puss_cons (pus_frz 1 (pus_set (i := 2) nd rfl (Or.inl rfl) pu_int))
      (puss_cons (pus_while PassesOwn.never (put_lt (pu_var 2) (pu_len rfl B.len (pua_cons (pu_var 1) pua_nil))) (puss_cons (pus_set (i := 3) nd rfl (Or.inl rfl) (pu_add pu_int (pu_mod (pu_item (pu_var 1) (pu_var 2)) pu_int)))
      (puss_cons (pus_if (put_not (put_tru (pu_call GRight mono_Right hr rfl Right.mg Right.fn.kp Right.bd (pua_cons (pu_call GShape mono_Shape hr rfl Shape.mg Shape.fn.kp Shape.bd (pua_cons (pu_item (pu_var 1) (pu_var 2)) (pua_cons (pu_call GFilledUp mono_FilledUp hr rfl FilledUp.mg FilledUp.fn.kp FilledUp.bd (pua_cons (pu_var 1) (pua_cons (pu_add (pu_var 2) pu_int) (pua_cons (pu_var 3) pua_nil)))) pua_nil))) pua_nil)))) (puss_one (pus_ret pu_bl)) puss_nil)
      (puss_one (pus_set (i := 2) nd rfl (Or.inl rfl) (pu_add (pu_add (pu_var 2) pu_int) (pu_var 3)))))))
      (puss_one (pus_ret pu_bl))))), fun ds Q h => ?_⟩
  obtain ⟨ns, rfl, h63, q⟩ := h
  walk_at "pu"
  have hcut : cutP (ns.map PV.int) none (some 63) = ns.map PV.int := by
    unfold cutP
    have e1 : HT.sIx (ns.map PV.int).length 0 none = 0 := rfl
    have e2 : (ns.map PV.int).length ≤ HT.sIx (ns.map PV.int).length (ns.map PV.int).length (some 63) := by
      rw [List.length_map]
      unfold HT.sIx
      simp
      omega
    rw [e1, List.drop_zero, Nat.sub_zero, List.take_of_length_le e2]
  rw [hcut]
  have hcs : ns.map PV.int ++ [PV.int 0] = (ns ++ [0]).map PV.int := by rw [List.map_append]; rfl
  rw [hcs]
  have hcl : (ns ++ [(0 : Int)]).length ≤ 64 := by rw [List.length_append]; simp; omega
  generalize ns ++ [(0 : Int)] = cs at hcl
  refine ⟨by decide, by rw [List.length_map, sizeLine_eq]; omega, ?_⟩
  walk_at "go"
  walk_at "go"
  obtain ⟨Iv, hIv⟩ : ∃ Iv : Nat → PEnv → Prop, ∀ m ρ, Iv m ρ ↔ ∃ (at' : Nat) (v3 : Option (PV × Bool)), ρ = [some (PV.lst (ns.map PV.int), false), some (PV.lst (cs.map PV.int), false), some (PV.int at', false), v3] ∧ m + at' = 200 ∧ at' ≤ 100 := ⟨_, fun _ _ => Iff.rfl⟩
  refine ⟨Iv, ⟨200, (hIv _ _).mpr ⟨0, none, rfl, rfl, by omega⟩⟩, ?_⟩
  intro m ρ hI
  obtain ⟨at', v3, rfl, hm, ha⟩ := (hIv _ _).mp hI
  walk_at "go"
  rw [List.length_map]
  refine ite2 (fun hlt => ?_) (fun hlt => ?_)
  · have hlt' : at' < cs.length := by omega
    have hat : atI (cs.map PV.int) (at' : Int) = some (PV.int cs[at']) := cget hlt' rfl
    have n1 := Int.emod_nonneg cs[at'] (show (6 : Int) ≠ 0 by decide)
    have n2 := Int.emod_lt_of_pos cs[at'] (show (0 : Int) < 6 by decide)
    walk_at "go"
    refine ⟨_, hat, _, rfl, by decide, ?_⟩
    walk_at "go"
    refine ⟨_, hat, ⟨_, rfl⟩, by omega, by omega, by omega, by omega, fun zs hz => ⟨_, rfl, zs, rfl, by omega, fun sh k hs hk => ?_⟩⟩
    have hsl := hs.1
    refine ⟨sh, rfl, ⟨fun z => by rw [z, List.length_nil] at hsl; omega, by omega, fun p hp => (hs.2 p hp).1⟩, ?_⟩
    walk_at "go"
    walk_at "go"
    obtain ⟨b, hb⟩ : ∃ b : Nat, (at' : Int) + 1 + (1 + cs[at'] % 6) = (b : Int) := ⟨(at' + 1 + (1 + cs[at'] % 6)).toNat, by omega⟩
    rw [hb]
    exact ⟨200 - b, by omega, (hIv _ _).mpr ⟨b, _, rfl, by omega, by omega⟩⟩
  · walk_at "go"
    exact q
end
theorem law_true : ∀ ns : List Int, ns.length ≤ 63 → fLaw [.lst (ns.map PV.int)] fun d k => d = .bl true := fun ns h => ⟨ns, rfl, h, rfl⟩
end Q11
set_option Elab.async false
set_option linter.all false
set_option maxRecDepth 100000
set_option maxHeartbeats 4000000
namespace Q11
open PySem PySem.Spec L2 PL
open PyProof.Rows hiding St
theorem all_mk {l : PySem.W.OpenLaw} {w : World} {K : PySem.W.Frag} {h : Heap} {mg : Str → Option Value} {fa f0 f1 f2 f3 f4 f5 f6 f7 f8 f9 f10 f11 f12 f13 f14 f15 f16 f17 f18 f19 f20 f21 f22 : Addr} (X : K.In h) (G : h.Ns mainGlobals mg) (hfa : mg "law" = some (.ref fa))
    {od0 an0 od1 an1 od2 an2 od3 an3 od4 an4 od5 an5 od6 an6 od7 an7 od8 an8 od9 an9 od10 an10 od11 an11 od12 an12 od13 an13 od14 an14 od15 an15 od16 an16 od17 an17 od18 an18 od19 an19 od20 an20 od21 an21 od22 an22 : Option Addr} {sl0 sl1 sl2 sl3 sl4 sl5 sl6 sl7 sl8 sl9 sl10 sl11 sl12 sl13 sl14 sl15 sl16 sl17 sl18 sl19 sl20 sl21 sl22 : Array (Option Value)} {oc0 kV0 dc0 pm0 cd0 ct0 oc1 kV1 dc1 pm1 cd1 ct1 oc2 kV2 dc2 pm2 cd2 ct2 oc3 kV3 dc3 pm3 cd3 ct3 oc4 kV4 dc4 pm4 cd4 ct4 oc5 kV5 dc5 pm5 cd5 ct5 oc6 kV6 dc6 pm6 cd6 ct6 oc7 kV7 dc7 pm7 cd7 ct7 oc8 kV8 dc8 pm8 cd8 ct8 oc9 kV9 dc9 pm9 cd9 ct9 oc10 kV10 dc10 pm10 cd10 ct10 oc11 kV11 dc11 pm11 cd11 ct11 oc12 kV12 dc12 pm12 cd12 ct12 oc13 kV13 dc13 pm13 cd13 ct13 oc14 kV14 dc14 pm14 cd14 ct14 oc15 kV15 dc15 pm15 cd15 ct15 oc16 kV16 dc16 pm16 cd16 ct16 oc17 kV17 dc17 pm17 cd17 ct17 oc18 kV18 dc18 pm18 cd18 ct18 oc19 kV19 dc19 pm19 cd19 ct19 oc20 kV20 dc20 pm20 cd20 ct20 oc21 kV21 dc21 pm21 cd21 ct21 oc22 kV22 dc22 pm22 cd22 ct22 : Value}
    (a0 : PySem.W.nsIn K mainGlobals "letter_step" = some (some (.ref f0))) (l0 : K.lookup f0 = some ⟨oc0, od0, .func (PySem.W.fnOf "letter_step" "letter_step" (defArgs sLetterStep) (defBody sLetterStep) (defScope sLetterStep) .none kV0 dc0 pm0 an0 cd0 ct0), sl0⟩) (c0 : PySem.W.codeIn K cd0 "letter_step" = true) (k0 : PySem.W.keepIn K (.ref f0) = true)
    (a1 : PySem.W.nsIn K mainGlobals "pattern_step" = some (some (.ref f1))) (l1 : K.lookup f1 = some ⟨oc1, od1, .func (PySem.W.fnOf "pattern_step" "pattern_step" (defArgs sPatternStep) (defBody sPatternStep) (defScope sPatternStep) .none kV1 dc1 pm1 an1 cd1 ct1), sl1⟩) (c1 : PySem.W.codeIn K cd1 "pattern_step" = true) (k1 : PySem.W.keepIn K (.ref f1) = true)
    (a2 : PySem.W.nsIn K mainGlobals "any_step" = some (some (.ref f2))) (l2 : K.lookup f2 = some ⟨oc2, od2, .func (PySem.W.fnOf "any_step" "any_step" (defArgs sAnyStep) (defBody sAnyStep) (defScope sAnyStep) .none kV2 dc2 pm2 an2 cd2 ct2), sl2⟩) (c2 : PySem.W.codeIn K cd2 "any_step" = true) (k2 : PySem.W.keepIn K (.ref f2) = true)
    (a3 : PySem.W.nsIn K mainGlobals "do_step" = some (some (.ref f3))) (l3 : K.lookup f3 = some ⟨oc3, od3, .func (PySem.W.fnOf "do_step" "do_step" (defArgs sDoStep) (defBody sDoStep) (defScope sDoStep) .none kV3 dc3 pm3 an3 cd3 ct3), sl3⟩) (c3 : PySem.W.codeIn K cd3 "do_step" = true) (k3 : PySem.W.keepIn K (.ref f3) = true)
    (a4 : PySem.W.nsIn K mainGlobals "taken_apart" = some (some (.ref f4))) (l4 : K.lookup f4 = some ⟨oc4, od4, .func (PySem.W.fnOf "taken_apart" "taken_apart" (defArgs sTakenApart) (defBody sTakenApart) (defScope sTakenApart) .none kV4 dc4 pm4 an4 cd4 ct4), sl4⟩) (c4 : PySem.W.codeIn K cd4 "taken_apart" = true) (k4 : PySem.W.keepIn K (.ref f4) = true)
    (a5 : PySem.W.nsIn K mainGlobals "parents_by" = some (some (.ref f5))) (l5 : K.lookup f5 = some ⟨oc5, od5, .func (PySem.W.fnOf "parents_by" "parents_by" (defArgs sParentsBy) (defBody sParentsBy) (defScope sParentsBy) .none kV5 dc5 pm5 an5 cd5 ct5), sl5⟩) (c5 : PySem.W.codeIn K cd5 "parents_by" = true) (k5 : PySem.W.keepIn K (.ref f5) = true)
    (a6 : PySem.W.nsIn K mainGlobals "apart" = some (some (.ref f6))) (l6 : K.lookup f6 = some ⟨oc6, od6, .func (PySem.W.fnOf "apart" "apart" (defArgs sApart) (defBody sApart) (defScope sApart) .none kV6 dc6 pm6 an6 cd6 ct6), sl6⟩) (c6 : PySem.W.codeIn K cd6 "apart" = true) (k6 : PySem.W.keepIn K (.ref f6) = true)
    (a7 : PySem.W.nsIn K mainGlobals "_law_whole" = some (some (.ref f7))) (l7 : K.lookup f7 = some ⟨oc7, od7, .func (PySem.W.fnOf "_law_whole" "_law_whole" (defArgs sWhole) (defBody sWhole) (defScope sWhole) .none kV7 dc7 pm7 an7 cd7 ct7), sl7⟩) (c7 : PySem.W.codeIn K cd7 "_law_whole" = true) (k7 : PySem.W.keepIn K (.ref f7) = true)
    (a8 : PySem.W.nsIn K mainGlobals "_law_mixed" = some (some (.ref f8))) (l8 : K.lookup f8 = some ⟨oc8, od8, .func (PySem.W.fnOf "_law_mixed" "_law_mixed" (defArgs sMixed) (defBody sMixed) (defScope sMixed) .none kV8 dc8 pm8 an8 cd8 ct8), sl8⟩) (c8 : PySem.W.codeIn K cd8 "_law_mixed" = true) (k8 : PySem.W.keepIn K (.ref f8) = true)
    (a9 : PySem.W.nsIn K mainGlobals "_law_picked" = some (some (.ref f9))) (l9 : K.lookup f9 = some ⟨oc9, od9, .func (PySem.W.fnOf "_law_picked" "_law_picked" (defArgs sPicked) (defBody sPicked) (defScope sPicked) .none kV9 dc9 pm9 an9 cd9 ct9), sl9⟩) (c9 : PySem.W.codeIn K cd9 "_law_picked" = true) (k9 : PySem.W.keepIn K (.ref f9) = true)
    (a10 : PySem.W.nsIn K mainGlobals "_law_alphabet" = some (some (.ref f10))) (l10 : K.lookup f10 = some ⟨oc10, od10, .func (PySem.W.fnOf "_law_alphabet" "_law_alphabet" (defArgs sAlphabet) (defBody sAlphabet) (defScope sAlphabet) .none kV10 dc10 pm10 an10 cd10 ct10), sl10⟩) (c10 : PySem.W.codeIn K cd10 "_law_alphabet" = true) (k10 : PySem.W.keepIn K (.ref f10) = true)
    (a11 : PySem.W.nsIn K mainGlobals "_law_any" = some (some (.ref f11))) (l11 : K.lookup f11 = some ⟨oc11, od11, .func (PySem.W.fnOf "_law_any" "_law_any" (defArgs sAny) (defBody sAny) (defScope sAny) .none kV11 dc11 pm11 an11 cd11 ct11), sl11⟩) (c11 : PySem.W.codeIn K cd11 "_law_any" = true) (k11 : PySem.W.keepIn K (.ref f11) = true)
    (a12 : PySem.W.nsIn K mainGlobals "_law_ring" = some (some (.ref f12))) (l12 : K.lookup f12 = some ⟨oc12, od12, .func (PySem.W.fnOf "_law_ring" "_law_ring" (defArgs sRing) (defBody sRing) (defScope sRing) .none kV12 dc12 pm12 an12 cd12 ct12), sl12⟩) (c12 : PySem.W.codeIn K cd12 "_law_ring" = true) (k12 : PySem.W.keepIn K (.ref f12) = true)
    (a13 : PySem.W.nsIn K mainGlobals "_law_tree" = some (some (.ref f13))) (l13 : K.lookup f13 = some ⟨oc13, od13, .func (PySem.W.fnOf "_law_tree" "_law_tree" (defArgs sTree) (defBody sTree) (defScope sTree) .none kV13 dc13 pm13 an13 cd13 ct13), sl13⟩) (c13 : PySem.W.codeIn K cd13 "_law_tree" = true) (k13 : PySem.W.keepIn K (.ref f13) = true)
    (a14 : PySem.W.nsIn K mainGlobals "_law_shape" = some (some (.ref f14))) (l14 : K.lookup f14 = some ⟨oc14, od14, .func (PySem.W.fnOf "_law_shape" "_law_shape" (defArgs sShape) (defBody sShape) (defScope sShape) .none kV14 dc14 pm14 an14 cd14 ct14), sl14⟩) (c14 : PySem.W.codeIn K cd14 "_law_shape" = true) (k14 : PySem.W.keepIn K (.ref f14) = true)
    (a15 : PySem.W.nsIn K mainGlobals "_law_filled_up" = some (some (.ref f15))) (l15 : K.lookup f15 = some ⟨oc15, od15, .func (PySem.W.fnOf "_law_filled_up" "_law_filled_up" (defArgs sFilledUp) (defBody sFilledUp) (defScope sFilledUp) .none kV15 dc15 pm15 an15 cd15 ct15), sl15⟩) (c15 : PySem.W.codeIn K cd15 "_law_filled_up" = true) (k15 : PySem.W.keepIn K (.ref f15) = true)
    (a16 : PySem.W.nsIn K mainGlobals "_law_is_tree" = some (some (.ref f16))) (l16 : K.lookup f16 = some ⟨oc16, od16, .func (PySem.W.fnOf "_law_is_tree" "_law_is_tree" (defArgs sIsTree) (defBody sIsTree) (defScope sIsTree) .none kV16 dc16 pm16 an16 cd16 ct16), sl16⟩) (c16 : PySem.W.codeIn K cd16 "_law_is_tree" = true) (k16 : PySem.W.keepIn K (.ref f16) = true)
    (a17 : PySem.W.nsIn K mainGlobals "_law_holders" = some (some (.ref f17))) (l17 : K.lookup f17 = some ⟨oc17, od17, .func (PySem.W.fnOf "_law_holders" "_law_holders" (defArgs sHolders) (defBody sHolders) (defScope sHolders) .none kV17 dc17 pm17 an17 cd17 ct17), sl17⟩) (c17 : PySem.W.codeIn K cd17 "_law_holders" = true) (k17 : PySem.W.keepIn K (.ref f17) = true)
    (a18 : PySem.W.nsIn K mainGlobals "_law_within" = some (some (.ref f18))) (l18 : K.lookup f18 = some ⟨oc18, od18, .func (PySem.W.fnOf "_law_within" "_law_within" (defArgs sWithin) (defBody sWithin) (defScope sWithin) .none kV18 dc18 pm18 an18 cd18 ct18), sl18⟩) (c18 : PySem.W.codeIn K cd18 "_law_within" = true) (k18 : PySem.W.keepIn K (.ref f18) = true)
    (a19 : PySem.W.nsIn K mainGlobals "_law_stepped" = some (some (.ref f19))) (l19 : K.lookup f19 = some ⟨oc19, od19, .func (PySem.W.fnOf "_law_stepped" "_law_stepped" (defArgs sStepped) (defBody sStepped) (defScope sStepped) .none kV19 dc19 pm19 an19 cd19 ct19), sl19⟩) (c19 : PySem.W.codeIn K cd19 "_law_stepped" = true) (k19 : PySem.W.keepIn K (.ref f19) = true)
    (a20 : PySem.W.nsIn K mainGlobals "_law_stuck" = some (some (.ref f20))) (l20 : K.lookup f20 = some ⟨oc20, od20, .func (PySem.W.fnOf "_law_stuck" "_law_stuck" (defArgs sStuck) (defBody sStuck) (defScope sStuck) .none kV20 dc20 pm20 an20 cd20 ct20), sl20⟩) (c20 : PySem.W.codeIn K cd20 "_law_stuck" = true) (k20 : PySem.W.keepIn K (.ref f20) = true)
    (a21 : PySem.W.nsIn K mainGlobals "_law_right" = some (some (.ref f21))) (l21 : K.lookup f21 = some ⟨oc21, od21, .func (PySem.W.fnOf "_law_right" "_law_right" (defArgs sRight) (defBody sRight) (defScope sRight) .none kV21 dc21 pm21 an21 cd21 ct21), sl21⟩) (c21 : PySem.W.codeIn K cd21 "_law_right" = true) (k21 : PySem.W.keepIn K (.ref f21) = true)
    (a22 : PySem.W.nsIn K mainGlobals "law" = some (some (.ref f22))) (l22 : K.lookup f22 = some ⟨oc22, od22, .func (PySem.W.fnOf "law" "law" (defArgs sLaw) (defBody sLaw) (defScope sLaw) .none kV22 dc22 pm22 an22 cd22 ct22), sl22⟩) (c22 : PySem.W.codeIn K cd22 "law" = true) (k22 : PySem.W.keepIn K (.ref f22) = true)
    (z0 : PySem.W.nsIn K mainGlobals "range" = some none)
    (z1 : PySem.W.nsIn K mainGlobals "len" = some none)
    (z2 : PySem.W.nsIn K mainGlobals "list" = some none)
    (z3 : PySem.W.nsIn K mainGlobals "tuple" = some none)
    (z4 : PySem.W.nsIn K mainGlobals "sorted" = some none)
    (z5 : PySem.W.nsIn K mainGlobals "set" = some none)
    (z6 : PySem.W.nsIn K mainGlobals "isinstance" = some none)
    (z7 : PySem.W.nsIn K mainGlobals "str" = some none)
    (z8 : PySem.W.nsIn K mainGlobals "int" = some none)
    (z9 : PySem.W.nsIn K mainGlobals "bool" = some none)
    (z10 : PySem.W.nsIn K mainGlobals "dict" = some none)
    (z11 : PySem.W.nsIn K mainGlobals "enumerate" = some none)
    (z12 : PySem.W.nsIn K mainGlobals "zip" = some none)
    (z13 : PySem.W.nsIn K mainGlobals "min" = some none)
    (z14 : PySem.W.nsIn K mainGlobals "max" = some none)
    (z15 : PySem.W.nsIn K mainGlobals "sum" = some none)
    (z16 : PySem.W.nsIn K mainGlobals "all" = some none)
    (z17 : PySem.W.nsIn K mainGlobals "any" = some none)
    (z18 : PySem.W.nsIn K mainGlobals "reversed" = some none)
    (z19 : PySem.W.nsIn K mainGlobals "abs" = some none) :
    ∃ fd : FuncData, (∀ (s : Shared) (v : Value), BindsTo s fd ⟨[v], []⟩ [("_law_script", v)]) ∧ ∀ base : Heap, K.In base → base.Ns mainGlobals mg → FnOk l.prog w K mg base CX0 6 fa fd ["_law_script"] (spP K fLaw) := by
  have e := hfa.symm.trans (PySem.W.mg_of X G a22)
  cases e
  have F0 := fun_mk (st := sLetterStep) l0 c0 k0
  have X0 : Fx K mg "letter_step" sLetterStep ["left"] f0 _ := ⟨F0, F0.binds (ps := ["left"]) fun _ _ _ _ _ _ us hl => match us, hl with | [_], _ => rfl, PySem.W.mg_of X G a0⟩
  have F1 := fun_mk (st := sPatternStep) l1 c1 k1
  have X1 : Fx K mg "pattern_step" sPatternStep ["left"] f1 _ := ⟨F1, F1.binds (ps := ["left"]) fun _ _ _ _ _ _ us hl => match us, hl with | [_], _ => rfl, PySem.W.mg_of X G a1⟩
  have F2 := fun_mk (st := sAnyStep) l2 c2 k2
  have X2 : Fx K mg "any_step" sAnyStep ["left"] f2 _ := ⟨F2, F2.binds (ps := ["left"]) fun _ _ _ _ _ _ us hl => match us, hl with | [_], _ => rfl, PySem.W.mg_of X G a2⟩
  have F3 := fun_mk (st := sDoStep) l3 c3 k3
  have X3 : Fx K mg "do_step" sDoStep ["left", "step"] f3 _ := ⟨F3, F3.binds (ps := ["left", "step"]) fun _ _ _ _ _ _ us hl => match us, hl with | [_, _], _ => rfl, PySem.W.mg_of X G a3⟩
  have F4 := fun_mk (st := sTakenApart) l4 c4 k4
  have X4 : Fx K mg "taken_apart" sTakenApart ["shape"] f4 _ := ⟨F4, F4.binds (ps := ["shape"]) fun _ _ _ _ _ _ us hl => match us, hl with | [_], _ => rfl, PySem.W.mg_of X G a4⟩
  have F5 := fun_mk (st := sParentsBy) l5 c5 k5
  have X5 : Fx K mg "parents_by" sParentsBy ["steps", "size"] f5 _ := ⟨F5, F5.binds (ps := ["steps", "size"]) fun _ _ _ _ _ _ us hl => match us, hl with | [_, _], _ => rfl, PySem.W.mg_of X G a5⟩
  have F6 := fun_mk (st := sApart) l6 c6 k6
  have X6 : Fx K mg "apart" sApart ["shape"] f6 _ := ⟨F6, F6.binds (ps := ["shape"]) fun _ _ _ _ _ _ us hl => match us, hl with | [_], _ => rfl, PySem.W.mg_of X G a6⟩
  have F7 := fun_mk (st := sWhole) l7 c7 k7
  have X7 : Fx K mg "_law_whole" sWhole ["_law_found"] f7 _ := ⟨F7, F7.binds (ps := ["_law_found"]) fun _ _ _ _ _ _ us hl => match us, hl with | [_], _ => rfl, PySem.W.mg_of X G a7⟩
  have F8 := fun_mk (st := sMixed) l8 c8 k8
  have X8 : Fx K mg "_law_mixed" sMixed ["_law_cell", "_law_k"] f8 _ := ⟨F8, F8.binds (ps := ["_law_cell", "_law_k"]) fun _ _ _ _ _ _ us hl => match us, hl with | [_, _], _ => rfl, PySem.W.mg_of X G a8⟩
  have F9 := fun_mk (st := sPicked) l9 c9 k9
  have X9 : Fx K mg "_law_picked" sPicked ["_law_cell", "_law_some", "_law_many"] f9 _ := ⟨F9, F9.binds (ps := ["_law_cell", "_law_some", "_law_many"]) fun _ _ _ _ _ _ us hl => match us, hl with | [_, _, _], _ => rfl, PySem.W.mg_of X G a9⟩
  have F10 := fun_mk (st := sAlphabet) l10 c10 k10
  have X10 : Fx K mg "_law_alphabet" sAlphabet ["_law_cell"] f10 _ := ⟨F10, F10.binds (ps := ["_law_cell"]) fun _ _ _ _ _ _ us hl => match us, hl with | [_], _ => rfl, PySem.W.mg_of X G a10⟩
  have F11 := fun_mk (st := sAny) l11 c11 k11
  have X11 : Fx K mg "_law_any" sAny ["_law_cells", "_law_letters"] f11 _ := ⟨F11, F11.binds (ps := ["_law_cells", "_law_letters"]) fun _ _ _ _ _ _ us hl => match us, hl with | [_, _], _ => rfl, PySem.W.mg_of X G a11⟩
  have F12 := fun_mk (st := sRing) l12 c12 k12
  have X12 : Fx K mg "_law_ring" sRing ["_law_cells", "_law_letters"] f12 _ := ⟨F12, F12.binds (ps := ["_law_cells", "_law_letters"]) fun _ _ _ _ _ _ us hl => match us, hl with | [_, _], _ => rfl, PySem.W.mg_of X G a12⟩
  have F13 := fun_mk (st := sTree) l13 c13 k13
  have X13 : Fx K mg "_law_tree" sTree ["_law_cells", "_law_letters"] f13 _ := ⟨F13, F13.binds (ps := ["_law_cells", "_law_letters"]) fun _ _ _ _ _ _ us hl => match us, hl with | [_, _], _ => rfl, PySem.W.mg_of X G a13⟩
  have F14 := fun_mk (st := sShape) l14 c14 k14
  have X14 : Fx K mg "_law_shape" sShape ["_law_head", "_law_cells"] f14 _ := ⟨F14, F14.binds (ps := ["_law_head", "_law_cells"]) fun _ _ _ _ _ _ us hl => match us, hl with | [_, _], _ => rfl, PySem.W.mg_of X G a14⟩
  have F15 := fun_mk (st := sFilledUp) l15 c15 k15
  have X15 : Fx K mg "_law_filled_up" sFilledUp ["_law_cells", "_law_at", "_law_many"] f15 _ := ⟨F15, F15.binds (ps := ["_law_cells", "_law_at", "_law_many"]) fun _ _ _ _ _ _ us hl => match us, hl with | [_, _, _], _ => rfl, PySem.W.mg_of X G a15⟩
  have F16 := fun_mk (st := sIsTree) l16 c16 k16
  have X16 : Fx K mg "_law_is_tree" sIsTree ["_law_shape_here", "_law_found"] f16 _ := ⟨F16, F16.binds (ps := ["_law_shape_here", "_law_found"]) fun _ _ _ _ _ _ us hl => match us, hl with | [_, _], _ => rfl, PySem.W.mg_of X G a16⟩
  have F17 := fun_mk (st := sHolders) l17 c17 k17
  have X17 : Fx K mg "_law_holders" sHolders ["_law_left", "_law_letter"] f17 _ := ⟨F17, F17.binds (ps := ["_law_left", "_law_letter"]) fun _ _ _ _ _ _ us hl => match us, hl with | [_, _], _ => rfl, PySem.W.mg_of X G a17⟩
  have F18 := fun_mk (st := sWithin) l18 c18 k18
  have X18 : Fx K mg "_law_within" sWithin ["_law_left", "_law_i", "_law_j"] f18 _ := ⟨F18, F18.binds (ps := ["_law_left", "_law_i", "_law_j"]) fun _ _ _ _ _ _ us hl => match us, hl with | [_, _, _], _ => rfl, PySem.W.mg_of X G a18⟩
  have F19 := fun_mk (st := sStepped) l19 c19 k19
  have X19 : Fx K mg "_law_stepped" sStepped ["_law_left", "_law_step"] f19 _ := ⟨F19, F19.binds (ps := ["_law_left", "_law_step"]) fun _ _ _ _ _ _ us hl => match us, hl with | [_, _], _ => rfl, PySem.W.mg_of X G a19⟩
  have F20 := fun_mk (st := sStuck) l20 c20 k20
  have X20 : Fx K mg "_law_stuck" sStuck ["_law_left"] f20 _ := ⟨F20, F20.binds (ps := ["_law_left"]) fun _ _ _ _ _ _ us hl => match us, hl with | [_], _ => rfl, PySem.W.mg_of X G a20⟩
  have F21 := fun_mk (st := sRight) l21 c21 k21
  have X21 : Fx K mg "_law_right" sRight ["_law_shape_here"] f21 _ := ⟨F21, F21.binds (ps := ["_law_shape_here"]) fun _ _ _ _ _ _ us hl => match us, hl with | [_], _ => rfl, PySem.W.mg_of X G a21⟩
  have F22 := fun_mk (st := sLaw) l22 c22 k22
  have B : Bl mg := ⟨PySem.W.mg_none_of X G z0, PySem.W.mg_none_of X G z1, PySem.W.mg_none_of X G z2, PySem.W.mg_none_of X G z3, PySem.W.mg_none_of X G z4, PySem.W.mg_none_of X G z5, PySem.W.mg_none_of X G z6, PySem.W.mg_none_of X G z7, PySem.W.mg_none_of X G z8, PySem.W.mg_none_of X G z9, PySem.W.mg_none_of X G z10, PySem.W.mg_none_of X G z11, PySem.W.mg_none_of X G z12, PySem.W.mg_none_of X G z13, PySem.W.mg_none_of X G z14, PySem.W.mg_none_of X G z15, PySem.W.mg_none_of X G z16, PySem.W.mg_none_of X G z17, PySem.W.mg_none_of X G z18, PySem.W.mg_none_of X G z19⟩
  exact ⟨PySem.W.fnOf "law" "law" (defArgs sLaw) (defBody sLaw) (defScope sLaw) .none kV22 dc22 pm22 an22 cd22 ct22, fun s v => .of_eq rfl, fun base _ _ => ok_Law F22 X21 (ok_Right X21.fn X6 (ok_Apart X6.fn X4 (ok_TakenApart X4.fn X2 X3 X0 X1 B) X5 B) X16 X19 X20 X17 X18 X7 B) X14 ((ok_Shape X14.fn X8 X9 X10 X11 X12 X13 B).mono (by decide)) X15 B⟩
end Q11
open PySem PySem.W
set_option maxRecDepth 100000 in
set_option maxHeartbeats 0 in
theorem PySem.Challenge.cw_joinwood_k11_tree_or_core_holds : PySem.Challenge.rw_joinwood_k11_tree_or_core.Holds := by
  w_on; o_law; k_head; (case hw => w_witness2)
  k_fill
  refine PL.walkP (l := PySem.Challenge.rw_joinwood_k11_tree_or_core) (k := 6) (FL := Q11.fLaw) (x := "_law_script") rfl rfl ⟨rfl, by decide, by decide⟩ Q11.mono_Law (fun w h Y => PySem.W.kIn_of Y) ?F Q11.law_true
  case F =>
    intro w mg fa h KX G hmg
    refine' Q11.all_mk KX G hmg ?a0 ?l0 ?c0 ?k0 ?a1 ?l1 ?c1 ?k1 ?a2 ?l2 ?c2 ?k2 ?a3 ?l3 ?c3 ?k3 ?a4 ?l4 ?c4 ?k4 ?a5 ?l5 ?c5 ?k5 ?a6 ?l6 ?c6 ?k6 ?a7 ?l7 ?c7 ?k7 ?a8 ?l8 ?c8 ?k8 ?a9 ?l9 ?c9 ?k9 ?a10 ?l10 ?c10 ?k10 ?a11 ?l11 ?c11 ?k11 ?a12 ?l12 ?c12 ?k12 ?a13 ?l13 ?c13 ?k13 ?a14 ?l14 ?c14 ?k14 ?a15 ?l15 ?c15 ?k15 ?a16 ?l16 ?c16 ?k16 ?a17 ?l17 ?c17 ?k17 ?a18 ?l18 ?c18 ?k18 ?a19 ?l19 ?c19 ?k19 ?a20 ?l20 ?c20 ?k20 ?a21 ?l21 ?c21 ?k21 ?a22 ?l22 ?c22 ?k22 ?z0 ?z1 ?z2 ?z3 ?z4 ?z5 ?z6 ?z7 ?z8 ?z9 ?z10 ?z11 ?z12 ?z13 ?z14 ?z15 ?z16 ?z17 ?z18 ?z19
    (case a0 => k_is)
    (case l0 => k_is)
    (case c0 => k_is)
    (case k0 => k_is)
    (case a1 => k_is)
    (case l1 => k_is)
    (case c1 => k_is)
    (case k1 => k_is)
    (case a2 => k_is)
    (case l2 => k_is)
    (case c2 => k_is)
    (case k2 => k_is)
    (case a3 => k_is)
    (case l3 => k_is)
    (case c3 => k_is)
    (case k3 => k_is)
    (case a4 => k_is)
    (case l4 => k_is)
    (case c4 => k_is)
    (case k4 => k_is)
    (case a5 => k_is)
    (case l5 => k_is)
    (case c5 => k_is)
    (case k5 => k_is)
    (case a6 => k_is)
    (case l6 => k_is)
    (case c6 => k_is)
    (case k6 => k_is)
    (case a7 => k_is)
    (case l7 => k_is)
    (case c7 => k_is)
    (case k7 => k_is)
    (case a8 => k_is)
    (case l8 => k_is)
    (case c8 => k_is)
    (case k8 => k_is)
    (case a9 => k_is)
    (case l9 => k_is)
    (case c9 => k_is)
    (case k9 => k_is)
    (case a10 => k_is)
    (case l10 => k_is)
    (case c10 => k_is)
    (case k10 => k_is)
    (case a11 => k_is)
    (case l11 => k_is)
    (case c11 => k_is)
    (case k11 => k_is)
    (case a12 => k_is)
    (case l12 => k_is)
    (case c12 => k_is)
    (case k12 => k_is)
    (case a13 => k_is)
    (case l13 => k_is)
    (case c13 => k_is)
    (case k13 => k_is)
    (case a14 => k_is)
    (case l14 => k_is)
    (case c14 => k_is)
    (case k14 => k_is)
    (case a15 => k_is)
    (case l15 => k_is)
    (case c15 => k_is)
    (case k15 => k_is)
    (case a16 => k_is)
    (case l16 => k_is)
    (case c16 => k_is)
    (case k16 => k_is)
    (case a17 => k_is)
    (case l17 => k_is)
    (case c17 => k_is)
    (case k17 => k_is)
    (case a18 => k_is)
    (case l18 => k_is)
    (case c18 => k_is)
    (case k18 => k_is)
    (case a19 => k_is)
    (case l19 => k_is)
    (case c19 => k_is)
    (case k19 => k_is)
    (case a20 => k_is)
    (case l20 => k_is)
    (case c20 => k_is)
    (case k20 => k_is)
    (case a21 => k_is)
    (case l21 => k_is)
    (case c21 => k_is)
    (case k21 => k_is)
    (case a22 => k_is)
    (case l22 => k_is)
    (case c22 => k_is)
    (case k22 => k_is)
    (case z0 => k_is)
    (case z1 => k_is)
    (case z2 => k_is)
    (case z3 => k_is)
    (case z4 => k_is)
    (case z5 => k_is)
    (case z6 => k_is)
    (case z7 => k_is)
    (case z8 => k_is)
    (case z9 => k_is)
    (case z10 => k_is)
    (case z11 => k_is)
    (case z12 => k_is)
    (case z13 => k_is)
    (case z14 => k_is)
    (case z15 => k_is)
    (case z16 => k_is)
    (case z17 => k_is)
    (case z18 => k_is)
    (case z19 => k_is)
#print axioms PySem.Challenge.cw_joinwood_k11_tree_or_core_holds
