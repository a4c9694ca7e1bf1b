import PyProof.Rows.All
import Wide.All
import OpenK.AllK
import Wide.FinOn
import Lean
import PyProof.EqAt
import PyProof.EqKinds
import PyProof.TupleCall
import PyProof.NeKinds
import PySem.Challenge.RW_joinwood_k01_shapes
set_option Elab.async false
set_option linter.all false
set_option maxRecDepth 100000
/-! THE HAND LAYER, for ints, bools, texts, own classes, LISTS and tuples (index, slices, in, append, pop ..), calls, loops. Paste it whole ahead of your own text; what your proof does not reach may be deleted. -/
namespace L2
open PySem PySem.Spec PyProof.Rows

/-- a key: an int or a str -/
abbrev Key := Sum Int Str
def keyIs : Key → Value → Bool
  | .inl k, v => Value.isInt k v
  | .inr x, v => Value.isStrOf x v
def keyH (w : World) : Key → Int
  | .inl k => hashInt k
  | .inr x => hashStr w x
theorem keyIs_shape : ∀ {k : Key} {v : Value}, keyIs k v = true → (∃ i t, k = Sum.inl i ∧ v = Value.int i t) ∨ (∃ x t, k = Sum.inr x ∧ v = Value.str x t)
  | .inl i, v, h => by
    obtain ⟨t, e⟩ := Value.isInt_shape (k := i) (v := v) h
    exact .inl ⟨i, t, rfl, e⟩
  | .inr x, v, h => by
    obtain ⟨t, e⟩ := Value.isStrOf_shape (x := x) (v := v) h
    exact .inr ⟨x, t, rfl, e⟩
theorem keyIs_int (i : Int) (t : Tok) : keyIs (.inl i) (.int i t) = true := by simp [keyIs, Value.isInt]
theorem keyIs_str (x : Str) (t : Tok) : keyIs (.inr x) (.str x t) = true := by simp [keyIs, Value.isStrOf]
theorem key_ll (a b : Int) : decide ((Sum.inl a : Key) = Sum.inl b) = (a == b) := by
  by_cases e : a = b
  · subst e; simp
  · have h : ¬ (Sum.inl a : Key) = Sum.inl b := fun q => e (Sum.inl.inj q)
    rw [decide_eq_false h]
    exact (beq_eq_false_iff_ne.mpr e).symm
theorem key_rr (a b : Str) : decide ((Sum.inr a : Key) = Sum.inr b) = decide (a = b) := by
  by_cases e : a = b
  · subst e; simp
  · have h : ¬ (Sum.inr a : Key) = Sum.inr b := fun q => e (Sum.inr.inj q)
    rw [decide_eq_false h, decide_eq_false e]
theorem key_lr (a : Int) (b : Str) : decide ((Sum.inl a : Key) = Sum.inr b) = false := decide_eq_false (fun q => nomatch q)
theorem key_rl (a : Str) (b : Int) : decide ((Sum.inr a : Key) = Sum.inl b) = false := decide_eq_false (fun q => nomatch q)

def mixKind (prog : Program) (w : World) : PySem.KeyKind prog w Key where
  is := keyIs
  hash := keyH w
  inj := fun v a b ha hb => by
    rcases keyIs_shape ha with ⟨i, t, rfl, rfl⟩ | ⟨x, t, rfl, rfl⟩
    · rcases keyIs_shape hb with ⟨j, u, rfl, e⟩ | ⟨y, u, rfl, e⟩
      · injection e with e1 _; rw [e1]
      · exact nomatch e
    · rcases keyIs_shape hb with ⟨j, u, rfl, e⟩ | ⟨y, u, rfl, e⟩
      · exact nomatch e
      · injection e with e1 _; rw [e1]
  byValue := fun k v h => by
    rcases keyIs_shape h with ⟨i, t, rfl, rfl⟩ | ⟨x, t, rfl, rfl⟩ <;> rfl
  pyHash := fun hv h => by
    rcases keyIs_shape hv with ⟨i, t, rfl, rfl⟩ | ⟨x, t, rfl, rfl⟩
    · exact wpAny_pyHash_int h
    · exact wpAny_pyHash_str h
  eqBool := fun hu hv h => by
    rcases keyIs_shape hu with ⟨i, t, rfl, rfl⟩ | ⟨x, t, rfl, rfl⟩
    · rcases keyIs_shape hv with ⟨j, u, rfl, rfl⟩ | ⟨y, u, rfl, rfl⟩
      · rw [key_ll] at h; exact wpAny_eqBool_int h
      · rw [key_lr] at h; exact SeqAt.EqAt.int_str i t y u _ _ _ _ h
    · rcases keyIs_shape hv with ⟨j, u, rfl, rfl⟩ | ⟨y, u, rfl, rfl⟩
      · rw [key_rl] at h; exact SeqAt.EqAt.str_int x t j u _ _ _ _ h
      · rw [key_rr] at h; exact wpAny_eqBool_str h
  «strs» := fun k x t v h => by
    rcases keyIs_shape h with ⟨i, u, rfl, e⟩ | ⟨y, u, rfl, e⟩
    · exact nomatch e
    · injection e with e1 _
      subst e1
      cases v <;> rfl

theorem mixKind_is (prog : Program) (w : World) (k : Key) (v : Value) : (mixKind prog w).is k v = keyIs k v := rfl
theorem mixKind_int (prog : Program) (w : World) (i : Int) (t : Tok) : (mixKind prog w).is (.inl i) (.int i t) = true := keyIs_int i t
theorem mixKind_str (prog : Program) (w : World) (x : Str) (t : Tok) : (mixKind prog w).is (.inr x) (.str x t) = true := keyIs_str x t
end L2

namespace L2
open PySem PySem.Spec PyProof.Rows

/-- a value, without the heap -/
inductive V where
  | non | bl (b : Bool) | int (i : Int) | str (x : Str) | byt (b : Array UInt8) | flt (b : UInt64) | ref (a : Addr) | ty (n : String)
  deriving DecidableEq

def RelV : V → Value → Prop
  | .non, u => u = Value.none
  | .bl b, u => u = Value.bool b
  | .int i, u => ∃ t, u = Value.int i t
  | .str x, u => ∃ t, u = Value.str x t
  | .byt b, u => ∃ t, u = Value.bytes b t
  | .flt b, u => ∃ t, u = Value.float b t
  | .ref a, u => u = Value.ref a
  | .ty n, u => u = Value.type n

abbrev Vals : List V → List Value → Prop := Paired RelV
theorem Vals.length {xs : List V} {us : List Value} (r : Vals xs us) : xs.length = us.length := Paired.length r
theorem Vals.get : ∀ {xs : List V} {us : List Value} {i : Nat} {x : V}, Vals xs us → xs[i]? = some x → ∃ u, us[i]? = some u ∧ RelV x u
  | _, _, _, _, .nil, e => by simp at e
  | _, _, 0, _, .cons r _, e => by simp at e; subst e; exact ⟨_, rfl, r⟩
  | _, _, i + 1, x, .cons _ t, e => by
    obtain ⟨u, h1, h2⟩ := Vals.get (i := i) (x := x) t (by simpa using e)
    exact ⟨u, by simpa using h1, h2⟩
theorem Vals.set {x : V} {u : Value} (r : RelV x u) : ∀ {xs : List V} {us : List Value} (i : Nat), Vals xs us → Vals (xs.set i x) (us.set i u)
  | _, _, _, .nil => .nil
  | _, _, 0, .cons _ t => .cons r t
  | _, _, i + 1, .cons q t => .cons q (Vals.set r i t)
theorem Vals.append : ∀ {xs ys : List V} {us ws : List Value}, Vals xs us → Vals ys ws → Vals (xs ++ ys) (us ++ ws)
  | _, _, _, _, .nil, s => s
  | _, _, _, _, .cons r t, s => .cons r (Vals.append t s)
theorem Vals.take : ∀ {xs : List V} {us : List Value} (n : Nat), Vals xs us → Vals (xs.take n) (us.take n)
  | _, _, 0, _ => .nil
  | _, _, _ + 1, .nil => .nil
  | _, _, n + 1, .cons r t => .cons r (Vals.take n t)
theorem Vals.drop : ∀ {xs : List V} {us : List Value} (n : Nat), Vals xs us → Vals (xs.drop n) (us.drop n)
  | _, _, 0, r => r
  | _, _, _ + 1, .nil => .nil
  | _, _, n + 1, .cons _ t => Vals.drop n t
theorem Vals.none_of : ∀ {xs : List V} {us : List Value} {i : Nat}, Vals xs us → xs[i]? = none → us[i]? = none := fun {xs us i} r e => by
  have h1 := r.length
  have h2 : xs.length ≤ i := List.getElem?_eq_none_iff.mp e
  exact List.getElem?_eq_none_iff.mpr (by omega)

def RelO : Option V → Option Value → Prop
  | some v, some u => RelV v u
  | none, none => True
  | _, _ => False
def KV {κ : Type} : List (κ × V) → List (κ × Value) → Prop := Paired fun (p : κ × V) (q : κ × Value) => p.1 = q.1 ∧ RelV p.2 q.2

/-- a key of a dict (00_mix): an int or a text -/
def kV : Key → V
  | .inl i => .int i
  | .inr x => .str x

/-- what stands at a tracked address -/
inductive HO where
  /-- a list -/
  | lst (xs : List V)
  /-- a tuple (never changes) -/
  | tup (xs : List V)
  /-- a dict whose keys are ints and texts; one whose keys are tuples of ints and texts (the empty one is both) -/
  | dK (kvs : List (Key × V)) | dT (kvs : List (List Key × V))
  /-- a set of ints: its members, its size -/
  | set (S : Int → Bool) (n : Nat)
  /-- an instance of the class at C, its dict at dx, its attributes -/
  | ins (C dx : Addr) (fs : List (Str × V))
  /-- the dict of the instance at x -/
  | own (x : Addr)
  /-- the dict of an exception -/
  | xd (fs : List (Str × V))
  /-- a bound method, f of x -/
  | met (f x : Addr)
  /-- a range object lo, lo + 1, .. below hi -/
  | rng (lo hi : Int)
  /-- a thing that is known to the object (the script; a dict while a loop walks it): read, never written while it is so -/
  | frz (o : Obj) (u : HO)
  /-- a code object's table -/
  | tbl (ps : Array Value)
  /-- any other thing, by what is true of its one object (a def of one's own: SetO a S n := HO.ext fun h => ..) -/
  | ext (φ : Heap → Prop)

abbrev Hp := Addr → Option HO
def upd (H : Hp) (a : Addr) (o : HO) : Hp := fun b => if b = a then some o else H b
theorem upd_same {H : Hp} {a : Addr} {o : HO} : upd H a o a = some o := by unfold upd; rw [if_pos rfl]
theorem upd_ne {H : Hp} {a b : Addr} {o : HO} (h : b ≠ a) : upd H a o b = H b := by unfold upd; rw [if_neg h]
theorem upd_upd {H : Hp} {a : Addr} {o u : HO} : upd (upd H a o) a u = upd H a u := by
  funext b; unfold upd; split <;> rfl
/-- two objects of different content stand apart -/
theorem ne_of {H : Hp} {a b : Addr} {o u : HO} (h : H a = some o) (h' : H b = some u) (d : o ≠ u) : a ≠ b := by
  intro e; subst e; rw [h] at h'; exact d (Option.some.inj h')
theorem ne_of_none {H : Hp} {a b : Addr} {o : HO} (h : H a = some o) (h' : H b = none) : a ≠ b := by
  intro e; subst e; rw [h] at h'; cases h'

section
variable (P : Program) (w : World)
def ObjOk (H : Hp) (h : Heap) (a : Addr) : HO → Prop
  | .lst xs => xs.length ≤ sizeLine ∧ ∃ (its : List Value) (n : Nat), Vals xs its ∧ h.get? a = some { cls := .type "list", data := .seq its.toArray n }
  | .tup xs => xs.length ≤ sizeLine ∧ ∃ its : List Value, Vals xs its ∧ IsTup h a its.toArray
  | .dK kvs => kvs.length ≤ sizeLine ∧ (a == sysModules) = false ∧ ∃ vs, KV kvs vs ∧ h.DictOf (mixKind P w) a vs
  | .dT kvs => kvs.length ≤ sizeLine ∧ (a == sysModules) = false ∧ ∃ xs : List (List Key × Addr × Value),
      Paired (fun (p : List Key × V) (q : List Key × Addr × Value) => p.1 = q.1 ∧ H q.2.1 = some (.tup (p.1.map kV)) ∧ RelV p.2 q.2.2) kvs xs ∧
      ∃ o es ep, h.get? a = some o ∧ o.ExactDict ∧ o.data = .dict es ep ∧ es.toList = xs.map (entryOfKey (tupleKind (mixKind P w))) ∧ (xs.map (·.1)).Nodup
  | .set S n => h.SetOf (intKind P w) a S n
  | .ins C dx fs => H dx = some (.own a) ∧ fs.length ≤ 1000 ∧ dx ≠ a ∧ h.get? a = some (PySem.W.instObj C dx) ∧
      ∃ mA, h.Ns1 dx mA ∧ (∀ f, RelO (fs.lookup f) (mA f)) ∧ PySem.Within mA (fs.map (·.1))
  | .own _ => ∃ o, h.get? a = some o
  | .xd fs => ∃ mA, h.Ns1 a mA ∧ ∀ f, RelO (fs.lookup f) (mA f)
  | .rng lo hi => ∃ t u v, h.get? a = some { cls := .type "range", data := .fields #[.int lo t, .int hi u, .int 1 v] }
  | .frz o u => h.get? a = some o ∧ ObjOk H h a u
  | .tbl ps => h.get? a = some { cls := .none, data := .fields ps }
  | .met f x => h.get? a = some (PySem.W.methodObj (.ref f) (.ref x))
  | .ext φ => φ h ∧ (∃ o, h.get? a = some o) ∧ ∀ h1 h2 : Heap, φ h1 → (∀ o, h1.get? a = some o → h2.get? a = some o) → φ h2
/-- the abstract heap is held -/
def HOk (H : Hp) (h : Heap) : Prop := ∀ a o, H a = some o → ObjOk P w H h a o
end

section
variable {P : Program} {w : World} {H H' : Hp} {h h' : Heap} {a : Addr} {o : HO}
theorem ObjOk.lt (x : ObjOk P w H h a o) : a < h.objs.size := by
  cases o with
  | lst xs => obtain ⟨_, _, _, _, e⟩ := x; exact Heap.lt_size e
  | tup xs => obtain ⟨_, _, _, p⟩ := x; exact p.lt
  | dK kvs => obtain ⟨_, _, _, _, o, _, _, e, _⟩ := x; exact Heap.lt_size e
  | dT kvs => obtain ⟨_, _, _, _, o, _, _, e, _⟩ := x; exact Heap.lt_size e
  | set S n => obtain ⟨o, _, _, _, e, _⟩ := x; exact Heap.lt_size e
  | ins C dx fs => obtain ⟨_, _, _, e, _⟩ := x; exact Heap.lt_size e
  | own y => obtain ⟨_, e⟩ := x; exact Heap.lt_size e
  | xd fs => obtain ⟨_, ⟨_, _, _, e, _⟩, _⟩ := x; exact Heap.lt_size e
  | rng lo hi => obtain ⟨_, _, _, e⟩ := x; exact Heap.lt_size e
  | frz ob u => obtain ⟨e, _⟩ := x; exact Heap.lt_size e
  | tbl ps => exact Heap.lt_size (show h.get? a = some _ from x)
  | met f y => exact Heap.lt_size (show h.get? a = some _ from x)
  | ext φ => obtain ⟨_, ⟨_, e⟩, _⟩ := x; exact Heap.lt_size e
theorem Paired.mapP {α β : Type} {F G : α → β → Prop} : ∀ {l₁ : List α} {l₂ : List β}, Paired F l₁ l₂ → (∀ a b, F a b → G a b) → Paired G l₁ l₂
  | _, _, .nil, _ => .nil
  | _, _, .cons r t, f => .cons (f _ _ r) (Paired.mapP t f)
theorem Paired.imp' {α β : Type} {F G : α → β → Prop} (f : ∀ a b, F a b → G a b) {l₁ : List α} {l₂ : List β} (r : Paired F l₁ l₂) : Paired G l₁ l₂ := Paired.mapP r f
/-- what an object's description leans on: its own object, its own dict, the tuples -/
theorem ObjOk.stay (x : ObjOk P w H h a o) (k : ∀ b u, (b = a ∨ H b = some (.own a)) → h.get? b = some u → h'.get? b = some u)
    (ho : ∀ b, H b = some (.own a) → H' b = some (.own a)) (ht : ∀ b xs, H b = some (.tup xs) → H' b = some (.tup xs)) : ObjOk P w H' h' a o := by
  induction o with
  | lst xs => obtain ⟨z, its, n, r, e⟩ := x; exact ⟨z, its, n, r, k _ _ (.inl rfl) e⟩
  | tup xs => obtain ⟨z, its, r, ob, e, c⟩ := x; exact ⟨z, its, r, ob, k _ _ (.inl rfl) e, c⟩
  | dK kvs => obtain ⟨z, y, vs, r, ob, es, ep, e, c⟩ := x; exact ⟨z, y, vs, r, ob, es, ep, k _ _ (.inl rfl) e, c⟩
  | dT kvs =>
    obtain ⟨z, y, xs, r, ob, es, ep, e, c⟩ := x
    exact ⟨z, y, xs, Paired.mapP r fun p q z => ⟨z.1, ht _ _ z.2.1, z.2.2⟩, ob, es, ep, k _ _ (.inl rfl) e, c⟩
  | set S n => obtain ⟨ob, es, ep, t, e, c⟩ := x; exact ⟨ob, es, ep, t, k _ _ (.inl rfl) e, c⟩
  | ins C dx fs =>
    obtain ⟨d, z, ne, e, mA, ⟨od, es, ep, e2, c⟩, r⟩ := x
    exact ⟨ho _ d, z, ne, k _ _ (.inl rfl) e, mA, ⟨od, es, ep, k _ _ (.inr d) e2, c⟩, r⟩
  | own y => obtain ⟨ob, e⟩ := x; exact ⟨ob, k _ _ (.inl rfl) e⟩
  | xd fs => obtain ⟨mA, ⟨od, es, ep, e, c⟩, r⟩ := x; exact ⟨mA, ⟨od, es, ep, k _ _ (.inl rfl) e, c⟩, r⟩
  | rng lo hi => obtain ⟨t, u, v, e⟩ := x; exact ⟨t, u, v, k _ _ (.inl rfl) e⟩
  | frz ob u ih => obtain ⟨e, q⟩ := x; exact ⟨k _ _ (.inl rfl) e, ih q⟩
  | tbl ps =>
    have e : h.get? a = some { cls := .none, data := .fields ps } := x
    show h'.get? a = some { cls := .none, data := .fields ps }
    exact k a _ (.inl rfl) e
  | met f y =>
    have e : h.get? a = some (PySem.W.methodObj (.ref f) (.ref y)) := x
    show h'.get? a = some (PySem.W.methodObj (.ref f) (.ref y))
    exact k a _ (.inl rfl) e
  | ext φ => obtain ⟨p, ⟨o, e⟩, st⟩ := x; exact ⟨st _ _ p fun o q => k _ _ (.inl rfl) q, ⟨o, k _ _ (.inl rfl) e⟩, st⟩
theorem HOk.lt (x : HOk P w H h) (e : H a = some o) : a < h.objs.size := (x a o e).lt
theorem HOk.fresh (x : HOk P w H h) (e : h.objs.size ≤ a) : H a = none := by
  cases q : H a with
  | none => rfl
  | some u => exact absurd (Nat.lt_of_lt_of_le (x.lt q) e) (Nat.lt_irrefl _)
/-- every object of the heap is kept -/
theorem HOk.kept (x : HOk P w H h) (k : ∀ b u, h.get? b = some u → h'.get? b = some u) : HOk P w H h' := fun a o e =>
  (x a o e).stay (fun b u _ q => k b u q) (fun _ q => q) fun _ _ q => q
/-- a new object is laid and tracked -/
theorem HOk.laid (x : HOk P w H h) (k : ∀ b u, h.get? b = some u → h'.get? b = some u) (hp : h.objs.size ≤ a) (new : ObjOk P w (upd H a o) h' a o) : HOk P w (upd H a o) h' := fun b u e => by
  have hn := x.fresh hp
  by_cases hb : b = a
  · subst hb; rw [upd_same] at e; cases e; exact new
  · rw [upd_ne hb] at e
    exact (x b u e).stay (fun c v _ q => k c v q) (fun c q => by rw [upd_ne (ne_of_none q hn)]; exact q) fun c xs q => by rw [upd_ne (ne_of_none q hn)]; exact q
end

/-- what may be read as u: it is u, or a known u -/
def Rd (H : Hp) (a : Addr) (u : HO) : Prop := H a = some u ∨ ∃ o, H a = some (.frz o u)
theorem Rd.of {H : Hp} {a : Addr} {u : HO} (h : H a = some u) : Rd H a u := .inl h
theorem Rd.ok {P : Program} {w : World} {H : Hp} {h : Heap} {a : Addr} {u : HO} (r : Rd H a u) (x : HOk P w H h) : ObjOk P w H h a u := by
  rcases r with r | ⟨o, r⟩
  · exact x a u r
  · obtain ⟨_, q⟩ := x a _ r
    exact q
/-- what may be written -/
def Mut : Option HO → Prop
  | some (.lst _) => True
  | some (.dK _) => True
  | some (.dT _) => True
  | some (.set _ _) => True
  | some (.ins _ _ _) => True
  | some (.ext _) => True
  | _ => False
section
variable {P : Program} {w : World} {H : Hp} {h h' : Heap} {x e : Addr} {o' : HO}
/-- the object at e is changed: x itself, or the dict of the instance x -/
theorem HOk.write (ok : HOk P w H h) (mu : Mut (H x)) (he : e = x ∨ H e = some (.own x)) (k : ∀ b u, b ≠ e → h.get? b = some u → h'.get? b = some u) (heo : ∃ u, h'.get? e = some u)
    (new : ObjOk P w (upd H x o') h' x o') : HOk P w (upd H x o') h' := fun b u q => by
  have nown : ∀ c y, H c = some (.own y) → c ≠ x := fun c y r z => by subst z; rw [r] at mu; exact mu
  have ntup : ∀ c xs, H c = some (.tup xs) → c ≠ x := fun c xs r z => by subst z; rw [r] at mu; exact mu
  by_cases hb : b = x
  · subst hb; rw [upd_same] at q; cases q; exact new
  · rw [upd_ne hb] at q
    by_cases hbe : b = e
    · have q' : H b = some (.own x) := by
        rcases he with z | z
        · exact absurd (hbe.trans z) hb
        · rw [hbe]; exact z
      rw [q] at q'; cases q'
      obtain ⟨v, hv⟩ := heo
      exact ⟨v, by rw [hbe]; exact hv⟩
    · refine (ok b u q).stay (fun c v hc r => k c v ?_ r) (fun c r => by rw [upd_ne (nown c b r)]; exact r) fun c xs r => by rw [upd_ne (ntup c xs r)]; exact r
      rcases hc with rfl | hc
      · exact hbe
      · rintro rfl
        rcases he with z | z
        · exact nown c b hc z
        · rw [hc] at z; cases z; exact hb rfl
end

/-! ### kept unless tracked; of the frames at fs (the callers') the slots may change (an exception that passes writes there); of the records at ex (iterators) nothing is said -/
structure Un (fs ex : List Addr) (H H' : Hp) (h h' : Heap) : Prop where
  keep : ∀ b o, h.get? b = some o → H b = none → b ∉ fs → b ∉ ex → h'.get? b = some o
  slot : ∀ b o, h.get? b = some o → H b = none → b ∈ fs → b ∉ ex → ∃ sl, h'.get? b = some { o with slots := sl }
  free : ∀ b o, h.get? b = some o → H b = none → b ∉ ex → H' b = none
  there : ∀ b o, h.get? b = some o → b ∉ ex → ∃ o', h'.get? b = some o'
  tups : ∀ b xs, H b = some (.tup xs) → H' b = some (.tup xs)
  frzs : ∀ b o u, H b = some (.frz o u) → H' b = some (.frz o u)
  tbls : ∀ b ps, H b = some (.tbl ps) → ∃ more, H' b = some (.tbl (ps ++ more))
section
variable {fs fs' ex ex' : List Addr} {H H1 H2 : Hp} {h h1 h2 h' : Heap} {a x e : Addr} {o : HO}
theorem Un.any (u : Un fs ex H H1 h h1) {b : Addr} {ob : Obj} (q : h.get? b = some ob) (n : H b = none) (hx : b ∉ ex) : ∃ sl, h1.get? b = some { ob with slots := sl } := by
  by_cases hb : b ∈ fs
  · exact u.slot b ob q n hb hx
  · exact ⟨ob.slots, u.keep b ob q n hb hx⟩
theorem Un.trans (a : Un fs ex H H1 h h1) (b : Un fs ex H1 H2 h1 h2) : Un fs ex H H2 h h2 where
  keep := fun c ob q n hc hx => b.keep c ob (a.keep c ob q n hc hx) (a.free c ob q n hx) hc hx
  slot := fun c ob q n hc hx => by
    obtain ⟨sl, e1⟩ := a.slot c ob q n hc hx
    obtain ⟨sl', e2⟩ := b.slot c _ e1 (a.free c ob q n hx) hc hx
    exact ⟨sl', e2⟩
  free := fun c ob q n hx => by
    obtain ⟨o', e1⟩ := a.there c ob q hx
    exact b.free c o' e1 (a.free c ob q n hx) hx
  there := fun c ob q hx => by
    obtain ⟨o', e1⟩ := a.there c ob q hx
    exact b.there c o' e1 hx
  tups := fun c xs q => b.tups c xs (a.tups c xs q)
  frzs := fun c ob xs q => b.frzs c ob xs (a.frzs c ob xs q)
  tbls := fun c ps q => by
    obtain ⟨m1, e1⟩ := a.tbls c ps q
    obtain ⟨m2, e2⟩ := b.tbls c _ e1
    exact ⟨m1 ++ m2, by rw [e2, Array.append_assoc]⟩
theorem Un.kept (k : ∀ b u, h.get? b = some u → h'.get? b = some u) : Un fs ex H H h h' :=
  ⟨fun b ob q _ _ _ => k b ob q, fun b ob q _ _ _ => ⟨ob.slots, k b ob q⟩, fun _ _ _ n _ => n, fun b ob q _ => ⟨ob, k b ob q⟩, fun _ _ q => q, fun _ _ _ q => q, fun _ ps q => ⟨#[], by rw [q]; simp⟩⟩
theorem Un.refl : Un fs ex H H h h := Un.kept fun _ _ q => q
theorem Un.laid (k : ∀ b u, h.get? b = some u → h'.get? b = some u) (hp : h.objs.size ≤ a) (hn : H a = none) : Un fs ex H (upd H a o) h h' where
  keep := fun b u q _ _ _ => k b u q
  slot := fun b u q _ _ _ => ⟨u.slots, k b u q⟩
  free := fun b u q n _ => by rw [upd_ne (Nat.ne_of_lt (Nat.lt_of_lt_of_le (Heap.lt_size q) hp))]; exact n
  there := fun b u q _ => ⟨u, k b u q⟩
  tups := fun b xs q => by rw [upd_ne (ne_of_none q hn)]; exact q
  frzs := fun b u xs q => by rw [upd_ne (ne_of_none q hn)]; exact q
  tbls := fun b ps q => ⟨#[], by rw [upd_ne (ne_of_none q hn), q]; simp⟩
theorem Un.write (mu : Mut (H x)) (he : e = x ∨ H e = some (.own x)) (k : ∀ b u, b ≠ e → h.get? b = some u → h'.get? b = some u) (heo : ∃ u, h'.get? e = some u) : Un fs ex H (upd H x o) h h' := by
  have hx : ∀ b, H b = none → b ≠ x := fun b n z => by subst z; rw [n] at mu; exact mu
  have hb : ∀ b, H b = none → b ≠ e := fun b n z => by
    subst z
    rcases he with r | r
    · exact hx b n r
    · rw [n] at r; cases r
  have hm : ∀ b u, H b = some u → ¬ Mut (some u) → b ≠ x := fun b u q nm z => by subst z; rw [q] at mu; exact nm mu
  refine ⟨fun b u q n _ _ => k b u (hb b n) q, fun b u q n _ _ => ⟨u.slots, k b u (hb b n) q⟩, fun b u q n _ => by rw [upd_ne (hx b n)]; exact n, fun b u q _ => ?_,
    fun b xs q => by rw [upd_ne (hm b _ q fun z => z)]; exact q, fun b u xs q => by rw [upd_ne (hm b _ q fun z => z)]; exact q, fun b ps q => ⟨#[], by rw [upd_ne (hm b _ q fun z => z), q]; simp⟩⟩
  by_cases hbe : b = e
  · subst hbe; exact heo
  · exact ⟨u, k b u hbe q⟩
theorem Un.mono (u : Un fs ex H H1 h h1) (hs : ∀ b ∈ fs, b ∈ fs') (hx : ∀ b ∈ ex, b ∈ ex') : Un fs' ex' H H1 h h1 :=
  ⟨fun b ob q n hb he => u.keep b ob q n (fun z => hb (hs b z)) fun z => he (hx b z), fun _ _ q n _ he => u.any q n fun z => he (hx _ z), fun b ob q n he => u.free b ob q n fun z => he (hx b z), fun b ob q he => u.there b ob q fun z => he (hx b z), u.tups, u.frzs, u.tbls⟩
end

/-! ### the heap without what is tracked -/
def trk (h : Heap) (H : Hp) : List Addr := (List.range h.objs.size).filter fun a => (H a).isSome
def hidT (h : Heap) (H : Hp) : Heap := PySem.W.hideAll h (trk h H)
theorem hidT_size (h : Heap) (H : Hp) : (hidT h H).objs.size = h.objs.size := PySem.W.hideAll_size _ _
theorem hidT_get {h : Heap} {H : Hp} {b : Addr} {o : Obj} (e : h.get? b = some o) (n : H b = none) : (hidT h H).get? b = some o :=
  PySem.W.hideAll_get _ e fun hm => by
    have q : (H b).isSome = true := (List.mem_filter.mp hm).2
    rw [n] at q; simp at q
theorem of_hidT {h : Heap} {H : Hp} {b : Addr} {o : Obj} (e : (hidT h H).get? b = some o) : h.get? b = some o ∧ H b = none := by
  have e' : h.get? b = some o := PySem.W.of_hideAll (trk h H) e
  refine ⟨e', ?_⟩
  cases q : H b with
  | none => rfl
  | some x =>
    have hm : b ∈ trk h H := List.mem_filter.mpr ⟨List.mem_range.mpr (Heap.lt_size e'), by simp [q]⟩
    have z : (hidT h H).get? b = none := PySem.W.hideAll_none (trk h H) hm
    rw [z] at e; cases e

/-! ### OpenK's ledger, filled with every new object but one -/
def allNews (g h : Heap) (L : Addr) : List (Addr × Obj) := (List.range h.objs.size).filterMap fun a => if a = L ∨ (g.get? a).isSome = true then none else (h.get? a).map fun o => (a, o)
theorem mem_allNews {g h : Heap} {L a : Addr} {o : Obj} (h1 : a ≠ L) (h2 : g.get? a = none) (h3 : h.get? a = some o) : (a, o) ∈ allNews g h L :=
  List.mem_filterMap.mpr ⟨a, List.mem_range.mpr (Heap.lt_size h3), by simp [h1, h2, h3]⟩
theorem of_mem_allNews {g h : Heap} {L : Addr} {p : Addr × Obj} (hp : p ∈ allNews g h L) : p.1 ≠ L ∧ g.get? p.1 = none ∧ h.get? p.1 = some p.2 := by
  obtain ⟨b, _, e⟩ := List.mem_filterMap.mp hp
  split at e
  · cases e
  · rename_i hn
    cases q : h.get? b with
    | none => rw [q] at e; simp at e
    | some u =>
      rw [q] at e
      simp only [Option.map_some, Option.some.injEq] at e
      subst e
      refine ⟨fun z => hn (.inl z), ?_, q⟩
      show g.get? b = none
      cases r : g.get? b with
      | none => rfl
      | some v => exact (hn (.inr (by simp [r]))).elim
def rest (g h : Heap) (L d : Addr) : List (Addr × Obj) := (allNews g h L).filter fun p => decide (p.1 ≠ d)
theorem rest_ne {g h : Heap} {L d : Addr} : ∀ p ∈ rest g h L d, p.1 ≠ d := fun p hp => of_decide_eq_true (List.mem_filter.mp hp).2
theorem mem_rest {g h : Heap} {L d a : Addr} {o : Obj} (h1 : a ≠ L) (h2 : g.get? a = none) (h3 : h.get? a = some o) (h4 : a ≠ d) : (a, o) ∈ rest g h L d :=
  List.mem_filter.mpr ⟨mem_allNews h1 h2 h3, decide_eq_true h4⟩
theorem news_all {g h : Heap} {L : Addr} : News g L h (allNews g h L) := fun p hp => let ⟨a, b, c⟩ := of_mem_allNews hp; ⟨c, a, b⟩
theorem news_at {g h : Heap} {L d : Addr} {o : Obj} (h1 : d ≠ L) (h2 : g.get? d = none) (h3 : h.get? d = some o) : News g L h ((d, o) :: rest g h L d) := fun p hp => by
  rcases List.mem_cons.mp hp with rfl | hp
  · exact ⟨h3, h1, h2⟩
  · exact news_all p (List.mem_filter.mp hp).1
/-- behind a rule that changed d alone: all else but the frame is kept -/
theorem kept_of_news {g h h' : Heap} {L d : Addr} {m : Str → Option Value} (k : ∀ b o, g.get? b = some o → h.get? b = some o) (F : Fr g L h' m) (N : News g L h' (rest g h L d)) :
    ∀ b o, b ≠ L → b ≠ d → h.get? b = some o → h'.get? b = some o := fun b o h1 h2 e => by
  cases q : g.get? b with
  | some u =>
    have := k b u q
    rw [e] at this; cases this
    exact F.keep b _ q
  | none => exact (N (b, o) (mem_rest h1 q e h2)).1
end L2

namespace L2
open PySem PySem.Spec PyProof.Rows

/-- the module's facts, over the base: the heap at the law's entry without what is tracked there -/
structure Mod (K : PySem.W.Frag) (mg : Str → Option Value) (base : Heap) : Prop where
  kin : K.In base
  glob : base.Ns mainGlobals mg
  blt : ∃ mb, base.Ns builtinsNs mb ∧ ∀ x : Str, x ≠ "__name__" → mb x = bootBuiltins x
  nolimit : base.NoLimit

/-- the context: a def's body (or a comprehension's block) running. base: fixed through the whole law; s₀, H₀: the entry; outer: the frames whose slots others may change (a def's callers); stack: all frames that run;
   ex: iterators that were made ahead of the entry and are walked here (a comprehension's); fn: the names whose cells were made at the entry (a def: all; a comprehension's block: its own); calm: not within an except suite; pn: pins that every state bears; xe: what is wanted of an exception that leaves the code -/
structure Cx where
  prog : Program
  w : World
  K : PySem.W.Frag
  mg : Str → Option Value
  base : Heap
  A : Around
  N : List Str
  s₀ : Shared
  H₀ : Hp
  env : Env
  outer : List Env
  stack : List Env
  ex : List Addr
  fn : Str → Bool
  calm : Bool
  pn : List (Addr × Obj)
  xe : Value → Shared → Prop
/-- the callers' frames -/
def frs (l : List Env) : List Addr := l.filterMap (·.frame)
abbrev Cx.fs (X : Cx) : List Addr := frs X.outer

def Vis (sc : Scope) (x : Str) : Prop := sc.names.lookup x = some .local ∨ sc.names.lookup x = some .cell ∨ sc.names.lookup x = some .free
def Loc (sc : Scope) (x : Str) : Prop := sc.names.lookup x = some .local ∨ sc.names.lookup x = some .cell
def Look (env : Env) (h : Heap) (m : Str → Option Value) (x : Str) (u : Value) : Prop :=
  (env.kindOf x = some .local ∧ m x = some u) ∨ ((env.kindOf x = some .cell ∨ env.kindOf x = some .free) ∧ ∃ c, env.cells.lookup x = some c ∧ h.IsCell c (some u))

structure Cx.Ok (X : Cx) : Prop where
  mod : Mod X.K X.mg X.base
  kind : X.env.scope.kind = .function
  glob : X.env.globals = mainGlobals
  blt : X.env.builtins = builtinsNs
  above : X.s₀.heap.objs.size ≤ X.env.locals
  inj : ∀ x y c, X.env.cells.lookup x = some c → X.env.cells.lookup y = some c → x = y
  has : ∀ x, (X.env.kindOf x = some .cell ∨ X.env.kindOf x = some .free) → ∃ c, X.env.cells.lookup x = some c
  cab : ∀ x c, X.fn x = true → X.env.cells.lookup x = some c → X.s₀.heap.objs.size ≤ c
  hd : X.calm = true → X.A.handled = none
  frames : X.A.frames = some X.stack
  stk : X.stack = X.outer ∨ (X.stack = X.env :: X.outer ∧ X.env.frame = some X.env.locals)
  exf : ∀ b ∈ X.ex, b ≠ X.env.locals ∧ ∀ x c, X.env.cells.lookup x = some c → c ≠ b
  bs : ∀ b o, X.base.get? b = some o → X.s₀.heap.get? b = some o ∧ X.H₀ b = none
  bsz : X.base.objs.size ≤ X.s₀.heap.objs.size
  noex : ∀ b o, X.base.get? b = some o → b ∉ X.ex
  exfs : ∀ b ∈ X.ex, b ∉ X.fs
  funs : X.s₀.heap.FunFrames X.base X.outer
  frf : ∀ b ∈ X.fs, X.H₀ b = none

structure Inv (X : Cx) (pins : List (Addr × Obj)) (σ : List (Option V)) (H : Hp) (s : Shared) : Prop where
  ok : X.Ok
  os : s.os = X.s₀.os
  bare : AllBare s.gens
  base : Un X.fs X.ex X.H₀ H X.s₀.heap s.heap
  loc : ∃ m, s.heap.Ns X.env.locals m ∧ ∀ (i : Nat) (x : Str) (v : V), X.N[i]? = some x → σ[i]? = some (some v) → Vis X.env.scope x → ∃ u, RelV v u ∧ Look X.env s.heap m x u
  cell : ∀ x c, X.env.cells.lookup x = some c → ∃ v, s.heap.IsCell c v
  free : H X.env.locals = none
  freeC : ∀ x c, X.env.cells.lookup x = some c → H c = none
  pin : ∀ p ∈ X.pn ++ pins, s.heap.get? p.1 = some p.2 ∧ H p.1 = none ∧ p.1 ≠ X.env.locals ∧ p.1 ∉ X.fs ∧ ∀ v, p.2.data ≠ .cell v
  hok : HOk X.prog X.w H s.heap
  len : σ.length = X.N.length

section
variable {X : Cx} {pins : List (Addr × Obj)} {σ : List (Option V)} {H H' : Hp} {s : Shared} {h' : Heap}

theorem Cx.Ok.nofr (ok : X.Ok) {b : Addr} {o : Obj} (e : X.base.get? b = some o) : b ∉ X.fs := fun hb => by
  have := (ok.funs.mem hb).1
  rw [e] at this; cases this
theorem Inv.bs (I : Inv X pins σ H s) : ∀ b o, X.base.get? b = some o → s.heap.get? b = some o ∧ H b = none := fun b o e =>
  ⟨I.base.keep b o (I.ok.bs b o e).1 (I.ok.bs b o e).2 (I.ok.nofr e) (I.ok.noex b o e), I.base.free b o (I.ok.bs b o e).1 (I.ok.bs b o e).2 (I.ok.noex b o e)⟩
theorem Inv.bk (I : Inv X pins σ H s) : ∀ b o, X.base.get? b = some o → s.heap.get? b = some o := fun b o e => (I.bs b o e).1
theorem Inv.mod (I : Inv X pins σ H s) : Mod X.K X.mg X.base := I.ok.mod
theorem Inv.kIn (I : Inv X pins σ H s) : X.K.In s.heap := I.ok.mod.kin.keeps I.bk
theorem Inv.nolimit (I : Inv X pins σ H s) : s.heap.NoLimit := I.ok.mod.nolimit.keeps I.bk
/-- the frame over the base: for OpenK's rules (K.In X.base is I.mod.kin) -/
theorem Inv.fr (I : Inv X pins σ H s) : ∃ m, Fr X.base X.env.locals s.heap m :=
  let ⟨m, hn, _⟩ := I.loc
  ⟨m, hn, I.bk, Nat.le_trans I.ok.bsz I.ok.above⟩
theorem Inv.lt (I : Inv X pins σ H s) : X.env.locals < s.heap.objs.size := let ⟨_, hn, _⟩ := I.loc; hn.lt
theorem Inv.sz (I : Inv X pins σ H s) : X.s₀.heap.objs.size ≤ s.heap.objs.size := Nat.le_trans I.ok.above (Nat.le_of_lt I.lt)
theorem Inv.nofs (I : Inv X pins σ H s) {a : Addr} (h : s.heap.objs.size ≤ a) : a ∉ X.fs := fun hb => by
  obtain ⟨_, o, ho, _⟩ := I.ok.funs.mem hb
  exact absurd (Nat.lt_of_lt_of_le (Heap.lt_size ho) (Nat.le_trans I.sz h)) (Nat.lt_irrefl _)
theorem Inv.cne (I : Inv X pins σ H s) : ∀ x c, X.env.cells.lookup x = some c → c ≠ X.env.locals := fun x c e z => by
  obtain ⟨v, o, ho, hd⟩ := I.cell x c e
  obtain ⟨m, ⟨o', es, ep, ho', hd', _⟩, _⟩ := I.loc
  rw [z, ho'] at ho; cases ho; rw [hd'] at hd; cases hd
theorem Inv.funs (I : Inv X pins σ H s) : s.heap.FunFrames X.base X.outer := by
  have all : ∀ (l : List Env), (∀ b ∈ frs l, b ∈ X.fs) → X.s₀.heap.FunFrames X.base l → s.heap.FunFrames X.base l := by
    intro l
    induction l with
    | nil => intro _ _; trivial
    | cons env r ih =>
      intro hs hl
      obtain ⟨hk, ⟨L, o, hf, hn, ho, hd⟩, hr⟩ := hl
      have hL : L ∈ X.fs := hs L (by unfold frs; rw [List.filterMap_cons, hf]; exact List.mem_cons_self)
      obtain ⟨sl, e⟩ := I.base.slot L o ho (I.ok.frf L hL) hL fun z => I.ok.exfs L z hL
      exact ⟨hk, ⟨L, _, hf, hn, e, hd⟩, ih (fun b hb => hs b (by unfold frs; rw [List.filterMap_cons, hf]; exact List.mem_cons_of_mem _ hb)) hr⟩
  exact all X.outer (fun _ hb => hb) I.ok.funs

/-- the frames that run, for a call -/
theorem Inv.stack (I : Inv X pins σ H s) : s.heap.FunFrames X.base X.stack := by
  rcases I.ok.stk with e | ⟨e, hf⟩
  · rw [e]; exact I.funs
  · rw [e]
    obtain ⟨m, hn, _⟩ := I.loc
    refine .cons (by rw [I.ok.kind]; decide) hf hn ?_ I.funs
    exact Heap.get?_none_of_le (Nat.le_trans I.ok.bsz I.ok.above)
theorem Inv.stkSub (I : Inv X pins σ H s) : ∀ b ∈ frs X.stack, b ∈ X.env.locals :: X.fs := fun b hb => by
  rcases I.ok.stk with e | ⟨e, hf⟩
  · rw [e] at hb; exact List.mem_cons_of_mem _ hb
  · rw [e] at hb
    unfold frs at hb
    rw [List.filterMap_cons, hf] at hb
    exact hb
theorem Inv.stkFree (I : Inv X pins σ H s) : ∀ b ∈ frs X.stack, H b = none := fun b hb => by
  rcases List.mem_cons.mp (I.stkSub b hb) with e | hb
  · rw [e]; exact I.free
  · obtain ⟨_, o, ho, _⟩ := I.ok.funs.mem hb
    exact I.base.free b o ho (I.ok.frf b hb) fun z => I.ok.exfs b z hb

/-- THE STEP: the untracked objects but the frame and the records at ch are kept (the callers' frames up to slots), the frame's map is kept, the new abstract heap is held -/
theorem Inv.step {g' : Array GenState} {t' : Nat} {d' : Drawn} {ch : List Addr} (I : Inv X pins σ H s)
    (hch : ∀ b ∈ ch, (b ∈ X.ex ∨ X.s₀.heap.objs.size ≤ b) ∧ b ≠ X.env.locals ∧ (∀ x c, X.env.cells.lookup x = some c → c ≠ b) ∧ ∀ p ∈ X.pn ++ pins, p.1 ≠ b)
    (keep : ∀ b o, b ≠ X.env.locals → b ∉ X.fs → b ∉ ch → s.heap.get? b = some o → H b = none → h'.get? b = some o)
    (slot : ∀ b o, b ≠ X.env.locals → b ∈ X.fs → b ∉ ch → s.heap.get? b = some o → H b = none → ∃ sl, h'.get? b = some { o with slots := sl }) (free : ∀ b o, b ∉ ch → s.heap.get? b = some o → H b = none → H' b = none)
    (there : ∀ b o, b ∉ ch → s.heap.get? b = some o → ∃ o', h'.get? b = some o')
    (tups : ∀ b xs, H b = some (.tup xs) → H' b = some (.tup xs)) (frzs : ∀ b o u, H b = some (.frz o u) → H' b = some (.frz o u)) (tbls : ∀ b ps, H b = some (.tbl ps) → ∃ more, H' b = some (.tbl (ps ++ more)))
    (ns : ∀ m, s.heap.Ns X.env.locals m → h'.Ns X.env.locals m) (hok : HOk X.prog X.w H' h') (hg : AllBare g') :
    Inv X pins σ H' { s with heap := h', gens := g', drawn := d', toks := t' } := by
  have neL : ∀ b o, X.s₀.heap.get? b = some o → b ≠ X.env.locals := fun b o e => Nat.ne_of_lt (Nat.lt_of_lt_of_le (Heap.lt_size e) I.ok.above)
  have neC : ∀ b o, X.s₀.heap.get? b = some o → b ∉ X.ex → b ∉ ch := fun b o e hx hb => by
    rcases (hch b hb).1 with z | z
    · exact hx z
    · exact absurd (Nat.lt_of_lt_of_le (Heap.lt_size e) z) (Nat.lt_irrefl _)
  have cellK : ∀ x c, X.env.cells.lookup x = some c → ∀ v, s.heap.IsCell c v → h'.IsCell c v := fun x c e v ⟨o, ho, hd⟩ => by
    have nch : c ∉ ch := fun z => (hch c z).2.2.1 x c e rfl
    by_cases hc : c ∈ X.fs
    · obtain ⟨sl, q⟩ := slot c o (I.cne x c e) hc nch ho (I.freeC x c e)
      exact ⟨_, q, hd⟩
    · exact ⟨o, keep c o (I.cne x c e) hc nch ho (I.freeC x c e), hd⟩
  refine ⟨I.ok, I.os, hg, ⟨fun b o e n hb hx => ?_, fun b o e n hb hx => ?_, fun b o e n hx => ?_, fun b o e hx => ?_, fun b xs e => tups b xs (I.base.tups b xs e), fun b o xs e => frzs b o xs (I.base.frzs b o xs e), fun b ps e => ?_⟩, ?_, fun x c e => ?_, ?_, fun x c e => ?_, fun p hp => ?_, hok, I.len⟩
  · exact keep b o (neL b o e) hb (neC b o e hx) (I.base.keep b o e n hb hx) (I.base.free b o e n hx)
  · obtain ⟨sl, e1⟩ := I.base.slot b o e n hb hx
    obtain ⟨sl', e2⟩ := slot b _ (neL b o e) hb (neC b o e hx) e1 (I.base.free b o e n hx)
    exact ⟨sl', e2⟩
  · obtain ⟨o', e1⟩ := I.base.there b o e hx
    exact free b o' (neC b o e hx) e1 (I.base.free b o e n hx)
  · obtain ⟨o', e1⟩ := I.base.there b o e hx
    exact there b o' (neC b o e hx) e1
  · obtain ⟨m1, e1⟩ := I.base.tbls b ps e
    obtain ⟨m2, e2⟩ := tbls b _ e1
    exact ⟨m1 ++ m2, by rw [e2, Array.append_assoc]⟩
  · obtain ⟨m, hn, hl⟩ := I.loc
    refine ⟨m, ns m hn, fun i x v e1 e2 e3 => ?_⟩
    obtain ⟨u, r, l⟩ := hl i x v e1 e2 e3
    refine ⟨u, r, ?_⟩
    rcases l with l | ⟨k, c, e, z⟩
    · exact .inl l
    · exact .inr ⟨k, c, e, cellK x c e _ z⟩
  · obtain ⟨v, z⟩ := I.cell x c e
    exact ⟨v, cellK x c e v z⟩
  · obtain ⟨m, ⟨o, _, _, ho, _⟩, _⟩ := I.loc
    exact free _ o (fun z => (hch _ z).2.1 rfl) ho I.free
  · obtain ⟨v, o, ho, hd⟩ := I.cell x c e
    exact free c o (fun z => (hch c z).2.2.1 x c e rfl) ho (I.freeC x c e)
  · obtain ⟨e, n, ne, nf, d⟩ := I.pin p hp
    have nch : p.1 ∉ ch := fun z => (hch p.1 z).2.2.2 p hp rfl
    exact ⟨keep p.1 p.2 ne nf nch e n, free p.1 p.2 nch e n, ne, nf, d⟩
/-- .. where the frame's own object is kept too -/
theorem Inv.un {t' : Nat} (I : Inv X pins σ H s) (u : Un X.fs [] H H' s.heap h') (hok : HOk X.prog X.w H' h') : Inv X pins σ H' { s with heap := h', toks := t' } := by
  obtain ⟨m, ⟨o, es, ep, ho, r⟩, _⟩ := id I.loc
  obtain ⟨sl, hL⟩ := u.any ho I.free (by simp)
  exact I.step (g' := s.gens) (d' := s.drawn) (ch := []) (fun _ z => nomatch z) (fun b o _ hb _ e n => u.keep b o e n hb (by simp)) (fun b o _ hb _ e n => u.slot b o e n hb (by simp)) (fun b o _ e n => u.free b o e n (by simp)) (fun b o _ e => u.there b o e (by simp)) u.tups u.frzs u.tbls (fun m' hm => by
    obtain ⟨o', es', ep', ho', r'⟩ := hm
    rw [ho] at ho'; cases ho'
    exact ⟨_, es', ep', hL, r'⟩) hok I.bare
/-- behind a call (or a comprehension's block): the slots of this frame may have changed too, the records at ch may have turned -/
theorem Inv.call {g' : Array GenState} {t' : Nat} {d' : Drawn} {ch : List Addr} (I : Inv X pins σ H s) (u : Un (frs X.stack) ch H H' s.heap h') (hok : HOk X.prog X.w H' h') (hg : AllBare g')
    (hch : ∀ b ∈ ch, (b ∈ X.ex ∨ X.s₀.heap.objs.size ≤ b) ∧ b ≠ X.env.locals ∧ (∀ x c, X.env.cells.lookup x = some c → c ≠ b) ∧ ∀ p ∈ X.pn ++ pins, p.1 ≠ b) :
    Inv X pins σ H' { s with heap := h', gens := g', drawn := d', toks := t' } := by
  obtain ⟨m, ⟨o, es, ep, ho, r⟩, _⟩ := id I.loc
  obtain ⟨sl, hL⟩ := u.any ho I.free fun z => (hch _ z).2.1 rfl
  exact I.step (ch := ch) hch (fun b o hL hb hc e n => u.keep b o e n (fun z => (List.mem_cons.mp (I.stkSub b z)).elim hL hb) hc) (fun b o _ _ hc e n => u.any e n hc) (fun b o hc e n => u.free b o e n hc) (fun b o hc e => u.there b o e hc) u.tups u.frzs u.tbls (fun m' hm => by
    obtain ⟨o', es', ep', ho', r'⟩ := hm
    rw [ho] at ho'; cases ho'
    exact ⟨_, es', ep', hL, r'⟩) hok hg
/-- an untracked record of ours (an iterator) has turned -/
theorem Inv.turned {t' : Nat} {it : Addr} (I : Inv X pins σ H s) (k : ∀ b o, b ≠ it → s.heap.get? b = some o → h'.get? b = some o) (hn : H it = none) (hL : it ≠ X.env.locals)
    (h1 : it ∈ X.ex ∨ X.s₀.heap.objs.size ≤ it) (h2 : ∀ x c, X.env.cells.lookup x = some c → c ≠ it) (h3 : ∀ p ∈ X.pn ++ pins, p.1 ≠ it) : Inv X pins σ H { s with heap := h', toks := t' } := by
  have nit : ∀ b u, H b = some u → b ≠ it := fun b u e z => by rw [z, hn] at e; cases e
  refine I.step (g' := s.gens) (d' := s.drawn) (ch := [it]) (fun b hb => ?_) (fun b o _ _ hc e _ => k b o (fun z => hc (by simp [z])) e) (fun b o _ _ hc e _ => ⟨o.slots, k b o (fun z => hc (by simp [z])) e⟩) (fun _ _ _ _ n => n)
    (fun b o hc e => ⟨o, k b o (fun z => hc (by simp [z])) e⟩) (fun _ _ e => e) (fun _ _ _ e => e) (fun b ps e => ⟨#[], by rw [e]; simp⟩) (fun m hm => ?_) (fun b u e => ?_) I.bare
  · have e : b = it := by simpa using hb
    subst e
    exact ⟨h1, hL, h2, h3⟩
  · obtain ⟨o, es, ep, ho, r⟩ := hm
    exact ⟨o, es, ep, k _ o (Ne.symm hL) ho, r⟩
  · refine (I.hok b u e).stay (fun c v hc q => k c v ?_ q) (fun _ q => q) fun _ _ q => q
    rcases hc with z | z
    · rw [z]; exact nit b u e
    · exact nit c _ z
theorem Inv.tok (I : Inv X pins σ H s) (t : Nat) : Inv X pins σ H { s with toks := t } := I.un (h' := s.heap) (t' := t) Un.refl I.hok
/-- all objects kept -/
theorem Inv.kept {t' : Nat} (I : Inv X pins σ H s) (k : ∀ b u, s.heap.get? b = some u → h'.get? b = some u) : Inv X pins σ H { s with heap := h', toks := t' } := I.un (Un.kept k) (I.hok.kept k)
/-- a new object laid and tracked -/
theorem Inv.laid {a : Addr} {o : HO} {t' : Nat} (I : Inv X pins σ H s) (k : ∀ b u, s.heap.get? b = some u → h'.get? b = some u) (hp : s.heap.objs.size ≤ a) (new : ObjOk X.prog X.w (upd H a o) h' a o) :
    Inv X pins σ (upd H a o) { s with heap := h', toks := t' } := I.un (Un.laid k hp (I.hok.fresh hp)) (I.hok.laid k hp new)
/-- an object written -/
theorem Inv.write {x e : Addr} {o : HO} {t' : Nat} (I : Inv X pins σ H s) (mu : Mut (H x)) (he : e = x ∨ H e = some (.own x)) (k : ∀ b u, b ≠ e → s.heap.get? b = some u → h'.get? b = some u) (heo : ∃ u, h'.get? e = some u)
    (new : ObjOk X.prog X.w (upd H x o) h' x o) : Inv X pins σ (upd H x o) { s with heap := h', toks := t' } := I.un (Un.write mu he k heo) (I.hok.write mu he k heo new)
/-- forgetting slots, pins -/
theorem Inv.weak {σ' : List (Option V)} (I : Inv X pins σ H s) (hl : σ'.length = σ.length) (w : ∀ (i : Nat) v, σ'[i]? = some (some v) → σ[i]? = some (some v)) : Inv X pins σ' H s :=
  ⟨I.ok, I.os, I.bare, I.base, let ⟨m, hn, hl'⟩ := I.loc; ⟨m, hn, fun i x v e1 e2 e3 => hl' i x v e1 (w i v e2) e3⟩, I.cell, I.free, I.freeC, I.pin, I.hok, hl.trans I.len⟩
theorem Inv.pins_of {pins' : List (Addr × Obj)} (I : Inv X pins σ H s) (h : ∀ p ∈ pins', s.heap.get? p.1 = some p.2 ∧ H p.1 = none ∧ p.1 ≠ X.env.locals ∧ p.1 ∉ X.fs ∧ ∀ v, p.2.data ≠ .cell v) : Inv X pins' σ H s :=
  ⟨I.ok, I.os, I.bare, I.base, I.loc, I.cell, I.free, I.freeC, fun p hp => (List.mem_append.mp hp).elim (fun z => I.pin p (List.mem_append_left _ z)) (h p), I.hok, I.len⟩

theorem nodup_ix {N : List Str} (hN : N.Nodup) {i j : Nat} {x : Str} (a : N[i]? = some x) (b : N[j]? = some x) : i = j := by
  obtain ⟨h1, e1⟩ := List.getElem?_eq_some_iff.mp a
  obtain ⟨h2, e2⟩ := List.getElem?_eq_some_iff.mp b
  exact (List.getElem_inj hN).mp (e1.trans e2.symm)

/-- a name is stored; what changed -/
theorem store_ok2 {M : Model} {A : Around} {E : Value → Shared → Prop} {i : Nat} {x : Str} {v : V} {u : Value} {Q : Unit → Shared → Prop} (I : Inv X pins σ H s) (hN : X.N.Nodup) (hi : X.N[i]? = some x) (hx : Loc X.env.scope x) (r : RelV v u)
    (h : ∀ s', Inv X pins (σ.set i (some v)) H s' → (∃ a, Heap.SameBut a s.heap s'.heap ∧ (a = X.env.locals ∨ X.env.cells.lookup x = some a)) → Q () s') (hf : X.fn x = true ∨ X.env.scope.names.lookup x = some .local := by first | exact .inl rfl | exact .inr rfl | assumption) : wpAny M A (storeName X.env x u) Q E s := by
  obtain ⟨m, hn, hl⟩ := id I.loc
  have hcls : (X.env.scope.kind == .class || (X.env.scope.kind == .module && X.env.locals != X.env.globals)) = false := by rw [I.ok.kind]; rfl
  have hiσ : i < σ.length := by rw [I.len]; exact (List.getElem?_eq_some_iff.mp hi).1
  have cne := I.cne
  have tracked : ∀ {a : Addr} {h' : Heap}, (∃ o, s.heap.get? a = some o ∧ H a = none) → Heap.SameBut a s.heap h' → HOk X.prog X.w H h' := fun {a h'} ha hs b ob e => by
    obtain ⟨_, _, hfree⟩ := ha
    refine (I.hok b ob e).stay (fun c w' hc q => (hs.2 c ?_).trans q) (fun _ q => q) fun _ _ q => q
    rintro rfl
    rcases hc with rfl | hc
    · rw [hfree] at e; cases e
    · rw [hfree] at hc; cases hc
  rcases hx with hk | hk
  · refine wpAny_storeName_local hk hn (fun h' hn' hs => ?_) hcls
    obtain ⟨oL, _, _, hoL, _⟩ := id hn
    refine h _ ⟨I.ok, I.os, I.bare, ⟨fun b o e n hb hx => ?_, fun b o e n hb hx => ?_, I.base.free, fun b o e hx => ?_, I.base.tups, I.base.frzs, I.base.tbls⟩, ⟨_, hn', fun j y v' e1 e2 e3 => ?_⟩, fun y c e => ?_, I.free, I.freeC, fun p hp => ?_, tracked ⟨oL, hoL, I.free⟩ hs, by simpa using I.len⟩ ⟨_, hs, .inl rfl⟩
    · exact (hs.2 b (Nat.ne_of_lt (Nat.lt_of_lt_of_le (Heap.lt_size e) I.ok.above))).trans (I.base.keep b o e n hb hx)
    · obtain ⟨sl, e1⟩ := I.base.slot b o e n hb hx
      exact ⟨sl, (hs.2 b (Nat.ne_of_lt (Nat.lt_of_lt_of_le (Heap.lt_size e) I.ok.above))).trans e1⟩
    · obtain ⟨o', e1⟩ := I.base.there b o e hx
      exact ⟨o', (hs.2 b (Nat.ne_of_lt (Nat.lt_of_lt_of_le (Heap.lt_size e) I.ok.above))).trans e1⟩
    · by_cases hj : j = i
      · subst hj
        rw [hi] at e1; cases e1
        rw [List.getElem?_set_self hiσ] at e2
        cases e2
        exact ⟨u, r, .inl ⟨hk, by simp⟩⟩
      · rw [List.getElem?_set_ne (Ne.symm hj)] at e2
        obtain ⟨u', r', q⟩ := hl j y v' e1 e2 e3
        refine ⟨u', r', ?_⟩
        rcases q with ⟨k, e⟩ | ⟨k, c, e, z⟩
        · refine .inl ⟨k, ?_⟩
          have : y ≠ x := fun e => hj (nodup_ix hN e1 (e ▸ hi))
          simp [this, e]
        · exact .inr ⟨k, c, e, z.sameBut hs (cne y c e)⟩
    · obtain ⟨w', z⟩ := I.cell y c e
      exact ⟨w', z.sameBut hs (cne y c e)⟩
    · obtain ⟨e, n, ne, nf, d⟩ := I.pin p hp
      exact ⟨(hs.2 p.1 ne).trans e, n, ne, nf, d⟩
  · have hfn : X.fn x = true := by
      rcases hf with z | z
      · exact z
      · rw [z] at hk; cases hk
    obtain ⟨c, hc⟩ := I.ok.has x (.inl hk)
    obtain ⟨w', z⟩ := I.cell x c hc
    refine wpAny_storeName_cell I.ok.kind hk hc z (fun h' hc' hs => ?_)
    obtain ⟨oc, hoc, hocd⟩ := id z
    refine h { s with heap := h' } ⟨I.ok, I.os, I.bare, ⟨fun b o e n hb hx => ?_, fun b o e n hb hx => ?_, I.base.free, fun b o e hx => ?_, I.base.tups, I.base.frzs, I.base.tbls⟩, ⟨m, hn.sameBut hs (Ne.symm (cne x c hc)), fun j y v' e1 e2 e3 => ?_⟩, fun y c' e => ?_, I.free, I.freeC, fun p hp => ?_, tracked ⟨oc, hoc, I.freeC x c hc⟩ hs, by simpa using I.len⟩ ⟨c, hs, .inr hc⟩
    · exact (hs.2 b (Nat.ne_of_lt (Nat.lt_of_lt_of_le (Heap.lt_size e) (I.ok.cab x c hfn hc)))).trans (I.base.keep b o e n hb hx)
    · obtain ⟨sl, e1⟩ := I.base.slot b o e n hb hx
      exact ⟨sl, (hs.2 b (Nat.ne_of_lt (Nat.lt_of_lt_of_le (Heap.lt_size e) (I.ok.cab x c hfn hc)))).trans e1⟩
    · obtain ⟨o', e1⟩ := I.base.there b o e hx
      exact ⟨o', (hs.2 b (Nat.ne_of_lt (Nat.lt_of_lt_of_le (Heap.lt_size e) (I.ok.cab x c hfn hc)))).trans e1⟩
    · by_cases hj : j = i
      · subst hj
        rw [hi] at e1; cases e1
        rw [List.getElem?_set_self hiσ] at e2
        cases e2
        exact ⟨u, r, .inr ⟨.inl hk, c, hc, hc'⟩⟩
      · rw [List.getElem?_set_ne (Ne.symm hj)] at e2
        obtain ⟨u', r', q⟩ := hl j y v' e1 e2 e3
        refine ⟨u', r', ?_⟩
        rcases q with q | ⟨k, c', e, z'⟩
        · exact .inl q
        · refine .inr ⟨k, c', e, z'.sameBut hs ?_⟩
          rintro rfl
          exact hj (nodup_ix hN e1 (I.ok.inj _ _ _ e hc ▸ hi))
    · by_cases hcc : c' = c
      · subst hcc; exact ⟨_, hc'⟩
      · obtain ⟨w2, z2⟩ := I.cell y c' e
        exact ⟨w2, z2.sameBut hs hcc⟩
    · obtain ⟨e, n, ne, nf, d⟩ := I.pin p hp
      refine ⟨(hs.2 p.1 ?_).trans e, n, ne, nf, d⟩
      intro q
      rw [q, hoc] at e
      have q' : oc = p.2 := Option.some.inj e
      exact d w' (by rw [← q']; exact hocd)
theorem store_ok {M : Model} {A : Around} {E : Value → Shared → Prop} {i : Nat} {x : Str} {v : V} {u : Value} {Q : Unit → Shared → Prop} (I : Inv X pins σ H s) (hN : X.N.Nodup) (hi : X.N[i]? = some x) (hx : Loc X.env.scope x) (r : RelV v u)
    (h : ∀ s', Inv X pins (σ.set i (some v)) H s' → Q () s') (hf : X.fn x = true ∨ X.env.scope.names.lookup x = some .local := by first | exact .inl rfl | exact .inr rfl | assumption) : wpAny M A (storeName X.env x u) Q E s :=
  store_ok2 I hN hi hx r (fun s' I' _ => h s' I') hf
/-- behind a call or a block, the state as it is -/
theorem Inv.call' {s' : Shared} {ch : List Addr} (I : Inv X pins σ H s) (ho : s'.os = s.os) (u : Un (frs X.stack) ch H H' s.heap s'.heap) (hok : HOk X.prog X.w H' s'.heap) (hg : AllBare s'.gens)
    (hch : ∀ b ∈ ch, (b ∈ X.ex ∨ X.s₀.heap.objs.size ≤ b) ∧ b ≠ X.env.locals ∧ (∀ x c, X.env.cells.lookup x = some c → c ≠ b) ∧ ∀ p ∈ X.pn ++ pins, p.1 ≠ b) : Inv X pins σ H' s' := by
  obtain ⟨h', g', d', t', o'⟩ := s'
  have e : o' = s.os := ho
  subst e
  exact I.call (g' := g') (t' := t') (d' := d') u hok hg hch
end

/-! ### the judgements -/
/-- an exception: its class, its own dict's address (where it has one), the abstract heap behind it -/
abbrev XK := Value → Option Addr → Hp → Prop
abbrev St := List (Option V)
abbrev VK := V → Hp → Prop
/-- an expression's reading; a test's; an argument list's -/
abbrev TE := St → Hp → VK → Prop
abbrev TT := St → Hp → (Bool → Hp → Prop) → Prop
abbrev TA := St → Hp → (List V → Hp → Prop) → Prop
/-- what is wanted behind a statement -/
structure Ends where
  nx : St → Hp → Prop
  rt : VK
  bk : St → Hp → Prop := fun _ _ => False
  ct : St → Hp → Prop := fun _ _ => False
abbrev TS := Ends → St → Hp → Prop

def EP (X : Cx) (pins : List (Addr × Obj)) (σ : St) (Q : VK) (u : Value) (s' : Shared) : Prop := ∃ v H', Inv X pins σ H' s' ∧ RelV v u ∧ Q v H'
def TP (X : Cx) (pins : List (Addr × Obj)) (σ : St) (Q : Bool → Hp → Prop) (b : Bool) (s' : Shared) : Prop := ∃ H', Inv X pins σ H' s' ∧ Q b H'
def AP (X : Cx) (pins : List (Addr × Obj)) (σ : St) (Q : List V → Hp → Prop) (us : List Value) (s' : Shared) : Prop := ∃ vs H', Inv X pins σ H' s' ∧ Vals vs us ∧ Q vs H'
def SP (X : Cx) (pins : List (Addr × Obj)) (D : Ends) (f : Flow) (s' : Shared) : Prop :=
  match f with
  | .next => ∃ σ' H', Inv X pins σ' H' s' ∧ D.nx σ' H'
  | .brk => ∃ σ' H', Inv X pins σ' H' s' ∧ D.bk σ' H'
  | .cont => ∃ σ' H', Inv X pins σ' H' s' ∧ D.ct σ' H'
  | .ret u => ∃ v σ' H', Inv X pins σ' H' s' ∧ RelV v u ∧ D.rt v H'

def PE (X : Cx) (e : Expr) (t : TE) : Prop :=
  ∀ (pins : List (Addr × Obj)) (s : Shared) (σ : St) (H : Hp) (Q : VK), Inv X pins σ H s → t σ H Q → wpAny (model X.prog X.w) X.A (eval e X.env) (EP X pins σ Q) X.xe s
def PT (X : Cx) (e : Expr) (t : TT) : Prop :=
  ∀ (pins : List (Addr × Obj)) (s : Shared) (σ : St) (H : Hp) (Q : Bool → Hp → Prop), Inv X pins σ H s → t σ H Q → wpAny (model X.prog X.w) X.A (isTrue e X.env (eval e X.env)) (TP X pins σ Q) X.xe s
/-- a test whatever its 'whole' is (and, or) -/
def PW (X : Cx) (e : Expr) (t : TT) : Prop :=
  ∀ (whole : Sem Value) (pins : List (Addr × Obj)) (s : Shared) (σ : St) (H : Hp) (Q : Bool → Hp → Prop), Inv X pins σ H s → t σ H Q → wpAny (model X.prog X.w) X.A (isTrue e X.env whole) (TP X pins σ Q) X.xe s
theorem PW.pt {X : Cx} {e : Expr} {t : TT} (h : PW X e t) : PT X e t := h _
/-- an argument list (no star), from the left -/
def PA (X : Cx) (es : List Expr) (t : TA) : Prop :=
  ∀ (pos : Pos) (pins : List (Addr × Obj)) (s : Shared) (σ : St) (H : Hp) (Q : List V → Hp → Prop), Inv X pins σ H s → t σ H Q → wpAny (model X.prog X.w) X.A (spliced (backTo pos (starEach es X.env))) (AP X pins σ Q) X.xe s
def PS (X : Cx) (st : Stmt) (t : TS) : Prop :=
  ∀ (pins : List (Addr × Obj)) (s : Shared) (σ : St) (H : Hp) (D : Ends), Inv X pins σ H s → t D σ H → wpAny (model X.prog X.w) X.A (exec st X.env) (SP X pins D) X.xe s
def PSs (X : Cx) (st : List Stmt) (t : TS) : Prop :=
  ∀ (pins : List (Addr × Obj)) (s : Shared) (σ : St) (H : Hp) (D : Ends), Inv X pins σ H s → t D σ H → wpAny (model X.prog X.w) X.A (execs st X.env) (SP X pins D) X.xe s
/-- weaken the end -/
theorem thn {α : Type} {t : Sem α} {Q Q' : α → Shared → Prop} {M : Model} {A : Around} {E : Value → Shared → Prop} {s : Shared} (h : wpAny M A t Q E s) (hQ : ∀ a s, Q a s → Q' a s) : wpAny M A t Q' E s := wpAny_mono h hQ fun _ _ x => x
end L2

namespace L2
open PySem PySem.Spec PyProof.Rows
section
variable {X : Cx}

/-- two expressions in a row -/
theorem bin {a b : Expr} {ta tb : TE} (ha : PE X a ta) (hb : PE X b tb) {pins : List (Addr × Obj)} {s : Shared} {σ : St} {H : Hp} {R : V → V → Hp → Prop} (I : Inv X pins σ H s) (h : ta σ H fun x H1 => tb σ H1 fun y H2 => R x y H2)
    {α : Type} {Q : α → Shared → Prop} {f : Value → Value → Sem α}
    (hf : ∀ v u s2 x y H2, Inv X pins σ H2 s2 → RelV x v → RelV y u → R x y H2 → wpAny (model X.prog X.w) X.A (f v u) Q X.xe s2) :
    wpAny (model X.prog X.w) X.A (eval a X.env) (fun v s₁ => wpAny (model X.prog X.w) X.A (eval b X.env) (fun u s₂ => wpAny (model X.prog X.w) X.A (f v u) Q X.xe s₂) X.xe s₁) X.xe s := by
  refine thn (ha pins s σ H _ I h) fun v s1 ⟨x, H1, I1, r1, q1⟩ => ?_
  refine thn (hb pins s1 σ H1 _ I1 q1) fun u s2 ⟨y, H2, I2, r2, q2⟩ => ?_
  exact hf v u s2 x y H2 I2 r1 r2 q2

/-! ### names and constants -/
def tVar (i : Nat) : TE := fun σ H Q => ∃ v, σ[i]? = some (some v) ∧ Q v H
def tC (v : V) : TE := fun _ H Q => Q v H
theorem pe_var {i : Nat} {x : Str} {pos : Pos} (hN : X.N[i]? = some x) (hv : Vis X.env.scope x) (hd : (x == ("__debug__" : Str)) = false := by decide) (hcd : (x == ("__classdict__" : Str)) = false := by decide) : PE X (.Name x pos) (tVar i) := by
  intro pins s σ H Q I h
  obtain ⟨v, e, h⟩ := h
  obtain ⟨m, hn, hl⟩ := I.loc
  obtain ⟨u, r, l⟩ := hl i x v hN e hv
  have fin : EP X pins σ Q u s := ⟨v, H, I, r, h⟩
  rcases l with ⟨hk, hm⟩ | ⟨hk, c, hc, hcell⟩
  · exact wpAny_Name (wpAny_loadName_local I.ok.kind hk hn hm fin) hd
  · rcases hk with hk | hk
    · exact wpAny_Name (wpAny_loadName_cell I.ok.kind hk hc hcell fin) hd
    · exact wpAny_Name (wpAny_loadName_free I.ok.kind hk hc hcell fin hcd) hd
theorem pe_int {i j pos} : PE X (.Constant (.int i) j pos) (tC (.int i)) := fun _ _ _ H _ I h => wpAny_Constant_int ⟨.int i, H, I.tok _, ⟨_, rfl⟩, h⟩
theorem pe_bl {b j pos} : PE X (.Constant (.bool b) j pos) (tC (.bl b)) := fun _ _ _ H _ I h => Constant_bool ⟨.bl b, H, I, rfl, h⟩
theorem pe_non {j pos} : PE X (.Constant .none j pos) (tC .non) := fun _ _ _ H _ I h => Constant_none ⟨.non, H, I, rfl, h⟩
theorem pe_str {x j pos} : PE X (.Constant (.str x) j pos) (tC (.str x)) := fun _ _ _ H _ I h => Calls.Constant_str ⟨.str x, H, I.tok _, ⟨_, rfl⟩, h⟩

/-- a global name of the def -/
def Gl (X : Cx) (x : Str) : Prop := X.env.kindOf x = some .globalImplicit
theorem ld_glob {E : Value → Shared → Prop} {pins : List (Addr × Obj)} {s : Shared} {σ : St} {H : Hp} {x : Str} {u : Value} {pos : Pos} {Q : Value → Shared → Prop} (I : Inv X pins σ H s) (hg : Gl X x) (hm : X.mg x = some u) (h : Q u s)
    (hd : (x == ("__debug__" : Str)) = false := by decide) : wpAny (model X.prog X.w) X.A (eval (.Name x pos) X.env) Q E s :=
  Calls.Name_function_global I.ok.kind hg (Calls.loadGlobal_global (by rw [I.ok.glob]; exact I.mod.glob.keeps I.bk) hm h) hd
theorem ld_blt {E : Value → Shared → Prop} {pins : List (Addr × Obj)} {s : Shared} {σ : St} {H : Hp} {x : Str} {u : Value} {pos : Pos} {Q : Value → Shared → Prop} (I : Inv X pins σ H s) (hg : Gl X x) (hm : X.mg x = none) (hv : bootBuiltins x = some u) (h : Q u s)
    (hn : x ≠ "__name__" := by decide) (hd : (x == ("__debug__" : Str)) = false := by decide) : wpAny (model X.prog X.w) X.A (eval (.Name x pos) X.env) Q E s := by
  obtain ⟨mb, h1, h2⟩ := I.mod.blt
  exact Calls.Name_function_global I.ok.kind hg (Calls.loadGlobal_builtin (by rw [I.ok.glob]; exact I.mod.glob.keeps I.bk) hm (by rw [I.ok.blt]; exact h1.keeps I.bk) ((h2 x hn).trans hv) h) hd
/-- a module's constant, a class, a function, as a value -/
theorem pe_glob {x : Str} {v : V} {u : Value} {pos : Pos} (hg : Gl X x) (hm : X.mg x = some u) (r : RelV v u) (hd : (x == ("__debug__" : Str)) = false := by decide) : PE X (.Name x pos) (tC v) :=
  fun _ _ _ H _ I h => ld_glob I hg hm ⟨v, H, I, r, h⟩ hd
theorem pe_bltn {x : Str} {v : V} {u : Value} {pos : Pos} (hg : Gl X x) (hm : X.mg x = none) (hv : bootBuiltins x = some u) (r : RelV v u) (hn : x ≠ "__name__" := by decide) (hd : (x == ("__debug__" : Str)) = false := by decide) : PE X (.Name x pos) (tC v) :=
  fun _ _ _ H _ I h => ld_blt I hg hm hv ⟨v, H, I, r, h⟩ hn hd

/-! ### arithmetic -/
/-- two ints -/
def t2I (ta tb : TE) (k : Int → Int → Hp → Prop) : St → Hp → Prop := fun σ H => ta σ H fun x H1 => tb σ H1 fun y H2 => ∃ i j, x = .int i ∧ y = .int j ∧ k i j H2
def tAdd (ta tb : TE) : TE := fun σ H Q => t2I ta tb (fun i j H2 => Q (.int (i + j)) H2) σ H
def tSub (ta tb : TE) : TE := fun σ H Q => t2I ta tb (fun i j H2 => Q (.int (i - j)) H2) σ H
/-- the left factor below 2^64 -/
def tMul (ta tb : TE) : TE := fun σ H Q => t2I ta tb (fun i j H2 => (-(2 ^ 64) < i ∧ i < 2 ^ 64) ∧ Q (.int (i * j)) H2) σ H
variable {a b : Expr} {ta tb : TE} {pos : Pos}
theorem pe_add (ha : PE X a ta) (hb : PE X b tb) : PE X (.BinOp a .Add b pos) (tAdd ta tb) := by
  intro pins s σ H Q I h
  refine wpAny_BinOp (bin ha hb I h fun v u s2 x y H2 I2 rx ry q => ?_)
  obtain ⟨i, j, rfl, rfl, q⟩ := q
  obtain ⟨t, rfl⟩ := rx
  obtain ⟨t', rfl⟩ := ry
  exact add_int ⟨.int _, H2, I2.tok _, ⟨_, rfl⟩, q⟩
theorem pe_sub (ha : PE X a ta) (hb : PE X b tb) : PE X (.BinOp a .Sub b pos) (tSub ta tb) := by
  intro pins s σ H Q I h
  refine wpAny_BinOp (bin ha hb I h fun v u s2 x y H2 I2 rx ry q => ?_)
  obtain ⟨i, j, rfl, rfl, q⟩ := q
  obtain ⟨t, rfl⟩ := rx
  obtain ⟨t', rfl⟩ := ry
  exact sub_int ⟨.int _, H2, I2.tok _, ⟨_, rfl⟩, q⟩
theorem pe_mul (ha : PE X a ta) (hb : PE X b tb) : PE X (.BinOp a .Mult b pos) (tMul ta tb) := by
  intro pins s σ H Q I h
  refine wpAny_BinOp (bin ha hb I h fun v u s2 x y H2 I2 rx ry q => ?_)
  obtain ⟨i, j, rfl, rfl, ⟨q1, q2⟩, q⟩ := q
  obtain ⟨t, rfl⟩ := rx
  obtain ⟨t', rfl⟩ := ry
  exact mul_int ⟨.int _, H2, I2.tok _, ⟨_, rfl⟩, q⟩ (.of_left (intBits_le_64 q1 q2))

/-! ### comparisons -/
def PC (X : Cx) (op : CmpOp) (a b : Expr) (t : TE) : Prop :=
  ∀ (pins : List (Addr × Obj)) (s : Shared) (σ : St) (H : Hp) (Q : VK), Inv X pins σ H s → t σ H Q →
    wpAny (model X.prog X.w) X.A (eval a X.env) (fun v s₁ => wpAny (model X.prog X.w) X.A (eval b X.env) (fun u s₂ => wpAny (model X.prog X.w) X.A (compareOp op v u) (EP X pins σ Q) X.xe s₂) X.xe s₁) X.xe s
theorem nobehind (b : Expr) {op : CmpOp} (h : op ≠ .In) (h2 : op ≠ .NotIn) : behindInMarks op b = false := by
  have e1 : (op == CmpOp.In) = false := by cases op <;> first | rfl | exact absurd rfl h
  have e2 : (op == CmpOp.NotIn) = false := by cases op <;> first | rfl | exact absurd rfl h2
  cases b <;> simp [behindInMarks, e1, e2]
def tCmp (p : Int → Int → Bool) (ta tb : TE) : TE := fun σ H Q => t2I ta tb (fun i j H2 => Q (.bl (p i j)) H2) σ H
abbrev tLt : TE → TE → TE := tCmp fun i j => decide (i < j)
abbrev tLe : TE → TE → TE := tCmp fun i j => decide (i ≤ j)
abbrev tGt : TE → TE → TE := tCmp fun i j => decide (j < i)
abbrev tGe : TE → TE → TE := tCmp fun i j => decide (j ≤ i)
abbrev tEqI : TE → TE → TE := tCmp fun i j => decide (i = j)
abbrev tNeI : TE → TE → TE := tCmp fun i j => !decide (i = j)
/-- a comparison of two ints, by its rule -/
theorem pc_int {op : CmpOp} {p : Int → Int → Bool} (ha : PE X a ta) (hb : PE X b tb)
    (rule : ∀ (i j : Int) (t u : Tok) (Q : Value → Shared → Prop) (s : Shared), Q (.bool (p i j)) s → wpAny (model X.prog X.w) X.A (compareOp op (.int i t) (.int j u)) Q X.xe s) : PC X op a b (tCmp p ta tb) := by
  intro pins s σ H Q I h
  refine bin ha hb I h fun v u s2 x y H2 I2 rx ry q => ?_
  obtain ⟨i, j, rfl, rfl, q⟩ := q
  obtain ⟨t, rfl⟩ := rx
  obtain ⟨t', rfl⟩ := ry
  exact rule i j t t' _ s2 ⟨.bl _, H2, I2, rfl, q⟩
theorem pc_lt (ha : PE X a ta) (hb : PE X b tb) : PC X .Lt a b (tLt ta tb) := pc_int ha hb fun _ _ _ _ _ _ h => lt_int h
theorem pc_le (ha : PE X a ta) (hb : PE X b tb) : PC X .LtE a b (tLe ta tb) := pc_int ha hb fun _ _ _ _ _ _ h => le_int h
theorem pc_gt (ha : PE X a ta) (hb : PE X b tb) : PC X .Gt a b (tGt ta tb) := pc_int ha hb fun _ _ _ _ _ _ h => gt_int h
theorem pc_ge (ha : PE X a ta) (hb : PE X b tb) : PC X .GtE a b (tGe ta tb) := pc_int ha hb fun _ _ _ _ _ _ h => ge_int h
theorem pc_eqI (ha : PE X a ta) (hb : PE X b tb) : PC X .Eq a b (tEqI ta tb) := pc_int ha hb fun _ _ _ _ _ _ h => eq_int (by rw [Bool.beq_eq_decide_eq]; exact h)
theorem pc_neI (ha : PE X a ta) (hb : PE X b tb) : PC X .NotEq a b (tNeI ta tb) := pc_int ha hb fun _ _ _ _ _ _ h => ne_int (by rw [bne, Bool.beq_eq_decide_eq]; exact h)
/-- is None -/
def tIsN (ta : TE) : TE := fun σ H Q => ta σ H fun x H1 => Q (.bl (decide (x = .non))) H1
def tNotN (ta : TE) : TE := fun σ H Q => ta σ H fun x H1 => Q (.bl (!decide (x = .non))) H1
theorem RelV.none_iff {x : V} {v : Value} (r : RelV x v) : (v == Value.none) = decide (x = .non) := by
  cases x with
  | non => cases r; rfl
  | bl _ => cases r; rfl
  | int _ => obtain ⟨t, rfl⟩ := r; rfl
  | str _ => obtain ⟨t, rfl⟩ := r; rfl
  | byt _ => obtain ⟨t, rfl⟩ := r; rfl
  | flt _ => obtain ⟨t, rfl⟩ := r; rfl
  | ref _ => cases r; rfl
  | ty _ => cases r; rfl
theorem pc_isN {j pos'} (ha : PE X a ta) : PC X .Is a (.Constant .none j pos') (tIsN ta) := by
  intro pins s σ H Q I h
  refine thn (ha pins s σ H _ I h) fun v s1 ⟨x, H1, I1, r1, q1⟩ => ?_
  exact Constant_none (is_none_gen ⟨.bl _, H1, I1, by rw [r1.none_iff]; rfl, q1⟩)
theorem pc_notN {j pos'} (ha : PE X a ta) : PC X .IsNot a (.Constant .none j pos') (tNotN ta) := by
  intro pins s σ H Q I h
  refine thn (ha pins s σ H _ I h) fun v s1 ⟨x, H1, I1, r1, q1⟩ => ?_
  exact Constant_none (isnot_none_gen ⟨.bl _, H1, I1, by rw [r1.none_iff]; rfl, q1⟩)
/-- a comparison as a value, as a test -/
def tB (t : TE) : TT := fun σ H Q => t σ H fun x H1 => ∃ c, x = .bl c ∧ Q c H1
theorem pe_cmp {op : CmpOp} {t : TE} (h : PC X op a b t) (h1 : behindInMarks op b = false := by first | exact nobehind _ (by decide) (by decide) | rfl) : PE X (.Compare a [op] [b] pos) t := fun pins s σ H Q I hw => wpAny_Compare1 (h pins s σ H Q I hw) h1
theorem pt_cmp {op : CmpOp} {t : TE} (h : PC X op a b t) (h1 : behindInMarks op b = false := by first | exact nobehind _ (by decide) (by decide) | rfl) : PT X (.Compare a [op] [b] pos) (tB t) := by
  intro pins s σ H Q I hw
  refine wpAny_isTrue_Compare1 (thn (h pins s σ H _ I hw) fun v s1 h1 => thn h1 fun u s2 h2 => thn h2 fun c s3 ⟨x, H1, I1, r1, q1⟩ => ?_) h1
  obtain ⟨d, rfl, q⟩ := q1
  cases r1
  exact wpAny_truthy_bool ⟨H1, I1, q⟩
/-- an expression whose value is a bool, as a test -/
theorem pt_val {e : Expr} {t : TE} (h : PE X e t) (he : ∀ whole, isTrue e X.env whole = (do let v ← whole; standAt e.pos; holding [v] (truthy v)) := by intro _; rfl) : PT X e (tB t) := by
  intro pins s σ H Q I hw
  refine isTrue_plain (thn (h pins s σ H _ I hw) fun v s1 ⟨x, H1, I1, r1, q1⟩ => ?_) (he _)
  obtain ⟨d, rfl, q⟩ := q1
  cases r1
  exact wpAny_truthy_bool ⟨H1, I1, q⟩

/-! ### and, or, not -/
variable {tA tB' : TT} {rest : List Expr}
def tAnd (t u : TT) : TT := fun σ H Q => t σ H fun c H1 => if c = true then u σ H1 Q else Q false H1
def tOr (t u : TT) : TT := fun σ H Q => t σ H fun c H1 => if c = true then Q true H1 else u σ H1 Q
def tNot (t : TT) : TT := fun σ H Q => t σ H fun c H1 => Q (!c) H1
theorem pw_and1 (ha : PT X a tA) : PW X (.BoolOp .And [a] pos) tA := by
  intro wh pins s σ H Q I h
  refine isTrue_and (thn (ha pins s σ H Q I h) fun c s1 e => ?_)
  cases c with
  | true => exact isTrue_and_nil e
  | false => exact e
theorem pw_or1 (ha : PT X a tA) : PW X (.BoolOp .Or [a] pos) tA := by
  intro wh pins s σ H Q I h
  refine isTrue_or (thn (ha pins s σ H Q I h) fun c s1 e => ?_)
  cases c with
  | false => exact isTrue_or_nil e
  | true => exact e
theorem pw_and (ha : PT X a tA) (hb : PW X (.BoolOp .And (b :: rest) pos) tB') : PW X (.BoolOp .And (a :: b :: rest) pos) (tAnd tA tB') := by
  intro wh pins s σ H Q I h
  refine isTrue_and (thn (ha pins s σ H _ I h) fun c s1 ⟨H1, I1, q1⟩ => ?_)
  cases c with
  | true => exact hb wh pins s1 σ H1 Q I1 q1
  | false => exact ⟨H1, I1, q1⟩
theorem pw_or (ha : PT X a tA) (hb : PW X (.BoolOp .Or (b :: rest) pos) tB') : PW X (.BoolOp .Or (a :: b :: rest) pos) (tOr tA tB') := by
  intro wh pins s σ H Q I h
  refine isTrue_or (thn (ha pins s σ H _ I h) fun c s1 ⟨H1, I1, q1⟩ => ?_)
  cases c with
  | true => exact ⟨H1, I1, q1⟩
  | false => exact hb wh pins s1 σ H1 Q I1 q1
theorem pt_not (ha : PT X a tA) : PT X (.UnaryOp .Not a pos) (tNot tA) := by
  intro pins s σ H Q I h
  exact isTrue_not (ha pins s σ H (fun c H1 => Q (!c) H1) I h)
/-- .. as values (bools) -/
def tAndV (ta tb : TE) : TE := fun σ H Q => ta σ H fun x H1 => ∃ c, x = .bl c ∧ if c = true then tb σ H1 Q else Q (.bl false) H1
def tOrV (ta tb : TE) : TE := fun σ H Q => ta σ H fun x H1 => ∃ c, x = .bl c ∧ if c = true then Q (.bl true) H1 else tb σ H1 Q
def tNotV (ta : TE) : TE := fun σ H Q => ta σ H fun x H1 => ∃ c, x = .bl c ∧ Q (.bl (!c)) H1
theorem pe_one {op} {t : TE} (h : PE X a t) : PE X (.BoolOp op [a] pos) t := fun pins s σ H Q I hw => BoolOp_one (h pins s σ H Q I hw)
theorem pe_and (ha : PE X a ta) (hb : PE X (.BoolOp .And (b :: rest) pos) tb) : PE X (.BoolOp .And (a :: b :: rest) pos) (tAndV ta tb) := by
  intro pins s σ H Q I h
  refine BoolOp_and (thn (ha pins s σ H _ I h) fun v s1 ⟨x, H1, I1, r1, q1⟩ => ?_)
  obtain ⟨c, rfl, q1⟩ := q1
  cases r1
  refine wpAny_truthy_bool ?_
  cases c with
  | true => exact hb pins s1 σ H1 Q I1 q1
  | false => exact ⟨.bl false, H1, I1, rfl, q1⟩
theorem pe_or (ha : PE X a ta) (hb : PE X (.BoolOp .Or (b :: rest) pos) tb) : PE X (.BoolOp .Or (a :: b :: rest) pos) (tOrV ta tb) := by
  intro pins s σ H Q I h
  refine BoolOp_or (thn (ha pins s σ H _ I h) fun v s1 ⟨x, H1, I1, r1, q1⟩ => ?_)
  obtain ⟨c, rfl, q1⟩ := q1
  cases r1
  refine wpAny_truthy_bool ?_
  cases c with
  | false => exact hb pins s1 σ H1 Q I1 q1
  | true => exact ⟨.bl true, H1, I1, rfl, q1⟩
theorem pe_not (ha : PE X a ta) : PE X (.UnaryOp .Not a pos) (tNotV ta) := by
  intro pins s σ H Q I h
  refine UnaryOp_ (thn (ha pins s σ H _ I h) fun v s1 ⟨x, H1, I1, r1, q1⟩ => ?_)
  obtain ⟨c, rfl, q1⟩ := q1
  cases r1
  exact not_of (wpAny_truthy_bool ⟨.bl (!c), H1, I1, rfl, q1⟩)
/-- a if t else b -/
def tIf (t : TT) (ta tb : TE) : TE := fun σ H Q => t σ H fun c H1 => if c = true then ta σ H1 Q else tb σ H1 Q
theorem pe_ifExp {c : Expr} (hc : PT X c tA) (ha : PE X a ta) (hb : PE X b tb) : PE X (.IfExp c a b pos) (tIf tA ta tb) := by
  intro pins s σ H Q I h
  refine wpAny_IfExp (thn (hc pins s σ H _ I h) fun d s1 ⟨H1, I1, q1⟩ => ?_)
  cases d with
  | true => exact ha pins s1 σ H1 Q I1 q1
  | false => exact hb pins s1 σ H1 Q I1 q1
end
end L2

namespace L2
open PySem PySem.Spec PyProof.Rows

/-! ### a list, a tuple that is read: tracked, frozen, or an object of the module -/
def SqL (K : PySem.W.Frag) (H : Hp) (a : Addr) (xs : List V) : Prop :=
  Rd H a (.lst xs) ∨
    ∃ (o : Obj) (its : Array Value) (n : Nat), K.lookup a = some o ∧ o.cls = .type "list" ∧ o.dict = none ∧ o.data = .seq its n ∧ its.size ≤ sizeLine ∧ Vals xs its.toList
def SqT (K : PySem.W.Frag) (H : Hp) (a : Addr) (xs : List V) : Prop :=
  Rd H a (.tup xs) ∨
    ∃ (o : Obj) (its : Array Value) (n : Nat), K.lookup a = some o ∧ o.cls = .type "tuple" ∧ o.data = .seq its n ∧ its.size ≤ sizeLine ∧ Vals xs its.toList
def absV : Value → Option V
  | .none => some .non
  | .bool b => some (.bl b)
  | .int i _ => some (.int i)
  | .str x _ => some (.str x)
  | .bytes b _ => some (.byt b)
  | .float b _ => some (.flt b)
  | .ref a => some (.ref a)
  | .type n => some (.ty n)
  | _ => none
theorem RelV.abs {x : V} {u : Value} (r : RelV x u) : absV u = some x := by
  cases x with
  | non => cases r; rfl
  | bl _ => cases r; rfl
  | int _ => obtain ⟨t, rfl⟩ := r; rfl
  | str _ => obtain ⟨t, rfl⟩ := r; rfl
  | byt _ => obtain ⟨t, rfl⟩ := r; rfl
  | flt _ => obtain ⟨t, rfl⟩ := r; rfl
  | ref _ => cases r; rfl
  | ty _ => cases r; rfl
theorem RelV.inj {x y : V} {u : Value} (r : RelV x u) (q : RelV y u) : x = y := Option.some.inj (r.abs.symm.trans q.abs)
theorem Vals.inj : ∀ {xs ys : List V} {us : List Value}, Vals xs us → Vals ys us → xs = ys
  | _, _, _, .nil, .nil => rfl
  | _, _, _, .cons r t, .cons r' t' => by rw [r.inj r', Vals.inj t t']
section
variable {X : Cx} {pins : List (Addr × Obj)} {σ : St} {H : Hp} {s : Shared} {a : Addr} {xs ys : List V}
theorem SqL.of {K : PySem.W.Frag} (h : H a = some (.lst xs)) : SqL K H a xs := .inl (.inl h)
theorem SqT.of {K : PySem.W.Frag} (h : H a = some (.tup xs)) : SqT K H a xs := .inl (.inl h)
theorem Inv.list (I : Inv X pins σ H s) (h : SqL X.K H a xs) : ∃ its : List Value, Vals xs its ∧ PlainL s.heap a its.toArray ∧ xs.length ≤ sizeLine := by
  rcases h with h | ⟨o, its, n, hk, hc, hd, hs, hz, r⟩
  · obtain ⟨z, its, n, r, e⟩ := h.ok I.hok
    exact ⟨its, r, ⟨_, n, e, rfl, rfl, rfl⟩, z⟩
  · refine ⟨its.toList, r, ⟨o, n, I.kIn a o hk, hc, hd, by simpa using hs⟩, ?_⟩
    have e := r.length
    simp only [Array.length_toList] at e
    omega
theorem Inv.tuple (I : Inv X pins σ H s) (h : SqT X.K H a xs) : ∃ its : List Value, Vals xs its ∧ IsTup s.heap a its.toArray ∧ xs.length ≤ sizeLine := by
  rcases h with h | ⟨o, its, n, hk, hc, hs, hz, r⟩
  · obtain ⟨z, its, r, p⟩ := h.ok I.hok
    exact ⟨its, r, p, z⟩
  · refine ⟨its.toList, r, ⟨o, I.kIn a o hk, hc, n, by simpa using hs⟩, ?_⟩
    have e := r.length
    simp only [Array.length_toList] at e
    omega
theorem Inv.list_inj (I : Inv X pins σ H s) (h : SqL X.K H a xs) (h' : SqL X.K H a ys) : xs = ys := by
  obtain ⟨its, r, ⟨o, n, e, _, _, d⟩, _⟩ := I.list h
  obtain ⟨its', r', ⟨o', n', e', _, _, d'⟩, _⟩ := I.list h'
  rw [e] at e'; cases e'
  rw [d] at d'
  injection d' with d1 _
  have : its = its' := by simpa using congrArg Array.toList d1
  subst this
  exact r.inj r'
theorem Inv.tuple_inj (I : Inv X pins σ H s) (h : SqT X.K H a xs) (h' : SqT X.K H a ys) : xs = ys := by
  obtain ⟨its, r, ⟨o, e, _, n, d⟩, _⟩ := I.tuple h
  obtain ⟨its', r', ⟨o', e', _, n', d'⟩, _⟩ := I.tuple h'
  rw [e] at e'; cases e'
  rw [d] at d'
  injection d' with d1 _
  have : its = its' := by simpa using congrArg Array.toList d1
  subst this
  exact r.inj r'
end

/-! ### another wish about exceptions -/
abbrev Cx.wish (X : Cx) (E : Value → Shared → Prop) : Cx := { X with xe := E }
/-- no exception leaves -/
abbrev Cx.nox (X : Cx) : Cx := X.wish fun _ _ => False
theorem Cx.Ok.wish {X : Cx} (ok : X.Ok) (E : Value → Shared → Prop) : (X.wish E).Ok :=
  ⟨ok.mod, ok.kind, ok.glob, ok.blt, ok.above, ok.inj, ok.has, ok.cab, ok.hd, ok.frames, ok.stk, ok.exf, ok.bs, ok.bsz, ok.noex, ok.exfs, ok.funs, ok.frf⟩
theorem Cx.Ok.unwish {X : Cx} {E : Value → Shared → Prop} (ok : (X.wish E).Ok) : X.Ok :=
  ⟨ok.mod, ok.kind, ok.glob, ok.blt, ok.above, ok.inj, ok.has, ok.cab, ok.hd, ok.frames, ok.stk, ok.exf, ok.bs, ok.bsz, ok.noex, ok.exfs, ok.funs, ok.frf⟩
section
variable {X : Cx} {pins : List (Addr × Obj)} {σ : St} {H : Hp} {s : Shared} {E : Value → Shared → Prop}
theorem Inv.wish (I : Inv X pins σ H s) (E : Value → Shared → Prop) : Inv (X.wish E) pins σ H s := ⟨I.ok.wish E, I.os, I.bare, I.base, I.loc, I.cell, I.free, I.freeC, I.pin, I.hok, I.len⟩
theorem Inv.unwish (I : Inv (X.wish E) pins σ H s) : Inv X pins σ H s := ⟨I.ok.unwish, I.os, I.bare, I.base, I.loc, I.cell, I.free, I.freeC, I.pin, I.hok, I.len⟩
theorem SP.unwish {D : Ends} {f : Flow} {s' : Shared} (h : SP (X.wish E) pins D f s') : SP X pins D f s' := by
  cases f with
  | next => obtain ⟨σ', H', I, q⟩ := h; exact ⟨σ', H', I.unwish, q⟩
  | brk => obtain ⟨σ', H', I, q⟩ := h; exact ⟨σ', H', I.unwish, q⟩
  | cont => obtain ⟨σ', H', I, q⟩ := h; exact ⟨σ', H', I.unwish, q⟩
  | ret u => obtain ⟨v, σ', H', I, r, q⟩ := h; exact ⟨v, σ', H', I.unwish, r, q⟩
theorem PE.nox {e : Expr} {t : TE} (h : PE X.nox e t) : PE X e t := fun pins s σ H Q I hw =>
  wpAny_mono (h pins s σ H Q (I.wish _) hw) (fun _ _ ⟨v, H', I', r, q⟩ => ⟨v, H', I'.unwish, r, q⟩) fun _ _ z => False.elim z
theorem PT.nox {e : Expr} {t : TT} (h : PT X.nox e t) : PT X e t := fun pins s σ H Q I hw =>
  wpAny_mono (h pins s σ H Q (I.wish _) hw) (fun _ _ ⟨H', I', q⟩ => ⟨H', I'.unwish, q⟩) fun _ _ z => False.elim z
theorem PSs.nox {st : List Stmt} {t : TS} (h : PSs X.nox st t) : PSs X st t := fun pins s σ H D I hw =>
  wpAny_mono (h pins s σ H D (I.wish _) hw) (fun _ _ q => q.unwish) fun _ _ z => False.elim z
end

/-! ### blocks and small statements -/
section
variable {X : Cx} {st : Stmt} {rest : List Stmt} {t u : TS} {e : Expr} {te : TE} {pos : Pos}
def tNext : TS := fun D σ H => D.nx σ H
def tSeq (t u : TS) : TS := fun D σ H => t { D with nx := u D } σ H
theorem pss_nil : PSs X [] tNext := fun _ _ σ H _ I h => wpAny_execs_nil ⟨σ, H, I, h⟩
theorem pss_cons (h1 : PS X st t) (h2 : PSs X rest u) : PSs X (st :: rest) (tSeq t u) := by
  intro pins s σ H D I h
  refine wpAny_execs_cons (thn (h1 pins s σ H { D with nx := u D } I h) fun f s1 q => ?_)
  cases f with
  | next =>
    obtain ⟨σ', H', I', q⟩ := q
    exact h2 pins s1 σ' H' D I' q
  | ret v => exact q
  | brk => exact q
  | cont => exact q
theorem pss_one (h1 : PS X st t) : PSs X [st] t := by
  intro pins s σ H D I h
  refine wpAny_execs_cons (thn (h1 pins s σ H D I h) fun f s1 q => ?_)
  cases f with
  | next => exact wpAny_execs_nil q
  | ret v => exact q
  | brk => exact q
  | cont => exact q
def tBreak : TS := fun D σ H => D.bk σ H
def tCont : TS := fun D σ H => D.ct σ H
theorem ps_pass : PS X (.Pass pos) tNext := fun _ _ σ H _ I h => wpAny_Pass ⟨σ, H, I, h⟩
theorem ps_break : PS X (.Break pos) tBreak := fun _ _ σ H _ I h => wpAny_Break ⟨σ, H, I, h⟩
theorem ps_continue : PS X (.Continue pos) tCont := fun _ _ σ H _ I h => wpAny_Continue ⟨σ, H, I, h⟩
/-- in a def's body nothing is shown -/
theorem Inv.quiet {pins : List (Addr × Obj)} {σ : St} {H : Hp} {s : Shared} (I : Inv X pins σ H s) : interactive X.env = false := by simp [interactive, I.ok.kind]
/-- a docstring -/
theorem ps_doc {x j pos pos'} : PS X (.Expr (.Constant (.str x) j pos) pos') tNext := fun _ s σ H _ I h => wpAny_Expr (Calls.Constant_str (show SP X _ _ .next { s with toks := s.toks + 1 } from ⟨σ, H, I.tok _, h⟩)) I.quiet
/-- an expression whose value is dropped -/
def tDrop (te : TE) : TS := fun D σ H => te σ H fun _ H1 => D.nx σ H1
theorem ps_expr (he : PE X e te) (hs : swapsWith e none pos.line X.env = pure false := by rfl) : PS X (.Expr e pos) (tDrop te) := by
  intro pins s σ H D I h
  exact wpAny_Expr_any (thn (he pins s σ H _ I h) fun v s1 ⟨x, H1, I1, r1, q1⟩ => ⟨σ, H1, I1, q1⟩) I.quiet hs
def tRet (te : TE) : TS := fun D σ H => te σ H D.rt
theorem ps_ret (he : PE X e te) : PS X (.Return (some e) pos) (tRet te) := by
  intro pins s σ H D I h
  exact wpAny_Return_some (thn (he pins s σ H _ I h) fun v s1 ⟨x, H1, I1, r1, q1⟩ => ⟨x, σ, H1, I1, r1, q1⟩)
def tRetN : TS := fun D _ H => D.rt .non H
theorem ps_retN : PS X (.Return none pos) tRetN := fun _ _ σ H _ I h => wpAny_Return_none ⟨.non, σ, H, I, rfl, h⟩
def tIfS (c : TT) (t u : TS) : TS := fun D σ H => c σ H fun b H1 => if b = true then t D σ H1 else u D σ H1
theorem ps_if {c : Expr} {a b : List Stmt} {tc : TT} (hc : PT X c tc) (ha : PSs X a t) (hb : PSs X b u) : PS X (.If c a b pos) (tIfS tc t u) := by
  intro pins s σ H D I h
  refine wpAny_If (thn (hc pins s σ H _ I h) fun d s1 ⟨H1, I1, q1⟩ => ?_)
  cases d with
  | true => exact ha pins s1 σ H1 D I1 q1
  | false => exact hb pins s1 σ H1 D I1 q1
/-- code that the proof never comes to -/
def tNever : TS := fun _ _ _ => False
theorem ps_never : PS X st tNever := fun _ _ _ _ _ _ h => h.elim
theorem pss_never {sts : List Stmt} : PSs X sts tNever := fun _ _ _ _ _ _ h => h.elim
end

/-! ### targets -/
abbrev TG := V → St → Hp → (St → Hp → Prop) → Prop
abbrev TGs := List V → St → Hp → (St → Hp → Prop) → Prop
def PG (X : Cx) (target : Expr) (t : TG) : Prop :=
  ∀ (pins : List (Addr × Obj)) (s : Shared) (σ : St) (H : Hp) (v : V) (u : Value) (Q : St → Hp → Prop), Inv X pins σ H s → RelV v u → t v σ H Q →
    wpAny (model X.prog X.w) X.A (assign target X.env u) (fun _ s' => ∃ σ' H', Inv X pins σ' H' s' ∧ Q σ' H') X.xe s
/-- several targets, one after another -/
def PGs (X : Cx) (ts : List Expr) (t : TGs) : Prop :=
  ∀ (pins : List (Addr × Obj)) (s : Shared) (σ : St) (H : Hp) (vs : List V) (us : List Value) (Q : St → Hp → Prop), Inv X pins σ H s → Vals vs us → t vs σ H Q →
    wpAny (model X.prog X.w) X.A (assignInOrder ((assignEach ts X.env).map (·.2)) us) (fun _ s' => ∃ σ' H', Inv X pins σ' H' s' ∧ Q σ' H') X.xe s
/-- o[i] = v, by values -/
abbrev TSet := V → V → V → Hp → (Hp → Prop) → Prop
def PSet (X : Cx) (t : TSet) : Prop :=
  ∀ (pins : List (Addr × Obj)) (s : Shared) (σ : St) (H : Hp) (o i v : V) (ov iv u : Value) (Q : Hp → Prop), Inv X pins σ H s → RelV o ov → RelV i iv → RelV v u → t o i v H Q →
    wpAny (model X.prog X.w) X.A (setItem ov iv u) (fun _ s' => ∃ H', Inv X pins σ H' s' ∧ Q H') X.xe s
/-- a op= b, by values -/
abbrev TIp := V → V → Hp → VK → Prop
def PIp (X : Cx) (op : Operator) (t : TIp) : Prop :=
  ∀ (pins : List (Addr × Obj)) (s : Shared) (σ : St) (H : Hp) (x y : V) (v u : Value) (Q : VK), Inv X pins σ H s → RelV x v → RelV y u → t x y H Q →
    wpAny (model X.prog X.w) X.A (inplaceOp op v u) (EP X pins σ Q) X.xe s
section
variable {X : Cx} {pos : Pos}
def gName (i : Nat) : TG := fun v σ H Q => Q (σ.set i (some v)) H
theorem pg_name {i : Nat} {x : Str} (hN : X.N.Nodup) (hi : X.N[i]? = some x) (hx : Loc X.env.scope x) (hf : X.fn x = true ∨ X.env.scope.names.lookup x = some .local := by first | exact .inl rfl | exact .inr rfl | assumption) : PG X (.Name x pos) (gName i) := by
  intro pins s σ H v u Q I r h
  exact wpAny_assign_Name (store_ok I hN hi hx r (fun s' I' => ⟨_, H, I', h⟩) hf)
def gNil : TGs := fun vs σ H Q => vs = [] ∧ Q σ H
def gCons (t : TG) (u : TGs) : TGs := fun vs σ H Q => ∃ v r, vs = v :: r ∧ t v σ H fun σ' H' => u r σ' H' Q
theorem pgs_nil : PGs X [] gNil := by
  intro pins s σ H vs us Q I r h
  obtain ⟨e, h⟩ := h
  subst e
  cases r
  exact assignInOrder_nil ⟨σ, H, I, h⟩
theorem pgs_cons {e : Expr} {es : List Expr} {t : TG} {u : TGs} (h1 : PG X e t) (h2 : PGs X es u)
    (hs : (assignEach (e :: es) X.env).map (·.2) = assign e X.env :: (assignEach es X.env).map (·.2) := by rfl) : PGs X (e :: es) (gCons t u) := by
  intro pins s σ H vs us Q I r h
  obtain ⟨v, vr, e1, h⟩ := h
  subst e1
  cases r with
  | cons r rr =>
    rw [hs]
    refine assignInOrder_cons (thn (h1 pins s σ H _ _ _ I r h) fun _ s1 ⟨σ1, H1, I1, q1⟩ => ?_)
    exact h2 pins s1 σ1 H1 _ _ Q I1 rr q1
/-- (a, b, ..) = a tuple of that length -/
def gTup (K : PySem.W.Frag) (n : Nat) (t : TGs) : TG := fun v σ H Q => ∃ a xs, v = .ref a ∧ SqT K H a xs ∧ xs.length = n ∧ t xs σ H Q
theorem pg_tup {es : List Expr} {k : Nat} {t : TGs} {n : Nat} (hc : X.calm = true) (h : PGs X es t)
    (hn : (assignEach es X.env).length = n := by rfl) (hst : (assignEach es X.env).findIdx? (·.1) = none := by rfl) : PG X (.Tuple es k pos) (gTup X.K n t) := by
  intro pins s σ H v u Q I r hw
  obtain ⟨a, xs, e1, hq, hl, hw⟩ := hw
  subst e1
  cases r
  obtain ⟨its, rv, ht, hz⟩ := I.tuple hq
  refine assign_Tuple_tuple (I.ok.hd hc) ht (by simp [hn, ← hl, rv.length]) hst fun h' hx => ?_
  have I1 : Inv X pins σ H { s with heap := h' } := I.kept (t' := s.toks) fun b o e => hx b o (Nat.ne_of_lt (Heap.lt_size e)) e
  exact h pins _ σ H xs _ Q I1 (by simpa using rv) hw
/-- o[i] = .. -/
def gSub (to ti : TE) (t : TSet) : TG := fun v σ H Q => to σ H fun o H1 => ti σ H1 fun i H2 => t o i v H2 fun H3 => Q σ H3
theorem pg_sub {o i : Expr} {to ti : TE} {t : TSet} (ho : PE X o to) (hi : PE X i ti) (hs : PSet X t)
    (ha : ∀ v, assign (.Subscript o i pos) X.env v = (do
      let ov ← holding [v] (eval o X.env)
      let iv ← holding [v, ov] (eval i X.env)
      standAt pos
      holding [v, ov, iv] (setItem ov iv v)
      release [v, ov, iv] []) := by intro _; rfl) : PG X (.Subscript o i pos) (gSub to ti t) := by
  intro pins s σ H v u Q I r h
  rw [ha]
  refine wpAny_bind (wpAny_holding (thn (ho pins s σ H _ I h) fun ov s1 ⟨x, H1, I1, r1, q1⟩ => ?_))
  refine wpAny_bind (wpAny_holding (thn (hi pins s1 σ H1 _ I1 q1) fun iv s2 ⟨y, H2, I2, r2, q2⟩ => ?_))
  refine wpAny_bind (wpAny_standAt (wpAny_bind (wpAny_holding (thn (hs pins s2 σ H2 x y v ov iv u _ I2 r1 r2 r q2) fun _ s3 ⟨H3, I3, q3⟩ => ?_))))
  exact wpAny_release ⟨σ, H3, I3, q3⟩
/-- target = value -/
def tAsg (te : TE) (g : TG) : TS := fun D σ H => te σ H fun x H1 => g x σ H1 D.nx
theorem ps_asg {tg e : Expr} {te : TE} {g : TG} (he : PE X e te) (hg : PG X tg g) (hs : swapsWithSole [tg] e pos.line X.env = pure false := by rfl) (hw : swappedStores [tg] e X.env = pure none := by rfl)
    (h1 : (assignEach [tg] X.env).map (·.2) = [assign tg X.env] := by rfl) : PS X (.Assign [tg] e pos) (tAsg te g) := by
  intro pins s σ H D I h
  refine wpAny_Assign_stores (thn (he pins s σ H _ I h) fun v s1 ⟨x, H1, I1, r1, q1⟩ => ?_) hs hw
  rw [h1]
  exact thn (hg pins s1 σ H1 x v _ I1 r1 q1) fun _ s2 q => q
/-- name = value -/
theorem ps_set {i : Nat} {x : Str} {e : Expr} {te : TE} {pos' : Pos} (hN : X.N.Nodup) (hi : X.N[i]? = some x) (hx : Loc X.env.scope x) (he : PE X e te) (hs : swapsWith e (some (.Name x pos')) pos.line X.env = pure false := by rfl) (hf : X.fn x = true ∨ X.env.scope.names.lookup x = some .local := by first | exact .inl rfl | exact .inr rfl | assumption) :
    PS X (.Assign [.Name x pos'] e pos) (tAsg te (gName i)) := by
  intro pins s σ H D I h
  refine wpAny_Assign_Name (thn (he pins s σ H _ I h) fun v s1 ⟨y, H1, I1, r1, q1⟩ => ?_) hs
  exact store_ok I1 hN hi hx r1 (fun s2 I2 => ⟨_, H1, I2, q1⟩) hf
/-- a, b = x, y with plain local names: stored from the right; the pair itself is not tracked (the opening rows as in PyProof/Rows/TupAssign.lean:23) -/
def tPar (i j : Nat) (ta : TA) : TS := fun D σ H => ta σ H fun vs H1 => ∃ v w, vs = [v, w] ∧ D.nx ((σ.set i (some v)).set j (some w)) H1
theorem ps_par {i j : Nat} {x y : Str} {a b : Expr} {ta : TA} {px py pt : Pos} {kt k2 pt2} (hc : X.calm = true) (hN : X.N.Nodup) (hi : X.N[i]? = some x) (hj : X.N[j]? = some y) (hij : i ≠ j)
    (hx : X.env.scope.names.lookup x = some .local) (hy : X.env.scope.names.lookup y = some .local) (ha : PA X [a, b] ta)
    (hw : swappedStores [.Tuple [.Name x px, .Name y py] kt pt] (.Tuple [a, b] k2 pt2) X.env = pure (some [x, y]))
    (hs : swapsWithSole [.Tuple [.Name x px, .Name y py] kt pt] (.Tuple [a, b] k2 pt2) pos.line X.env = pure false := by rfl) :
    PS X (.Assign [.Tuple [.Name x px, .Name y py] kt pt] (.Tuple [a, b] k2 pt2) pos) (tPar i j ta) := by
  intro pins s σ H D I h
  rw [exec_Assign_arm]
  refine wpAny_bind (wpAny_standAt ?_)
  rw [hs]
  refine wpAny_bind (wpAny_pure ?_)
  rw [if_neg (by decide)]
  refine wpAny_bind (Tuple_ (thn (ha _ pins s σ H _ I h) fun us s1 ⟨vs, H1, I1, r1, q1⟩ => ?_))
  obtain ⟨v, w, e1, q1⟩ := q1
  subst e1
  obtain ⟨u1, u2, rfl, rv, rw'⟩ : ∃ u1 u2, us = [u1, u2] ∧ RelV v u1 ∧ RelV w u2 := by
    cases r1 with
    | cons p q =>
      cases q with
      | cons p' q' =>
        cases q'
        exact ⟨_, _, rfl, p, p'⟩
  refine wpAny_newObj_type ?_ (by show 2 ≤ sizeLine; decide)
  have I2 : Inv X pins σ H1 { s1 with heap := s1.heap.push { cls := .type "tuple", data := .seq [u1, u2].toArray } } := I1.kept (t' := s1.toks) fun b o e => Heap.get?_push_of_some _ e
  rw [hw]
  refine wpAny_bind (wpAny_pure ?_)
  show wpAny (model X.prog X.w) X.A (do rule "assign.swapped-stores"; let items ← unpackItems (.ref s1.heap.objs.size) 2 none; assignInOrder [fun v => bindName X.env y v, fun v => bindName X.env x v] items.reverse; pure Flow.next) _ _ _
  refine wpAny_bind (wpAny_rule (wpAny_bind (unpackItems_tuple (items := #[u1, u2]) (I.ok.hd hc) (IsTup.new s1.heap _) fun h' hx' => ?_)))
  have I3 := I2.kept (h' := h') (t' := s1.toks) fun b o e => hx' b o (Nat.ne_of_lt (Heap.lt_size e)) e
  show wpAny _ _ (assignInOrder [fun v => bindName X.env y v, fun v => bindName X.env x v] [u2, u1] >>= fun _ => pure Flow.next) _ _ _
  refine wpAny_bind (assignInOrder_cons (wpAny_bindName (store_ok I3 hN hj (.inl hy) rw' (fun s2 I4 => ?_) (.inr hy))))
  refine assignInOrder_cons (wpAny_bindName (store_ok I4 hN hi (.inl hx) rv (fun s3 I5 => assignInOrder_nil (wpAny_pure ?_)) (.inr hx)))
  rw [List.set_comm _ _ (Ne.symm hij)] at I5
  exact ⟨_, H1, I5, q1⟩
/-- name op= e -/
def tAug (i : Nat) (te : TE) (ti : TIp) : TS := fun D σ H => ∃ x, σ[i]? = some (some x) ∧ te σ H fun y H1 => ti x y H1 fun z H2 => D.nx (σ.set i (some z)) H2
theorem ps_aug {i : Nat} {x : Str} {e : Expr} {te : TE} {op : Operator} {ti : TIp} {pos' : Pos} (hN : X.N.Nodup) (hi : X.N[i]? = some x) (hx : Loc X.env.scope x) (he : PE X e te) (ho : PIp X op ti) (hf : X.fn x = true ∨ X.env.scope.names.lookup x = some .local := by first | exact .inl rfl | exact .inr rfl | assumption) :
    PS X (.AugAssign (.Name x pos') op e pos) (tAug i te ti) := by
  intro pins s σ H D I h
  obtain ⟨v, e1, h⟩ := h
  obtain ⟨m, hn, hl⟩ := I.loc
  have vis : Vis X.env.scope x := by rcases hx with k | k; exact .inl k; exact .inr (.inl k)
  obtain ⟨u, r, l⟩ := hl i x v hi e1 vis
  refine wpAny_AugAssign_Name ?_
  have go : wpAny (model X.prog X.w) X.A (eval e X.env) (fun w s₂ => wpAny (model X.prog X.w) X.A (inplaceOp op u w) (fun r s₃ => wpAny (model X.prog X.w) X.A (storeName X.env x r) (fun _ => SP X pins D .next) X.xe s₃) X.xe s₂) X.xe s := by
    refine thn (he pins s σ H _ I h) fun w s1 ⟨y, H1, I1, r1, q1⟩ => ?_
    refine thn (ho pins s1 σ H1 v y u w _ I1 r r1 q1) fun z s2 ⟨zv, H2, I2, r2, q2⟩ => ?_
    exact store_ok I2 hN hi hx r2 (fun s3 I3 => ⟨_, H2, I3, q2⟩) hf
  rcases l with ⟨hk, hm⟩ | ⟨hk, c, hc, hcell⟩
  · exact wpAny_loadName_local I.ok.kind hk hn hm go
  · rcases hk with hk | hk
    · exact wpAny_loadName_cell I.ok.kind hk hc hcell go
    · rcases hx with k | k
      · have : X.env.scope.names.lookup x = some .free := hk
        rw [k] at this; cases this
      · have : X.env.scope.names.lookup x = some .free := hk
        rw [k] at this; cases this
/-- o[i] op= e -/
def tAugS (to ti te : TE) (tget : V → V → Hp → VK → Prop) (tip : TIp) (tset : TSet) : TS := fun D σ H => to σ H fun o H1 => ti σ H1 fun i H2 => tget o i H2 fun x H3 => te σ H3 fun y H4 => tip x y H4 fun z H5 => tset o i z H5 fun H6 => D.nx σ H6
/-- o[i], by values -/
def PGet (X : Cx) (t : V → V → Hp → VK → Prop) : Prop :=
  ∀ (pins : List (Addr × Obj)) (s : Shared) (σ : St) (H : Hp) (o i : V) (ov iv : Value) (Q : VK), Inv X pins σ H s → RelV o ov → RelV i iv → t o i H Q →
    wpAny (model X.prog X.w) X.A (getItem ov iv) (EP X pins σ Q) X.xe s
theorem ps_augS {o i e : Expr} {to ti te : TE} {tget : V → V → Hp → VK → Prop} {tip : TIp} {tset : TSet} {op : Operator} {tpos : Pos} (ho : PE X o to) (hi : PE X i ti) (hg : PGet X tget) (he : PE X e te) (hp : PIp X op tip) (hs : PSet X tset)
    (ha : ∀ ov iv new, augStore i ov iv new = (do holding [new, ov, iv] (setItem ov iv new); release [new, ov, iv] []; pure .next) := by intros; rfl) : PS X (.AugAssign (.Subscript o i tpos) op e pos) (tAugS to ti te tget tip tset) := by
  intro pins s σ H D I h
  refine wpAny_AugAssign_SubscriptAny (thn (ho pins s σ H _ I h) fun ov s1 ⟨x1, H1, I1, r1, q1⟩ => ?_) ha
  refine thn (hi pins s1 σ H1 _ I1 q1) fun iv s2 ⟨x2, H2, I2, r2, q2⟩ => ?_
  refine thn (hg pins s2 σ H2 x1 x2 ov iv _ I2 r1 r2 q2) fun old s3 ⟨x3, H3, I3, r3, q3⟩ => ?_
  refine thn (he pins s3 σ H3 _ I3 q3) fun v s4 ⟨x4, H4, I4, r4, q4⟩ => ?_
  refine thn (hp pins s4 σ H4 x3 x4 old v _ I4 r3 r4 q4) fun new s5 ⟨x5, H5, I5, r5, q5⟩ => ?_
  exact thn (hs pins s5 σ H5 x1 x2 x5 ov iv new _ I5 r1 r2 r5 q5) fun _ s6 ⟨H6, I6, q6⟩ => ⟨σ, H6, I6, q6⟩
/-- ints -/
def ipI (f : Int → Int → Int) : TIp := fun x y H Q => ∃ i j, x = .int i ∧ y = .int j ∧ Q (.int (f i j)) H
theorem ip_add : PIp X .Add (ipI fun i j => i + j) := by
  intro pins s σ H x y v u Q I r1 r2 h
  obtain ⟨i, j, e1, e2, q⟩ := h
  subst e1; subst e2
  obtain ⟨t, rfl⟩ := r1
  obtain ⟨t', rfl⟩ := r2
  exact iadd_int ⟨.int _, H, I.tok _, ⟨_, rfl⟩, q⟩
theorem ip_sub : PIp X .Sub (ipI fun i j => i - j) := by
  intro pins s σ H x y v u Q I r1 r2 h
  obtain ⟨i, j, e1, e2, q⟩ := h
  subst e1; subst e2
  obtain ⟨t, rfl⟩ := r1
  obtain ⟨t', rfl⟩ := r2
  exact isub_int ⟨.int _, H, I.tok _, ⟨_, rfl⟩, q⟩
end

/-! ### while -/
section
variable {X : Cx} {pos : Pos}
/-- the invariant W with its measure -/
def tWhile (c : TT) (tb : TS) : TS := fun D σ H => ∃ W : Nat → St → Hp → Prop, (∃ m, W m σ H) ∧ ∀ m σ H, W m σ H →
  c σ H fun b H1 => if b = true then ∃ N : St → Hp → Prop, (∀ σ' H', N σ' H' → ∃ m', m' < m ∧ W m' σ' H') ∧ tb { D with nx := N, ct := N, bk := D.nx } σ H1 else D.nx σ H1
theorem ps_while {c : Expr} {body : List Stmt} {tc : TT} {tb : TS} (hp : PassesOwn (model X.prog X.w) X.A X.env X.xe) (hc : PT X c tc) (hb : PSs X body tb) : PS X (.While c body [] pos) (tWhile tc tb) := by
  intro pins s σ H D I h
  obtain ⟨W, ⟨m0, w0⟩, turn⟩ := h
  refine wpAny_While (codeAny_whileLoop (fun n s' => ∃ σ' H', Inv X pins σ' H' s' ∧ W n σ' H') ?_ m0 ⟨σ, H, I, w0⟩)
  rintro n s1 ⟨σ1, H1, I1, w1⟩
  refine wpAny_passesOwn hp (thn (hc pins s1 σ1 H1 _ I1 (turn n σ1 H1 w1)) fun b s2 ⟨H2, I2, q2⟩ => ?_)
  cases b with
  | true =>
    obtain ⟨N, hN, q2⟩ := q2
    rw [if_pos rfl]
    refine wpAny_passesOwn hp (thn (hb pins s2 σ1 H2 _ I2 q2) fun f s3 q3 => ?_)
    cases f with
    | next =>
      obtain ⟨σ3, H3, I3, n3⟩ := q3
      obtain ⟨m', hm, w3⟩ := hN σ3 H3 n3
      exact ⟨m', hm, σ3, H3, I3, w3⟩
    | cont =>
      obtain ⟨σ3, H3, I3, n3⟩ := q3
      obtain ⟨m', hm, w3⟩ := hN σ3 H3 n3
      exact ⟨m', hm, σ3, H3, I3, w3⟩
    | brk => exact q3
    | ret v => exact q3
  | false =>
    rw [if_neg Bool.false_ne_true]
    exact wpAny_execs_nil ⟨σ1, H2, I2, q2⟩
end

/-! ### what a loop or a comprehension walks -/
/-- at turn i: it yields x (the heap may grow), or it stops -/
structure It where
  go : Nat → Hp → Prop
  yld : Nat → Hp → V → Hp → Prop
  stop : Nat → Hp → Prop
/-- the iterator's own objects may turn: they are not the frame's, not pinned, younger than the entry (or a comprehension's own) -/
def FpOk (X : Cx) (pins : List (Addr × Obj)) (H : Hp) (b : Addr) : Prop :=
  H b = none ∧ b ≠ X.env.locals ∧ b ∉ X.fs ∧ (b ∈ X.ex ∨ X.s₀.heap.objs.size ≤ b) ∧ (∀ x c, X.env.cells.lookup x = some c → c ≠ b) ∧ ∀ p ∈ X.pn ++ pins, p.1 ≠ b
theorem Inv.fpOk {X : Cx} {pins : List (Addr × Obj)} {σ : St} {H H' : Hp} {s : Shared} {b : Addr} (I : Inv X pins σ H s) (hb : s.heap.objs.size ≤ b) (hn : H' b = none) : FpOk X pins H' b := by
  refine ⟨hn, Nat.ne_of_gt (Nat.lt_of_lt_of_le I.lt hb), I.nofs hb, .inr (Nat.le_trans I.sz hb), fun x c e z => ?_, fun p hp z => ?_⟩
  · obtain ⟨v, q⟩ := I.cell x c e
    exact absurd (Nat.lt_of_lt_of_le q.lt (by rw [z]; exact hb)) (Nat.lt_irrefl _)
  · exact absurd (Nat.lt_of_lt_of_le (Heap.lt_size (I.pin p hp).1) (by rw [z]; exact hb)) (Nat.lt_irrefl _)
structure Turn (P : Program) (w : World) (K : PySem.W.Frag) (tg : Expr) (J : It) (fp : List Addr) (it : Addr) (tn : Nat → Heap → Prop) : Prop where
  mem : it ∈ fp
  obj : ∀ i h, tn i h → ∀ b ∈ fp, ∃ o, h.get? b = some o ∧ ∀ v, o.data ≠ .cell v
  keep : ∀ i h h', tn i h → (∀ b ∈ fp, ∀ o, h.get? b = some o → h'.get? b = some o) → tn i h'
  item : ∀ (X : Cx), X.prog = P → X.w = w → X.K = K → X.calm = true → ∀ (i : Nat) (pins : List (Addr × Obj)) (s : Shared) (σ : St) (H : Hp) (E : Value → Shared → Prop), Inv X pins σ H s → (∀ b ∈ fp, FpOk X pins H b) → tn i s.heap → J.go i H →
    wpAny (model P w) X.A (pyNext (.ref it)) (fun r s1 => ∃ u, r = some u ∧
      wpAny (model P w) X.A (letOwnedTupleGo tg (.ref it) u) (fun _ s2 => ∃ x H', Inv X pins σ H' s2 ∧ RelV x u ∧ J.yld i H x H' ∧ tn (i + 1) s2.heap ∧ ∀ b ∈ fp, H' b = none) E s1) E s
  done : ∀ (X : Cx), X.prog = P → X.w = w → X.K = K → X.calm = true → ∀ (i : Nat) (pins : List (Addr × Obj)) (s : Shared) (σ : St) (H : Hp) (E : Value → Shared → Prop), Inv X pins σ H s → (∀ b ∈ fp, FpOk X pins H b) → tn i s.heap → J.stop i H →
    wpAny (model P w) X.A (pyNext (.ref it)) (fun r s1 => r = none ∧ Inv X pins σ H s1) E s
  self : ∀ (A : Around) (i : Nat) (s : Shared) (Q : Value → Shared → Prop) (E : Value → Shared → Prop), tn i s.heap → Q (.ref it) s → wpAny (model P w) A (pyIter (.ref it)) Q E s
abbrev TI := St → Hp → (It → Hp → Prop) → Prop
/-- an iterator has come -/
def PIE (X : Cx) (pins : List (Addr × Obj)) (σ : St) (tg : Expr) (R : It → Hp → Prop) (itv : Value) (s2 : Shared) : Prop :=
  ∃ (it : Addr) (fp : List Addr) (tn : Nat → Heap → Prop) (J : It) (H' : Hp), itv = .ref it ∧ Inv X pins σ H' s2 ∧ Turn X.prog X.w X.K tg J fp it tn ∧ tn 0 s2.heap ∧ (∀ b ∈ fp, FpOk X pins H' b) ∧ R J H'
def PI (X : Cx) (tg iter : Expr) (wi : TI) : Prop :=
  ∀ (pins : List (Addr × Obj)) (s : Shared) (σ : St) (H : Hp) (R : It → Hp → Prop), Inv X pins σ H s → wi σ H R →
    wpAny (model X.prog X.w) X.A (eval iter X.env) (fun v s1 => wpAny (model X.prog X.w) X.A (pyIter v) (PIE X pins σ tg R) X.xe s1) X.xe s

/-- the step ahead of the store is nothing for an iterator that keeps no tuple -/
theorem go_of {M : Model} {A : Around} {E : Value → Shared → Prop} {s : Shared} {tg : Expr} {it : Addr} {u : Value} {o : Obj} {n : String} {vs : Array Value} {Q : Unit → Shared → Prop} (ho : s.heap.get? it = some o) (hc : o.cls = .type n) (hd : o.data = .fields vs)
    (hn : ["enumerate", "zip", "dict_itemiterator", "dict_reverseitemiterator", "odict_iterator", "itertools.zip_longest", "itertools.pairwise"].contains n = false) (hQ : Q () s) : wpAny M A (letOwnedTupleGo tg (.ref it) u) Q E s := by
  unfold letOwnedTupleGo
  cases tg <;> first
    | exact wpAny_pure hQ
    | (cases u <;> first
        | exact wpAny_pure hQ
        | (refine wpAny_bind (wpAny_load ho ?_)
           rw [hc, hd]
           show wpAny M A (if (["enumerate", "zip", "dict_itemiterator", "dict_reverseitemiterator", "odict_iterator", "itertools.zip_longest", "itertools.pairwise"].contains n && vs[0]? == some (rawInt _)) = true then _ else _) Q E s
           rw [if_neg (by intro h; rw [hn, Bool.false_and] at h; cases h)]
           exact wpAny_pure hQ))

/-- the list at a, as it stands at each turn (a loop may append to it) -/
def Itl (K : PySem.W.Frag) (a : Addr) : It :=
  ⟨fun i H => ∃ xs x, SqL K H a xs ∧ xs[i]? = some x, fun i H x H' => H' = H ∧ ∀ xs, SqL K H a xs → xs[i]? = some x, fun i H => ∃ xs, SqL K H a xs ∧ xs.length ≤ i⟩
def Itt (K : PySem.W.Frag) (a : Addr) : It :=
  ⟨fun i H => ∃ xs x, SqT K H a xs ∧ xs[i]? = some x, fun i H x H' => H' = H ∧ ∀ xs, SqT K H a xs → xs[i]? = some x, fun i H => ∃ xs, SqT K H a xs ∧ xs.length ≤ i⟩
/-- lo, lo + 1, .. (n of them) -/
def Itr (lo : Int) (n : Nat) : It := ⟨fun i _ => i < n, fun i H x H' => H' = H ∧ x = .int (lo + i), fun i _ => n ≤ i⟩
theorem turn_list {P : Program} {w : World} {K : PySem.W.Frag} {tg : Expr} (a it : Addr) : Turn P w K tg (Itl K a) [it] it (fun i h => h.IsListIter it a i) where
  mem := by simp
  obj := fun i h st b hb => by
    have e : b = it := by simpa using hb
    subst e
    obtain ⟨o, e, c, d⟩ := st
    exact ⟨o, e, fun v z => by rw [d] at z; cases z⟩
  keep := fun i h h' st k => st.at fun o e => k it (by simp) o e
  item := by
    intro X hP hw hK hc i pins s σ H E I hf st hg
    subst hP hw hK
    obtain ⟨xs, x, hq, hx⟩ := hg
    obtain ⟨its, rv, p, hz⟩ := I.list hq
    obtain ⟨u, hu, ru⟩ := rv.get hx
    obtain ⟨f0, f1, f2, f3, f4, f5⟩ := hf it (by simp)
    refine wpAny_pyNext_list_item st p.isList (x := u) (by simpa using hu) fun h' st' sb => ?_
    have I1 : Inv X pins σ H { s with heap := h' } := I.turned (t' := s.toks) (fun b o hb e => (sb.2 b hb).trans e) f0 f1 f3 f4 f5
    obtain ⟨o, e, c, d⟩ := id st'
    exact ⟨u, rfl, go_of (s := { s with heap := h' }) e c d (by decide) ⟨x, H, I1, ru, ⟨rfl, fun ys hy => by rw [I.list_inj hy hq]; exact hx⟩, st', fun b hb => (hf b hb).1⟩⟩
  done := by
    intro X hP hw hK hc i pins s σ H E I hf st hg
    subst hP hw hK
    obtain ⟨xs, hq, hx⟩ := hg
    obtain ⟨its, rv, p, hz⟩ := I.list hq
    obtain ⟨f0, f1, f2, f3, f4, f5⟩ := hf it (by simp)
    have hl := rv.length
    exact wpAny_pyNext_list_end (I.ok.hd hc) st p.isList (by simp; omega) fun h' eb => ⟨rfl, I.turned (t' := s.toks) (fun b o hb e => eb b o hb e) f0 f1 f3 f4 f5⟩
  self := fun _ _ _ _ _ st h => wpAny_pyIter_listiter st h
theorem turn_tuple {P : Program} {w : World} {K : PySem.W.Frag} {tg : Expr} (a it : Addr) : Turn P w K tg (Itt K a) [it] it (fun i h => h.IsTupleIter it a i) where
  mem := by simp
  obj := fun i h st b hb => by
    have e : b = it := by simpa using hb
    subst e
    obtain ⟨o, e, c, d⟩ := st
    exact ⟨o, e, fun v z => by rw [d] at z; cases z⟩
  keep := fun i h h' st k => st.at fun o e => k it (by simp) o e
  item := by
    intro X hP hw hK hc i pins s σ H E I hf st hg
    subst hP hw hK
    obtain ⟨xs, x, hq, hx⟩ := hg
    obtain ⟨its, rv, p, hz⟩ := I.tuple hq
    obtain ⟨u, hu, ru⟩ := rv.get hx
    obtain ⟨f0, f1, f2, f3, f4, f5⟩ := hf it (by simp)
    refine wpAny_pyNext_tuple_item st (show s.heap.IsTuple a its.toArray from p) (x := u) (by simpa using hu) fun h' st' sb => ?_
    have I1 : Inv X pins σ H { s with heap := h' } := I.turned (t' := s.toks) (fun b o hb e => (sb.2 b hb).trans e) f0 f1 f3 f4 f5
    obtain ⟨o, e, c, d⟩ := id st'
    exact ⟨u, rfl, go_of (s := { s with heap := h' }) e c d (by decide) ⟨x, H, I1, ru, ⟨rfl, fun ys hy => by rw [I.tuple_inj hy hq]; exact hx⟩, st', fun b hb => (hf b hb).1⟩⟩
  done := by
    intro X hP hw hK hc i pins s σ H E I hf st hg
    subst hP hw hK
    obtain ⟨xs, hq, hx⟩ := hg
    obtain ⟨its, rv, p, hz⟩ := I.tuple hq
    obtain ⟨f0, f1, f2, f3, f4, f5⟩ := hf it (by simp)
    have hl := rv.length
    exact wpAny_pyNext_tuple_end (I.ok.hd hc) st (show s.heap.IsTuple a its.toArray from p) (by simp; omega) fun h' eb => ⟨rfl, I.turned (t' := s.toks) (fun b o hb e => eb b o hb e) f0 f1 f3 f4 f5⟩
  self := fun _ _ _ _ _ st h => wpAny_pyIter_tupleiter st h
theorem turn_range {P : Program} {w : World} {K : PySem.W.Frag} {tg : Expr} (it : Addr) (lo : Int) (n : Nat) : Turn P w K tg (Itr lo n) [it] it (fun i h => IsRangeIter h it (lo + (i : Nat) * 1) ((n : Int) - (i : Nat)) 1) where
  mem := by simp
  obj := fun i h st b hb => by
    have e : b = it := by simpa using hb
    subst e
    exact ⟨_, st, fun v z => by
      have z' : Data.fields _ = Data.cell v := z
      cases z'⟩
  keep := fun i h h' st k => k it (by simp) _ st
  item := by
    intro X hP hw hK hc i pins s σ H E I hf st hg
    subst hP hw hK
    obtain ⟨f0, f1, f2, f3, f4, f5⟩ := hf it (by simp)
    have W := Walks.range (prog := X.prog) (w := X.w) (I.ok.hd hc) it lo 1 n
    refine W.item i s _ _ hg st fun v h' tk hv st' kk => ?_
    obtain ⟨t, rfl⟩ := hv
    have I1 : Inv X pins σ H { s with heap := h', toks := tk } := I.turned (fun b o hb e => kk b o (by simpa using hb) e) f0 f1 f3 f4 f5
    refine ⟨_, rfl, go_of (s := { s with heap := h', toks := tk }) (n := "range_iterator") st' rfl rfl (by decide) ⟨.int (lo + i), H, I1, ⟨t, ?_⟩, ⟨rfl, rfl⟩, st', fun b hb => (hf b hb).1⟩⟩
    rw [Int.mul_one]
  done := by
    intro X hP hw hK hc i pins s σ H E I hf st hg
    subst hP hw hK
    obtain ⟨f0, f1, f2, f3, f4, f5⟩ := hf it (by simp)
    exact wpAny_pyNext_range_end (I.ok.hd hc) st (by have : n ≤ i := hg; omega) fun h' eb => ⟨rfl, I.turned (t' := s.toks) (fun b o hb e => eb b o hb e) f0 f1 f3 f4 f5⟩
  self := fun _ _ _ _ _ st h => wpAny_pyIter_rangeiter st h
end L2

namespace L2
open PySem PySem.Spec PyProof.Rows
section
variable {X : Cx} {tg : Expr}
def iList (K : PySem.W.Frag) (tl : TE) : TI := fun σ H R => tl σ H fun x H1 => ∃ a, x = .ref a ∧ (∃ xs, SqL K H1 a xs) ∧ R (Itl K a) H1
def iTup (K : PySem.W.Frag) (tl : TE) : TI := fun σ H R => tl σ H fun x H1 => ∃ a, x = .ref a ∧ (∃ xs, SqT K H1 a xs) ∧ R (Itt K a) H1
theorem pi_list {l : Expr} {tl : TE} (hl : PE X l tl) : PI X tg l (iList X.K tl) := by
  intro pins s σ H R I h
  refine thn (hl pins s σ H _ I h) fun v s1 ⟨x, H1, I1, r1, q1⟩ => ?_
  obtain ⟨a, e, ⟨xs, hq⟩, q⟩ := q1
  subst e
  cases r1
  obtain ⟨its, rv, p, hz⟩ := I1.list hq
  refine wpAny_pyIter_list p.isList ?_
  refine ⟨s1.heap.objs.size, [s1.heap.objs.size], _, _, H1, rfl, I1.kept (t' := s1.toks) fun b o e => Heap.get?_push_of_some _ e, turn_list a _, ⟨_, Heap.get?_push_size _ rfl, rfl, rfl⟩, fun b hb => ?_, q⟩
  have e : b = s1.heap.objs.size := by simpa using hb
  subst e
  exact I1.fpOk (Nat.le_refl _) (I1.hok.fresh (Nat.le_refl _))
theorem pi_tup {l : Expr} {tl : TE} (hl : PE X l tl) : PI X tg l (iTup X.K tl) := by
  intro pins s σ H R I h
  refine thn (hl pins s σ H _ I h) fun v s1 ⟨x, H1, I1, r1, q1⟩ => ?_
  obtain ⟨a, e, ⟨xs, hq⟩, q⟩ := q1
  subst e
  cases r1
  obtain ⟨its, rv, p, hz⟩ := I1.tuple hq
  refine wpAny_pyIter_tuple (show s1.heap.IsTuple a its.toArray from p) ?_
  refine ⟨s1.heap.objs.size, [s1.heap.objs.size], _, _, H1, rfl, I1.kept (t' := s1.toks) fun b o e => Heap.get?_push_of_some _ e, turn_tuple a _, ⟨_, Heap.get?_push_size _ rfl, rfl, rfl⟩, fun b hb => ?_, q⟩
  have e : b = s1.heap.objs.size := by simpa using hb
  subst e
  exact I1.fpOk (Nat.le_refl _) (I1.hok.fresh (Nat.le_refl _))
/-- a range object just made, walked -/
theorem range_it {pins : List (Addr × Obj)} {σ : St} {H : Hp} {s : Shared} {R : It → Hp → Prop} {E : Value → Shared → Prop} {lo hi : Int} {t u v : Tok} {tk : Nat} (I : Inv X pins σ H s) (h1 : -(2 ^ 62) ≤ lo) (h2 : lo < 2 ^ 62) (h3 : -(2 ^ 62) ≤ hi) (h4 : hi < 2 ^ 62)
    (q : R (Itr lo (hi - lo).toNat) H) : wpAny (model X.prog X.w) X.A (pyIter (.ref s.heap.objs.size)) (PIE X pins σ tg R) E { s with heap := s.heap.push { cls := .type "range", data := .fields #[.int lo t, .int hi u, .int 1 v] }, toks := tk } := by
  refine wpAny_pyIter_range (IsRange.new ..) (small_one h1 h2 h3 h4) ?_
  have I1 : Inv X pins σ H { s with heap := s.heap.push { cls := .type "range", data := .fields #[.int lo t, .int hi u, .int 1 v] }, toks := tk } := I.kept fun b o e => Heap.get?_push_of_some _ e
  refine ⟨(s.heap.push { cls := .type "range", data := .fields #[.int lo t, .int hi u, .int 1 v] }).objs.size, [(s.heap.push { cls := .type "range", data := .fields #[.int lo t, .int hi u, .int 1 v] }).objs.size], _, _, H, rfl,
    I1.kept (t' := tk) fun b o e => Heap.get?_push_of_some _ e, turn_range _ lo (hi - lo).toNat, ?_, fun b hb => ?_, q⟩
  · have e1 : lo + ((0 : Nat) : Int) * 1 = lo := by simp
    have e2 : (((hi - lo).toNat : Nat) : Int) - ((0 : Nat) : Int) = Builtin.Range.rangeSize lo hi 1 := by rw [rangeSize_one]; split <;> omega
    show IsRangeIter _ _ (lo + ((0 : Nat) : Int) * 1) ((((hi - lo).toNat : Nat) : Int) - ((0 : Nat) : Int)) 1
    rw [e1, e2]
    exact Heap.get?_push_size _ rfl
  · have e : b = (s.heap.push { cls := .type "range", data := .fields #[.int lo t, .int hi u, .int 1 v] }).objs.size := by simpa using hb
    subst e
    exact I1.fpOk (Nat.le_refl _) (I1.hok.fresh (Nat.le_refl _))
def iRng1 (ta : TA) : TI := fun σ H R => ta σ H fun vs H1 => ∃ j : Int, vs = [.int j] ∧ -(2 ^ 62) ≤ j ∧ j < 2 ^ 62 ∧ R (Itr 0 j.toNat) H1
def iRng2 (ta : TA) : TI := fun σ H R => ta σ H fun vs H1 => ∃ i j : Int, vs = [.int i, .int j] ∧ (-(2 ^ 62) ≤ i ∧ i < 2 ^ 62 ∧ -(2 ^ 62) ≤ j ∧ j < 2 ^ 62) ∧ R (Itr i (j - i).toNat) H1
theorem pi_range1 {a : Expr} {ta : TA} {p pos : Pos} (hg : Gl X "range") (hm : X.mg "range" = none) (ha : PA X [a] ta) (hs : starEach [a] X.env = [(false, eval a X.env)] := by rfl) : PI X tg (.Call (.Name "range" p) [a] [] pos) (iRng1 ta) := by
  intro pins s σ H R I h
  refine Call_ (ld_blt I hg hm boot_range (PyProof.Rows.callWith_type1 (thn (ha pos pins s σ H _ I h) fun us s1 ⟨vs, H1, I1, r1, q1⟩ => ?_) hs rfl))
  obtain ⟨j, e, q1, q2, q⟩ := q1
  subst e
  cases r1 with
  | cons r rr =>
    cases rr
    obtain ⟨t, rfl⟩ := r
    exact call_range_1 (range_it I1 (by omega) (by omega) q1 q2 (by simpa using q))
theorem pi_range2 {a b : Expr} {ta : TA} {p pos : Pos} (hg : Gl X "range") (hm : X.mg "range" = none) (ha : PA X [a, b] ta) (hs : starEach [a, b] X.env = [(false, eval a X.env), (false, eval b X.env)] := by rfl) (hs2 : starEach [b] X.env = [(false, eval b X.env)] := by rfl) :
    PI X tg (.Call (.Name "range" p) [a, b] [] pos) (iRng2 ta) := by
  intro pins s σ H R I h
  refine Call_ (ld_blt I hg hm boot_range (PyProof.Rows.callWith_type1 (thn (ha pos pins s σ H _ I h) fun us s1 ⟨vs, H1, I1, r1, q1⟩ => ?_) (by rw [hs, hs2]) (by rw [hs2]; rfl)))
  obtain ⟨i, j, e, ⟨q1, q2, q3, q4⟩, q⟩ := q1
  subst e
  cases r1 with
  | cons r rr =>
    cases rr with
    | cons r' rr =>
      cases rr
      obtain ⟨t, rfl⟩ := r
      obtain ⟨t', rfl⟩ := r'
      exact call_range_2 (range_it I1 q1 q2 q3 q4 q)

/-! ### for -/
/-- W: the invariant by the turn and a measure; N: what the body is to reach -/
def tFor (wi : TI) (g : TG) (tb : TS) : TS := fun D σ H => wi σ H fun J H1 => ∃ W : Nat → Nat → St → Hp → Prop, (∃ m, W 0 m σ H1) ∧ ∀ i m σ H, W i m σ H →
  (J.stop i H ∧ D.nx σ H) ∨ (J.go i H ∧ ∃ N : St → Hp → Prop, (∀ σ' H', N σ' H' → ∃ m', m' < m ∧ W (i + 1) m' σ' H') ∧ ∀ x H', J.yld i H x H' → g x σ H' fun σ2 H2 => tb { D with nx := N, ct := N, bk := D.nx } σ2 H2)
/-- the records at fp as they stand -/
def pinsAt (fp : List Addr) (h : Heap) : List (Addr × Obj) := fp.filterMap fun b => (h.get? b).map fun o => (b, o)
theorem mem_pinsAt {fp : List Addr} {h : Heap} {b : Addr} {o : Obj} (hb : b ∈ fp) (e : h.get? b = some o) : (b, o) ∈ pinsAt fp h := List.mem_filterMap.mpr ⟨b, hb, by rw [e]; rfl⟩
theorem of_pinsAt {fp : List Addr} {h : Heap} {p : Addr × Obj} (hp : p ∈ pinsAt fp h) : p.1 ∈ fp ∧ h.get? p.1 = some p.2 := by
  obtain ⟨b, hb, e⟩ := List.mem_filterMap.mp hp
  cases q : h.get? b with
  | none => rw [q] at e; cases e
  | some o =>
    rw [q] at e
    have e' : (b, o) = p := Option.some.inj e
    subst e'
    exact ⟨hb, q⟩
theorem Inv.pinned {pins : List (Addr × Obj)} {σ : St} {H : Hp} {s : Shared} {fp : List Addr} (I : Inv X pins σ H s) (hf : ∀ b ∈ fp, FpOk X pins H b) (ho : ∀ b ∈ fp, ∃ o, s.heap.get? b = some o ∧ ∀ v, o.data ≠ .cell v) : Inv X (pins ++ pinsAt fp s.heap) σ H s :=
  I.pins_of fun p hp => (List.mem_append.mp hp).elim (fun z => I.pin p (List.mem_append_right _ z)) fun z => by
    obtain ⟨hb, e⟩ := of_pinsAt z
    obtain ⟨f0, f1, f2, _⟩ := hf p.1 hb
    obtain ⟨o, e', d⟩ := ho p.1 hb
    rw [e] at e'; cases e'
    exact ⟨e, f0, f1, f2, d⟩
theorem Inv.unpinned {pins pl : List (Addr × Obj)} {σ : St} {H : Hp} {s : Shared} (I : Inv X (pins ++ pl) σ H s) : Inv X pins σ H s := I.pins_of fun p hp => I.pin p (List.mem_append_right _ (List.mem_append_left _ hp))
theorem ps_for {iter : Expr} {body : List Stmt} {wi : TI} {g : TG} {tb : TS} {pos : Pos} (hp : PassesOwn (model X.prog X.w) X.A X.env X.xe) (hc : X.calm = true) (hi : PI X tg iter wi) (hg : PG X tg g) (hb : PSs X body tb)
    (hs : ∀ x, foldedSetIterable iter X.env x = pure x := by intro _; rfl) : PS X (.For tg iter body [] pos) (tFor wi g tb) := by
  intro pins s σ H D I h
  refine wpAny_For (thn (hi pins s σ H _ I h) fun v s1 h1 => thn h1 fun itv s2 h2 => ?_) hs
  obtain ⟨it, fp, tn, J, H2, e, I2, T, st2, f2, W, ⟨m0, w0⟩, turn⟩ := h2
  subst e
  -- what stays true of the iterator's objects through the loop
  have stat : ∀ {H' : Hp}, (∀ b ∈ fp, H' b = none) → ∀ b ∈ fp, FpOk X pins H' b := fun hn b hb => ⟨hn b hb, (f2 b hb).2⟩
  refine codeAny_forLoop_any (fun n s' => ∃ i σ' H', Inv X pins σ' H' s' ∧ tn i s'.heap ∧ (∀ b ∈ fp, H' b = none) ∧ W i n σ' H') ?_ m0 ⟨0, σ, H2, I2, st2, fun b hb => (f2 b hb).1, w0⟩
  rintro n s3 ⟨i, σ3, H3, I3, st3, fr3, w3⟩
  rcases turn i n σ3 H3 w3 with ⟨stop, qn⟩ | ⟨go, N, hN, step⟩
  · refine wpAny_passesOwn hp (thn (T.done X rfl rfl rfl hc i pins s3 σ3 H3 X.xe I3 (stat fr3) st3 stop) fun r s4 ⟨hr, I4⟩ => ?_)
    subst hr
    exact wpAny_execs_nil ⟨σ3, H3, I4, qn⟩
  · refine wpAny_passesOwn hp (thn (T.item X rfl rfl rfl hc i pins s3 σ3 H3 X.xe I3 (stat fr3) st3 go) fun r s4 ⟨u, hr, h4⟩ => ?_)
    subst hr
    refine wpAny_passesOwn hp (thn h4 fun _ s5 ⟨x, H5, I5, r5, y5, st5, fr5⟩ => ?_)
    have I5' := I5.pinned (stat fr5) (T.obj _ _ st5)
    refine wpAny_passesOwn hp (thn (hg _ s5 σ3 H5 x u _ I5' r5 (step x H5 y5)) fun _ s6 ⟨σ6, H6, I6, q6⟩ => ?_)
    refine wpAny_passesOwn hp (thn (hb _ s6 σ6 H6 _ I6 q6) fun f s7 q7 => ?_)
    have again : ∀ {σ7 : St} {H7 : Hp}, Inv X (pins ++ pinsAt fp s5.heap) σ7 H7 s7 → N σ7 H7 → ∃ m, m < n ∧ ∃ i σ' H', Inv X pins σ' H' s7 ∧ tn i s7.heap ∧ (∀ b ∈ fp, H' b = none) ∧ W i m σ' H' := fun {σ7 H7} I7 n7 => by
      obtain ⟨m', hm, w7⟩ := hN σ7 H7 n7
      refine ⟨m', hm, i + 1, σ7, H7, I7.unpinned, T.keep _ _ _ st5 fun b hb o e => (I7.pin (b, o) (List.mem_append_right _ (List.mem_append_right _ (mem_pinsAt hb e)))).1, fun b hb => ?_, w7⟩
      obtain ⟨o, e, d⟩ := T.obj _ _ st5 b hb
      exact (I7.pin (b, o) (List.mem_append_right _ (List.mem_append_right _ (mem_pinsAt hb e)))).2.1
    cases f with
    | next => obtain ⟨σ7, H7, I7, n7⟩ := q7; exact again I7 n7
    | cont => obtain ⟨σ7, H7, I7, n7⟩ := q7; exact again I7 n7
    | brk => obtain ⟨σ7, H7, I7, q7⟩ := q7; exact ⟨σ7, H7, I7.unpinned, q7⟩
    | ret v => obtain ⟨x7, σ7, H7, I7, r7, q7⟩ := q7; exact ⟨x7, σ7, H7, I7.unpinned, r7, q7⟩
end

/-! ### the forms one uses -/
/-- over a list that the body leaves as it is -/
theorem for_list {K : PySem.W.Frag} {a : Addr} {xs : List V} {g : TG} {tb : TS} {D : Ends} {σ : St} {H : Hp} (Pv : Nat → St → Hp → Prop) (h0 : Pv 0 σ H) (hl : ∀ i σ H, i ≤ xs.length → Pv i σ H → SqL K H a xs)
    (hs : ∀ i x σ H, xs[i]? = some x → Pv i σ H → g x σ H fun σ2 H2 => tb { D with nx := Pv (i + 1), ct := Pv (i + 1), bk := D.nx } σ2 H2) (hd : ∀ σ H, Pv xs.length σ H → D.nx σ H) :
    ∃ W : Nat → Nat → St → Hp → Prop, (∃ m, W 0 m σ H) ∧ ∀ i m σ H, W i m σ H →
      ((Itl K a).stop i H ∧ D.nx σ H) ∨ ((Itl K a).go i H ∧ ∃ N : St → Hp → Prop, (∀ σ' H', N σ' H' → ∃ m', m' < m ∧ W (i + 1) m' σ' H') ∧ ∀ x H', (Itl K a).yld i H x H' → g x σ H' fun σ2 H2 => tb { D with nx := N, ct := N, bk := D.nx } σ2 H2) := by
  refine ⟨fun i m σ H => m = xs.length - i ∧ i ≤ xs.length ∧ Pv i σ H, ⟨xs.length, by simp, Nat.zero_le _, h0⟩, ?_⟩
  rintro i m σ H ⟨rfl, hi, p⟩
  have q := hl i σ H hi p
  by_cases hlt : i < xs.length
  · refine .inr ⟨⟨xs, xs[i], q, by simp [hlt]⟩, Pv (i + 1), fun σ' H' p' => ⟨xs.length - (i + 1), by omega, rfl, hlt, p'⟩, fun x H' y => ?_⟩
    obtain ⟨e, y⟩ := y
    subst e
    exact hs i x σ _ (y xs q) p
  · have e : i = xs.length := by omega
    subst e
    exact .inl ⟨⟨xs, q, Nat.le_refl _⟩, hd σ H p⟩
theorem for_tup {K : PySem.W.Frag} {a : Addr} {xs : List V} {g : TG} {tb : TS} {D : Ends} {σ : St} {H : Hp} (Pv : Nat → St → Hp → Prop) (h0 : Pv 0 σ H) (hl : ∀ i σ H, i ≤ xs.length → Pv i σ H → SqT K H a xs)
    (hs : ∀ i x σ H, xs[i]? = some x → Pv i σ H → g x σ H fun σ2 H2 => tb { D with nx := Pv (i + 1), ct := Pv (i + 1), bk := D.nx } σ2 H2) (hd : ∀ σ H, Pv xs.length σ H → D.nx σ H) :
    ∃ W : Nat → Nat → St → Hp → Prop, (∃ m, W 0 m σ H) ∧ ∀ i m σ H, W i m σ H →
      ((Itt K a).stop i H ∧ D.nx σ H) ∨ ((Itt K a).go i H ∧ ∃ N : St → Hp → Prop, (∀ σ' H', N σ' H' → ∃ m', m' < m ∧ W (i + 1) m' σ' H') ∧ ∀ x H', (Itt K a).yld i H x H' → g x σ H' fun σ2 H2 => tb { D with nx := N, ct := N, bk := D.nx } σ2 H2) := by
  refine ⟨fun i m σ H => m = xs.length - i ∧ i ≤ xs.length ∧ Pv i σ H, ⟨xs.length, by simp, Nat.zero_le _, h0⟩, ?_⟩
  rintro i m σ H ⟨rfl, hi, p⟩
  have q := hl i σ H hi p
  by_cases hlt : i < xs.length
  · refine .inr ⟨⟨xs, xs[i], q, by simp [hlt]⟩, Pv (i + 1), fun σ' H' p' => ⟨xs.length - (i + 1), by omega, rfl, hlt, p'⟩, fun x H' y => ?_⟩
    obtain ⟨e, y⟩ := y
    subst e
    exact hs i x σ _ (y xs q) p
  · have e : i = xs.length := by omega
    subst e
    exact .inl ⟨⟨xs, q, Nat.le_refl _⟩, hd σ H p⟩
theorem for_range {lo : Int} {n : Nat} {g : TG} {tb : TS} {D : Ends} {σ : St} {H : Hp} (Pv : Nat → St → Hp → Prop) (h0 : Pv 0 σ H)
    (hs : ∀ i σ H, i < n → Pv i σ H → g (.int (lo + i)) σ H fun σ2 H2 => tb { D with nx := Pv (i + 1), ct := Pv (i + 1), bk := D.nx } σ2 H2) (hd : ∀ σ H, Pv n σ H → D.nx σ H) :
    ∃ W : Nat → Nat → St → Hp → Prop, (∃ m, W 0 m σ H) ∧ ∀ i m σ H, W i m σ H →
      ((Itr lo n).stop i H ∧ D.nx σ H) ∨ ((Itr lo n).go i H ∧ ∃ N : St → Hp → Prop, (∀ σ' H', N σ' H' → ∃ m', m' < m ∧ W (i + 1) m' σ' H') ∧ ∀ x H', (Itr lo n).yld i H x H' → g x σ H' fun σ2 H2 => tb { D with nx := N, ct := N, bk := D.nx } σ2 H2) := by
  refine ⟨fun i m σ H => m = n - i ∧ i ≤ n ∧ Pv i σ H, ⟨n, by simp, Nat.zero_le _, h0⟩, ?_⟩
  rintro i m σ H ⟨rfl, hi, p⟩
  by_cases hlt : i < n
  · refine .inr ⟨hlt, Pv (i + 1), fun σ' H' p' => ⟨n - (i + 1), by omega, rfl, hlt, p'⟩, fun x H' y => ?_⟩
    obtain ⟨e, y⟩ := y
    subst e y
    exact hs i σ _ hlt p
  · have e : i = n := by omega
    subst e
    exact .inl ⟨Nat.le_refl _, hd σ H p⟩
/-- while, by a word and a measure of the state -/
theorem while_by {c : TT} {tb : TS} {D : Ends} {σ : St} {H : Hp} (Pv : St → Hp → Prop) (μ : St → Hp → Nat) (h0 : Pv σ H)
    (hs : ∀ σ H, Pv σ H → c σ H fun b H1 => if b = true then tb { D with nx := fun σ' H' => Pv σ' H' ∧ μ σ' H' < μ σ H, ct := fun σ' H' => Pv σ' H' ∧ μ σ' H' < μ σ H, bk := D.nx } σ H1 else D.nx σ H1)
    (mono : ∀ σ H Q Q', (∀ b H1, Q b H1 → Q' b H1) → c σ H Q → c σ H Q') : tWhile c tb D σ H := by
  refine ⟨fun m σ H => m = μ σ H ∧ Pv σ H, ⟨_, rfl, h0⟩, ?_⟩
  rintro m σ H ⟨rfl, p⟩
  refine mono σ H _ _ (fun b H1 q => ?_) (hs σ H p)
  cases b with
  | true => exact ⟨_, fun σ' H' ⟨p', l⟩ => ⟨_, l, rfl, p'⟩, q⟩
  | false => exact q
end L2

namespace L2
open PySem PySem.Spec PyProof.Rows

abbrev R2 := V → V → Hp → VK → Prop
/-- a two-place operation on values: f is binaryOp op, inplaceOp op or compareOp op -/
def OpR (X : Cx) (f : Value → Value → Sem Value) (r : R2) : Prop :=
  ∀ (pins : List (Addr × Obj)) (s : Shared) (σ : St) (H : Hp) (x y : V) (v u : Value) (Q : VK), Inv X pins σ H s → RelV x v → RelV y u → r x y H Q →
    wpAny (model X.prog X.w) X.A (f v u) (EP X pins σ Q) X.xe s
/-- a one-place operation -/
def UnR (X : Cx) (f : Value → Sem Value) (r : V → Hp → VK → Prop) : Prop :=
  ∀ (pins : List (Addr × Obj)) (s : Shared) (σ : St) (H : Hp) (x : V) (v : Value) (Q : VK), Inv X pins σ H s → RelV x v → r x H Q →
    wpAny (model X.prog X.w) X.A (f v) (EP X pins σ Q) X.xe s
/-- a call of a value that is known (a builtin, a type) with values -/
def CallR (X : Cx) (f : Value) (r : List V → Hp → VK → Prop) : Prop :=
  ∀ (pins : List (Addr × Obj)) (s : Shared) (σ : St) (H : Hp) (xs : List V) (us : List Value) (Q : VK), Inv X pins σ H s → Vals xs us → r xs H Q →
    wpAny (model X.prog X.w) X.A (call f us) (EP X pins σ Q) X.xe s
/-- a value's truth -/
def TruR (X : Cx) (r : V → Hp → (Bool → Hp → Prop) → Prop) : Prop :=
  ∀ (pins : List (Addr × Obj)) (s : Shared) (σ : St) (H : Hp) (x : V) (v : Value) (Q : Bool → Hp → Prop), Inv X pins σ H s → RelV x v → r x H Q →
    wpAny (model X.prog X.w) X.A (truthy v) (TP X pins σ Q) X.xe s

def tOp (r : R2) (ta tb : TE) : TE := fun σ H Q => ta σ H fun x H1 => tb σ H1 fun y H2 => r x y H2 Q
def tUn (r : V → Hp → VK → Prop) (ta : TE) : TE := fun σ H Q => ta σ H fun x H1 => r x H1 Q
/-- ints in, under C, and a value out -/
def rI (C : Int → Int → Prop) (g : Int → Int → V) : R2 := fun x y H Q => ∃ i j, x = .int i ∧ y = .int j ∧ C i j ∧ Q (g i j) H
def rI0 (g : Int → Int → V) : R2 := fun x y H Q => ∃ i j, x = .int i ∧ y = .int j ∧ Q (g i j) H
def rU (g : Int → V) : V → Hp → VK → Prop := fun x H Q => ∃ i, x = .int i ∧ Q (g i) H

section
variable {X : Cx} {a b c : Expr} {ta tb tc : TE} {pos : Pos}

theorem binT (ha : PE X a ta) (hb : PE X b tb) {pins : List (Addr × Obj)} {s : Shared} {σ : St} {H : Hp} {R : V → V → Hp → Prop} (I : Inv X pins σ H s)
    (h : ta σ H fun x H1 => tb σ H1 fun y H2 => R x y H2) {Q : Value → Shared → Prop} {f : Value → Value → Sem Value}
    (hf : ∀ v u s2 x y H2, Inv X pins σ H2 s2 → RelV x v → RelV y u → R x y H2 → wpAny (model X.prog X.w) X.A (f v u) Q X.xe s2) :
    wpAny (model X.prog X.w) X.A (eval a X.env) (fun v s₁ => wpAny (model X.prog X.w) X.A (eval b X.env) (fun u s₂ => wpAny (model X.prog X.w) X.A (f v u) Q X.xe s₂) X.xe s₁) X.xe s := by
  refine thn (ha pins s σ H _ I h) fun v s1 ⟨x, H1, I1, r1, q1⟩ => ?_
  refine thn (hb pins s1 σ H1 _ I1 q1) fun u s2 ⟨y, H2, I2, r2, q2⟩ => ?_
  exact hf v u s2 x y H2 I2 r1 r2 q2

theorem pe_op {op : Operator} {r : R2} (ho : OpR X (binaryOp op) r) (ha : PE X a ta) (hb : PE X b tb) : PE X (.BinOp a op b pos) (tOp r ta tb) := by
  intro pins s σ H Q I h
  exact wpAny_BinOp (binT ha hb I h fun v u s2 x y H2 I2 rx ry q => ho pins s2 σ H2 x y v u Q I2 rx ry q)
theorem pe_un {op : UnaryOp} {r : V → Hp → VK → Prop} (ho : UnR X (unaryOp op) r) (ha : PE X a ta) : PE X (.UnaryOp op a pos) (tUn r ta) := by
  intro pins s σ H Q I h
  exact UnaryOp_ (thn (ha pins s σ H _ I h) fun v s1 ⟨x, H1, I1, r1, q1⟩ => ho pins s1 σ H1 x v Q I1 r1 q1)
/-- a op= e at a name: the name's slot i -/
theorem augR {op : Operator} {r : R2} (ho : OpR X (inplaceOp op) r) {pins : List (Addr × Obj)} {s : Shared} {σ : St} {H : Hp} {x y : V} {v u : Value} {Q : VK} (I : Inv X pins σ H s)
    (rx : RelV x v) (ry : RelV y u) (q : r x y H Q) : wpAny (model X.prog X.w) X.A (inplaceOp op v u) (EP X pins σ Q) X.xe s := ho pins s σ H x y v u Q I rx ry q

/-! ### ints -/
theorem opI {f : Value → Value → Sem Value} {C : Int → Int → Prop} {g : Int → Int → Int}
    (rule : ∀ (i j : Int) (t u : Tok) (s : Shared) (Q : Value → Shared → Prop) (E : Value → Shared → Prop), C i j → Q (.int (g i j) s.toks) { s with toks := s.toks + 1 } → wpAny (model X.prog X.w) X.A (f (.int i t) (.int j u)) Q E s) :
    OpR X f (rI C fun i j => .int (g i j)) := by
  intro pins s σ H x y v u Q I rx ry h
  obtain ⟨i, j, rfl, rfl, hc, q⟩ := h
  obtain ⟨t, rfl⟩ := rx
  obtain ⟨t', rfl⟩ := ry
  exact rule i j t t' s _ _ hc ⟨.int (g i j), H, I.tok _, ⟨_, rfl⟩, q⟩
theorem opI0 {f : Value → Value → Sem Value} {g : Int → Int → Int}
    (rule : ∀ (i j : Int) (t u : Tok) (s : Shared) (Q : Value → Shared → Prop) (E : Value → Shared → Prop), Q (.int (g i j) s.toks) { s with toks := s.toks + 1 } → wpAny (model X.prog X.w) X.A (f (.int i t) (.int j u)) Q E s) :
    OpR X f (rI0 fun i j => .int (g i j)) := by
  intro pins s σ H x y v u Q I rx ry h
  obtain ⟨i, j, rfl, rfl, q⟩ := h
  obtain ⟨t, rfl⟩ := rx
  obtain ⟨t', rfl⟩ := ry
  exact rule i j t t' s _ _ ⟨.int (g i j), H, I.tok _, ⟨_, rfl⟩, q⟩
theorem opB0 {f : Value → Value → Sem Value} {g : Int → Int → Bool}
    (rule : ∀ (i j : Int) (t u : Tok) (s : Shared) (Q : Value → Shared → Prop) (E : Value → Shared → Prop), Q (.bool (g i j)) s → wpAny (model X.prog X.w) X.A (f (.int i t) (.int j u)) Q E s) :
    OpR X f (rI0 fun i j => .bl (g i j)) := by
  intro pins s σ H x y v u Q I rx ry h
  obtain ⟨i, j, rfl, rfl, q⟩ := h
  obtain ⟨t, rfl⟩ := rx
  obtain ⟨t', rfl⟩ := ry
  exact rule i j t t' s _ _ ⟨.bl (g i j), H, I, rfl, q⟩

def CDiv (i j : Int) : Prop := 0 < j ∧ j < 1073741824
def CDivN (i j : Int) : Prop := j ≠ 0 ∧ j.natAbs < 1073741824
def CPow (i j : Int) : Prop := 0 ≤ j ∧ j ≤ 1000000 ∧ i.natAbs < 2 ^ 64
def CMul (i j : Int) : Prop := (-(2 ^ 64) < i ∧ i < 2 ^ 64) ∨ (-(2 ^ 64) < j ∧ j < 2 ^ 64)
theorem CMul.ok {i j : Int} (h : CMul i j) : IntMulOk i j := by
  rcases h with ⟨h1, h2⟩ | ⟨h1, h2⟩
  · exact .of_left (intBits_le_64 h1 h2)
  · exact .of_right (intBits_le_64 h1 h2)
theorem two_pow_nn (k : Nat) : (0 : Int) ≤ 2 ^ k := by
  rw [two_pow_cast]
  exact Int.natCast_nonneg _

theorem op_add : OpR X (binaryOp .Add) (rI0 fun i j => .int (i + j)) := opI0 fun _ _ _ _ _ _ _ q => add_int q
theorem op_sub : OpR X (binaryOp .Sub) (rI0 fun i j => .int (i - j)) := opI0 fun _ _ _ _ _ _ _ q => sub_int q
theorem op_mul : OpR X (binaryOp .Mult) (rI CMul fun i j => .int (i * j)) := opI fun _ _ _ _ _ _ _ hc q => mul_int q hc.ok
/-- // by a positive divisor -/
theorem op_fdiv : OpR X (binaryOp .FloorDiv) (rI CDiv fun i j => .int (i / j)) := opI fun i j _ _ _ _ _ hc q => by
  have h1 : (0 : Int) < j := hc.1
  have h2 : j < 1073741824 := hc.2
  exact floordiv_int (by omega) (by rw [Int.fdiv_eq_ediv_of_nonneg i (by omega)]; exact q) (.inl (PyProof.noPylong_small (by omega)))
theorem op_fdivN : OpR X (binaryOp .FloorDiv) (rI CDivN fun i j => .int (i.fdiv j)) := opI fun _ _ _ _ _ _ _ hc q => floordiv_int hc.1 q (.inl (PyProof.noPylong_small hc.2))
/-- % by a positive divisor of any size -/
theorem op_mod : OpR X (binaryOp .Mod) (rI (fun _ j => 0 < j) fun i j => .int (i % j)) := opI fun i j _ _ _ _ _ hc q => by
  have h1 : (0 : Int) < j := hc
  exact mod_int' (by omega) (by rw [Int.fmod_eq_emod_of_nonneg i (by omega)]; exact q)
theorem op_modN : OpR X (binaryOp .Mod) (rI (fun _ j => j ≠ 0) fun i j => .int (i.fmod j)) := opI fun _ _ _ _ _ _ _ hc q => mod_int' hc q
theorem op_pow : OpR X (binaryOp .Pow) (rI CPow fun i j => .int (i ^ j.toNat)) := opI fun _ _ _ _ _ _ _ hc q => pow_int_small hc.1 hc.2.1 hc.2.2 q
theorem op_shl : OpR X (binaryOp .LShift) (rI CPow fun i j => .int (i * 2 ^ j.toNat)) := opI fun _ _ _ _ _ _ _ hc q => lshift_int_small hc.1 hc.2.1 hc.2.2 q
theorem op_shr : OpR X (binaryOp .RShift) (rI (fun _ j => 0 ≤ j) fun i j => .int (i / 2 ^ j.toNat)) := opI fun i j _ _ _ _ _ hc q =>
  rshift_int hc (by rw [Int.fdiv_eq_ediv_of_nonneg i (two_pow_nn _)]; exact q)
theorem op_and : OpR X (binaryOp .BitAnd) (rI0 fun i j => .int (Builtin.bitAnd i j)) := opI0 fun _ _ _ _ _ _ _ q => and_int q
theorem op_or : OpR X (binaryOp .BitOr) (rI0 fun i j => .int (Builtin.bitOr i j)) := opI0 fun _ _ _ _ _ _ _ q => or_int q
theorem op_xor : OpR X (binaryOp .BitXor) (rI0 fun i j => .int (Builtin.bitXor i j)) := opI0 fun _ _ _ _ _ _ _ q => xor_int q

theorem iop_add : OpR X (inplaceOp .Add) (rI0 fun i j => .int (i + j)) := opI0 fun _ _ _ _ _ _ _ q => iadd_int q
theorem iop_sub : OpR X (inplaceOp .Sub) (rI0 fun i j => .int (i - j)) := opI0 fun _ _ _ _ _ _ _ q => isub_int q
theorem iop_mul : OpR X (inplaceOp .Mult) (rI CMul fun i j => .int (i * j)) := opI fun _ _ _ _ _ _ _ hc q => imul_int q hc.ok
theorem iop_fdiv : OpR X (inplaceOp .FloorDiv) (rI CDiv fun i j => .int (i / j)) := opI fun i j _ _ _ _ _ hc q => by
  have h1 : (0 : Int) < j := hc.1
  have h2 : j < 1073741824 := hc.2
  exact ifloordiv_int (by omega) (by rw [Int.fdiv_eq_ediv_of_nonneg i (by omega)]; exact q) (.inl (PyProof.noPylong_small (by omega)))
theorem iop_mod : OpR X (inplaceOp .Mod) (rI (fun _ j => 0 < j) fun i j => .int (i % j)) := opI fun i j _ _ _ _ _ hc q => by
  have h1 : (0 : Int) < j := hc
  exact imod_int (by omega) (by rw [Int.fmod_eq_emod_of_nonneg i (by omega)]; exact q)
theorem iop_shl : OpR X (inplaceOp .LShift) (rI CPow fun i j => .int (i * 2 ^ j.toNat)) := opI fun _ _ _ _ _ _ _ hc q => ilshift_int_small hc.1 hc.2.1 hc.2.2 q
theorem iop_shr : OpR X (inplaceOp .RShift) (rI (fun _ j => 0 ≤ j) fun i j => .int (i / 2 ^ j.toNat)) := opI fun i j _ _ _ _ _ hc q =>
  irshift_int hc (by rw [Int.fdiv_eq_ediv_of_nonneg i (two_pow_nn _)]; exact q)
theorem iop_and : OpR X (inplaceOp .BitAnd) (rI0 fun i j => .int (Builtin.bitAnd i j)) := opI0 fun _ _ _ _ _ _ _ q => iand_int q
theorem iop_or : OpR X (inplaceOp .BitOr) (rI0 fun i j => .int (Builtin.bitOr i j)) := opI0 fun _ _ _ _ _ _ _ q => ior_int q
theorem iop_xor : OpR X (inplaceOp .BitXor) (rI0 fun i j => .int (Builtin.bitXor i j)) := opI0 fun _ _ _ _ _ _ _ q => ixor_int q

theorem unI {f : Value → Sem Value} {g : Int → Int}
    (rule : ∀ (i : Int) (t : Tok) (s : Shared) (Q : Value → Shared → Prop) (E : Value → Shared → Prop), Q (.int (g i) s.toks) { s with toks := s.toks + 1 } → wpAny (model X.prog X.w) X.A (f (.int i t)) Q E s) :
    UnR X f (rU fun i => .int (g i)) := by
  intro pins s σ H x v Q I rx h
  obtain ⟨i, rfl, q⟩ := h
  obtain ⟨t, rfl⟩ := rx
  exact rule i t s _ _ ⟨.int (g i), H, I.tok _, ⟨_, rfl⟩, q⟩
theorem un_neg : UnR X (unaryOp .USub) (rU fun i => .int (-i)) := unI fun _ _ _ _ _ q => neg_int q
theorem un_inv : UnR X (unaryOp .Invert) (rU fun i => .int (Builtin.bitNot i)) := unI fun _ _ _ _ _ q => invert_int q

/-! ### bools among ints: n += (a < b) -/
theorem op_add_ib : OpR X (binaryOp .Add) (fun x y H Q => ∃ i k, x = .int i ∧ y = .bl k ∧ Q (.int (i + b2i k)) H) := by
  intro pins s σ H x y v u Q I rx ry h
  obtain ⟨i, k, rfl, rfl, q⟩ := h
  obtain ⟨t, rfl⟩ := rx
  cases ry
  exact add_int_bool ⟨.int (i + b2i k), H, I.tok _, ⟨_, rfl⟩, q⟩
end

/-! ### comparisons -/
/-- the scalars that == tells apart as data does -/
def scal : V → V → Bool
  | .non, .non => true | .non, .int _ => true | .int _, .non => true | .non, .bl _ => true | .bl _, .non => true | .non, .str _ => true | .str _, .non => true
  | .int _, .int _ => true | .bl _, .bl _ => true | .str _, .str _ => true | .byt _, .byt _ => true
  | .int _, .str _ => true | .str _, .int _ => true | .bl _, .str _ => true | .str _, .bl _ => true
  | _, _ => false
def rEq : R2 := fun x y H Q => scal x y = true ∧ Q (.bl (decide (x = y))) H
def rNe : R2 := fun x y H Q => scal x y = true ∧ Q (.bl (!decide (x = y))) H

theorem dec_int {i j : Int} : decide (V.int i = V.int j) = (i == j) := by
  rw [Bool.eq_iff_iff]
  simp
theorem dec_bl {i j : Bool} : decide (V.bl i = V.bl j) = (i == j) := by
  rw [Bool.eq_iff_iff]
  simp
theorem dec_str {i j : Str} : decide (V.str i = V.str j) = (i == j) := by
  rw [Bool.eq_iff_iff]
  simp
theorem dec_byt {i j : Array UInt8} : decide (V.byt i = V.byt j) = (i.toList == j.toList) := by
  rw [Bool.eq_iff_iff]
  cases i
  cases j
  simp

section
variable {X : Cx} {a b c : Expr} {ta tb tc : TE} {pos : Pos}
theorem fin_bl {pins : List (Addr × Obj)} {σ : St} {H : Hp} {s : Shared} {Q : VK} {k k' : Bool} (I : Inv X pins σ H s) (q : Q (.bl k) H) (e : k = k') : EP X pins σ Q (.bool k') s := by
  subst e
  exact ⟨.bl k, H, I, rfl, q⟩
theorem op_eq : OpR X (compareOp .Eq) rEq := by
  intro pins s σ H x y v u Q I rx ry h
  obtain ⟨hs, q⟩ := h
  cases x with
  | non =>
    cases rx
    cases y with
    | non => cases ry; exact PySem.EqNone.eq_none_none (fin_bl I q (by simp))
    | bl j => cases ry; exact PySem.EqNone.eq_none_bool (fin_bl I q (by simp))
    | int j => obtain ⟨t', rfl⟩ := ry; exact PySem.EqNone.eq_none_int (fin_bl I q (by simp))
    | str j => obtain ⟨t', rfl⟩ := ry; exact PySem.EqNone.eq_none_str (fin_bl I q (by simp))
    | _ => exact absurd (show false = true from hs) Bool.false_ne_true
  | bl i =>
    cases rx
    cases y with
    | non => cases ry; exact PySem.EqNone.eq_bool_none (fin_bl I q (by simp))
    | bl j => cases ry; exact eq_bool (fin_bl I q dec_bl)
    | str j => obtain ⟨t', rfl⟩ := ry; exact PySem.EqMixed.eq_bool_str (fin_bl I q (by simp))
    | _ => exact absurd (show false = true from hs) Bool.false_ne_true
  | int i =>
    obtain ⟨t, rfl⟩ := rx
    cases y with
    | non => cases ry; exact PySem.EqNone.eq_int_none (fin_bl I q (by simp))
    | int j => obtain ⟨t', rfl⟩ := ry; exact eq_int (fin_bl I q dec_int)
    | str j => obtain ⟨t', rfl⟩ := ry; exact PySem.EqMixed.eq_int_str (fin_bl I q (by simp))
    | _ => exact absurd (show false = true from hs) Bool.false_ne_true
  | str i =>
    obtain ⟨t, rfl⟩ := rx
    cases y with
    | non => cases ry; exact PySem.EqNone.eq_str_none (fin_bl I q (by simp))
    | bl j => cases ry; exact PySem.EqMixed.eq_str_bool (fin_bl I q (by simp))
    | int j => obtain ⟨t', rfl⟩ := ry; exact PySem.EqMixed.eq_str_int (fin_bl I q (by simp))
    | str j => obtain ⟨t', rfl⟩ := ry; exact eq_str (fin_bl I q dec_str)
    | _ => exact absurd (show false = true from hs) Bool.false_ne_true
  | byt i =>
    obtain ⟨t, rfl⟩ := rx
    cases y with
    | byt j => obtain ⟨t', rfl⟩ := ry; exact PySem.W.eq_bytes (fin_bl I q dec_byt)
    | _ => exact absurd (show false = true from hs) Bool.false_ne_true
  | _ => cases y <;> exact absurd (show false = true from hs) Bool.false_ne_true
theorem op_ne : OpR X (compareOp .NotEq) rNe := by
  intro pins s σ H x y v u Q I rx ry h
  obtain ⟨hs, q⟩ := h
  cases x with
  | non =>
    cases rx
    cases y with
    | non => cases ry; exact PySem.EqNone.ne_none_none (fin_bl I q (by simp))
    | bl j => cases ry; exact PySem.EqNone.ne_none_bool (fin_bl I q (by simp))
    | int j => obtain ⟨t', rfl⟩ := ry; exact PySem.EqNone.ne_none_int (fin_bl I q (by simp))
    | str j => obtain ⟨t', rfl⟩ := ry; exact PySem.EqNone.ne_none_str (fin_bl I q (by simp))
    | _ => exact absurd (show false = true from hs) Bool.false_ne_true
  | bl i =>
    cases rx
    cases y with
    | non => cases ry; exact PySem.EqNone.ne_bool_none (fin_bl I q (by simp))
    | bl j => cases ry; exact ne_bool (fin_bl I q (congrArg not dec_bl))
    | str j => obtain ⟨t', rfl⟩ := ry; exact PySem.EqMixed.ne_bool_str (fin_bl I q (by simp))
    | _ => exact absurd (show false = true from hs) Bool.false_ne_true
  | int i =>
    obtain ⟨t, rfl⟩ := rx
    cases y with
    | non => cases ry; exact PySem.EqNone.ne_int_none (fin_bl I q (by simp))
    | int j => obtain ⟨t', rfl⟩ := ry; exact ne_int (fin_bl I q (congrArg not dec_int))
    | str j => obtain ⟨t', rfl⟩ := ry; exact PySem.EqMixed.ne_int_str (fin_bl I q (by simp))
    | _ => exact absurd (show false = true from hs) Bool.false_ne_true
  | str i =>
    obtain ⟨t, rfl⟩ := rx
    cases y with
    | non => cases ry; exact PySem.EqNone.ne_str_none (fin_bl I q (by simp))
    | bl j => cases ry; exact PySem.EqMixed.ne_str_bool (fin_bl I q (by simp))
    | int j => obtain ⟨t', rfl⟩ := ry; exact PySem.EqMixed.ne_str_int (fin_bl I q (by simp))
    | str j => obtain ⟨t', rfl⟩ := ry; exact ne_str (fin_bl I q (congrArg not dec_str))
    | _ => exact absurd (show false = true from hs) Bool.false_ne_true
  | byt i =>
    obtain ⟨t, rfl⟩ := rx
    cases y with
    | byt j => obtain ⟨t', rfl⟩ := ry; exact PySem.W.ne_bytes (fin_bl I q (congrArg not dec_byt))
    | _ => exact absurd (show false = true from hs) Bool.false_ne_true
  | _ => cases y <;> exact absurd (show false = true from hs) Bool.false_ne_true

theorem op_lt : OpR X (compareOp .Lt) (rI0 fun i j => .bl (decide (i < j))) := opB0 fun _ _ _ _ _ _ _ q => lt_int q
theorem op_le : OpR X (compareOp .LtE) (rI0 fun i j => .bl (decide (i ≤ j))) := opB0 fun _ _ _ _ _ _ _ q => le_int q
theorem op_gt : OpR X (compareOp .Gt) (rI0 fun i j => .bl (decide (j < i))) := opB0 fun _ _ _ _ _ _ _ q => gt_int q
theorem op_ge : OpR X (compareOp .GtE) (rI0 fun i j => .bl (decide (j ≤ i))) := opB0 fun _ _ _ _ _ _ _ q => ge_int q
theorem op_lt_str : OpR X (compareOp .Lt) (fun x y H Q => ∃ i j, x = .str i ∧ y = .str j ∧ Q (.bl (decide (i.cps.toList < j.cps.toList))) H) := by
  intro pins s σ H x y v u Q I rx ry h
  obtain ⟨i, j, rfl, rfl, q⟩ := h
  obtain ⟨t, rfl⟩ := rx
  obtain ⟨t', rfl⟩ := ry
  exact lt_str (fin_bl I q rfl)
/-- the one string within the other -/
theorem op_in_str : OpR X (compareOp .In) (fun x y H Q => ∃ i j, x = .str i ∧ y = .str j ∧ Q (.bl (!(Builtin.Str.occurrences j i 0 j.length 1).isEmpty)) H) := by
  intro pins s σ H x y v u Q I rx ry h
  obtain ⟨i, j, rfl, rfl, q⟩ := h
  obtain ⟨t, rfl⟩ := rx
  obtain ⟨t', rfl⟩ := ry
  exact in_str (fin_bl I q rfl)

/-- is None, is not None: the right side a value none -/
theorem op_isN : OpR X (compareOp .Is) (fun x y H Q => y = .non ∧ Q (.bl (decide (x = .non))) H) := by
  intro pins s σ H x y v u Q I rx ry h
  obtain ⟨rfl, q⟩ := h
  cases ry
  refine is_none_gen (fin_bl I q ?_)
  cases x <;> first
    | (cases rx; rfl)
    | (obtain ⟨t, rfl⟩ := rx; rfl)
theorem op_notN : OpR X (compareOp .IsNot) (fun x y H Q => y = .non ∧ Q (.bl (!decide (x = .non))) H) := by
  intro pins s σ H x y v u Q I rx ry h
  obtain ⟨rfl, q⟩ := h
  cases ry
  refine isnot_none_gen (fin_bl I q ?_)
  cases x <;> first
    | (cases rx; rfl)
    | (obtain ⟨t, rfl⟩ := rx; rfl)

theorem op_notin_str : OpR X (compareOp .NotIn) (fun x y H Q => ∃ i j, x = .str i ∧ y = .str j ∧ Q (.bl (!(!(Builtin.Str.occurrences j i 0 j.length 1).isEmpty))) H) := by
  intro pins s σ H x y v u Q I rx ry h
  obtain ⟨i, j, rfl, rfl, q⟩ := h
  obtain ⟨t, rfl⟩ := rx
  obtain ⟨t', rfl⟩ := ry
  exact notIn_str (fin_bl I q rfl)
/-- is, is not of two objects that are tracked lists or instances -/
def isObj : HO → Bool
  | .lst _ => true
  | .ins _ _ _ => true
  | _ => false
theorem obj_there {pins : List (Addr × Obj)} {s : Shared} {σ : St} {H : Hp} {a : Addr} {o : HO} (I : Inv X pins σ H s) (h : H a = some o) (p : isObj o = true) : ∃ ob, s.heap.get? a = some ob ∧ ob.cls ≠ .type "tuple" := by
  cases o with
  | lst xs =>
    obtain ⟨_, its, n, _, e⟩ : xs.length ≤ sizeLine ∧ ∃ (its : List Value) (n : Nat), Vals xs its ∧ s.heap.get? a = some { cls := .type "list", data := .seq its.toArray n } := I.hok a _ h
    exact ⟨_, e, (by show Value.type "list" ≠ .type "tuple"; decide +kernel)⟩
  | ins C dx fs =>
    have x := I.hok a _ h
    obtain ⟨_, _, _, e, _⟩ := x
    exact ⟨_, e, (by show Value.ref C ≠ .type "tuple"; exact fun z => by cases z)⟩
  | _ => exact absurd (show false = true from p) Bool.false_ne_true
theorem op_is_ref : OpR X (compareOp .Is) (fun x y H Q => ∃ a b oa ob, x = .ref a ∧ y = .ref b ∧ H a = some oa ∧ isObj oa = true ∧ H b = some ob ∧ isObj ob = true ∧ Q (.bl (decide (a = b))) H) := by
  intro pins s σ H x y v u Q I rx ry h
  obtain ⟨a, b, oa, ob, rfl, rfl, ha, pa, hb, pb, q⟩ := h
  cases rx
  cases ry
  obtain ⟨o1, e1, n1⟩ := obj_there I ha pa
  obtain ⟨o2, e2, _⟩ := obj_there I hb pb
  by_cases z : a = b
  · subst z
    exact wpAny_is_ref_self (fin_bl I q (by simp))
  · exact wpAny_is_ref_other z e1 e2 n1 (fin_bl I q (by simp [z]))
theorem op_isnot_ref : OpR X (compareOp .IsNot) (fun x y H Q => ∃ a b oa ob, x = .ref a ∧ y = .ref b ∧ H a = some oa ∧ isObj oa = true ∧ H b = some ob ∧ isObj ob = true ∧ Q (.bl (!decide (a = b))) H) := by
  intro pins s σ H x y v u Q I rx ry h
  obtain ⟨a, b, oa, ob, rfl, rfl, ha, pa, hb, pb, q⟩ := h
  cases rx
  cases ry
  obtain ⟨o1, e1, n1⟩ := obj_there I ha pa
  obtain ⟨o2, e2, _⟩ := obj_there I hb pb
  by_cases z : a = b
  · subst z
    exact wpAny_isNot_ref_self (fin_bl I q (by simp))
  · exact wpAny_isNot_ref_other z e1 e2 n1 (fin_bl I q (by simp [z]))

/-- two rules for one operation: by cases -/
theorem OpR.or {f : Value → Value → Sem Value} {r r' : R2} (h : OpR X f r) (h' : OpR X f r') : OpR X f (fun x y H Q => r x y H Q ∨ r' x y H Q) := by
  intro pins s σ H x y v u Q I rx ry q
  rcases q with q | q
  · exact h pins s σ H x y v u Q I rx ry q
  · exact h' pins s σ H x y v u Q I rx ry q

theorem nomark (b : Expr) {op : CmpOp} (h : op ≠ .In := by decide) (h2 : op ≠ .NotIn := by decide) : behindInMarks op b = false := by
  have e1 : (op == CmpOp.In) = false := by cases op <;> first | rfl | exact absurd rfl h
  have e2 : (op == CmpOp.NotIn) = false := by cases op <;> first | rfl | exact absurd rfl h2
  cases b <;> simp [behindInMarks, e1, e2]
/-- a comparison as a value; hm: nomark b, or (for in, not in) by with_unfolding_all rfl -/
theorem pe_cmpR {op : CmpOp} {r : R2} (ho : OpR X (compareOp op) r) (ha : PE X a ta) (hb : PE X b tb) (hm : behindInMarks op b = false) : PE X (.Compare a [op] [b] pos) (tOp r ta tb) := by
  intro pins s σ H Q I h
  exact wpAny_Compare1 (binT ha hb I h fun v u s2 x y H2 I2 rx ry q => ho pins s2 σ H2 x y v u Q I2 rx ry q) hm
/-- a reading of a value as a test -/
def tTest (t : TE) : TT := fun σ H Q => t σ H fun x H' => ∃ k, x = .bl k ∧ Q k H'
theorem pt_cmpR {op : CmpOp} {r : R2} (ho : OpR X (compareOp op) r) (ha : PE X a ta) (hb : PE X b tb) (hm : behindInMarks op b = false) : PT X (.Compare a [op] [b] pos) (tTest (tOp r ta tb)) := by
  intro pins s σ H Q I h
  refine wpAny_isTrue_Compare1 (thn (ha pins s σ H _ I h) fun v s1 ⟨x, H1, I1, r1, q1⟩ => thn (hb pins s1 σ H1 _ I1 q1) fun u s2 ⟨y, H2, I2, r2, q2⟩ =>
    thn (ho pins s2 σ H2 x y v u _ I2 r1 r2 q2) fun c s3 ⟨z, H3, I3, r3, k, e, q3⟩ => ?_) hm
  subst e
  cases r3
  exact wpAny_truthy_bool ⟨H3, I3, q3⟩
/-- a op1 b op2 c -/
def tChain (r r' : R2) (ta tb tc : TE) : TE := fun σ H Q => ta σ H fun x H1 => tb σ H1 fun y H2 => r x y H2 fun z H3 => ∃ k, z = .bl k ∧
  (if k = true then tc σ H3 fun w' H4 => r' y w' H4 Q else Q (.bl false) H3)
theorem pe_chain {op op' : CmpOp} {r r' : R2} (ho : OpR X (compareOp op) r) (ho' : OpR X (compareOp op') r') (ha : PE X a ta) (hb : PE X b tb) (hc : PE X c tc)
    (hm : lastMarks [op, op'] [b, c] = false := by with_unfolding_all rfl) : PE X (.Compare a [op, op'] [b, c] pos) (tChain r r' ta tb tc) := by
  intro pins s σ H Q I h
  refine Compare_chain (thn (ha pins s σ H _ I h) fun v s1 ⟨x, H1, I1, r1, q1⟩ => chain_link (thn (hb pins s1 σ H1 _ I1 q1) fun u s2 ⟨y, H2, I2, r2, q2⟩ =>
    thn (ho pins s2 σ H2 x y v u _ I2 r1 r2 q2) fun d s3 ⟨z, H3, I3, r3, k, e, q3⟩ => ?_)) hm
  subst e
  cases r3
  refine wpAny_truthy_bool ?_
  cases k with
  | false => exact ite_ff ⟨.bl false, H3, I3, rfl, q3⟩
  | true => exact ite_tt (chain_last (thn (hc pins s3 σ H3 _ I3 q3) fun w' s4 ⟨z', H4, I4, r4, q4⟩ => ho' pins s4 σ H4 y z' u w' Q I4 r2 r4 q4))
theorem pt_chain {op op' : CmpOp} {r r' : R2} (ho : OpR X (compareOp op) r) (ho' : OpR X (compareOp op') r') (ha : PE X a ta) (hb : PE X b tb) (hc : PE X c tc)
    (hm : lastMarks [op, op'] [b, c] = false := by with_unfolding_all rfl) : PT X (.Compare a [op, op'] [b, c] pos) (tTest (tChain r r' ta tb tc)) := by
  intro pins s σ H Q I h
  refine isTrue_chain (thn (ha pins s σ H _ I h) fun v s1 ⟨x, H1, I1, r1, q1⟩ => test_link (thn (hb pins s1 σ H1 _ I1 q1) fun u s2 ⟨y, H2, I2, r2, q2⟩ =>
    thn (ho pins s2 σ H2 x y v u _ I2 r1 r2 q2) fun d s3 ⟨z, H3, I3, r3, k, e, q3⟩ => ?_)) hm
  subst e
  cases r3
  refine wpAny_truthy_bool ?_
  cases k with
  | false =>
    obtain ⟨k', e', q'⟩ := q3
    cases e'
    exact ite_ff ⟨H3, I3, q'⟩
  | true =>
    refine ite_tt (test_last (thn (hc pins s3 σ H3 _ I3 q3) fun w' s4 ⟨z', H4, I4, r4, q4⟩ => thn (ho' pins s4 σ H4 y z' u w' _ I4 r2 r4 q4) fun d' s5 ⟨z2, H5, I5, r5, k2, e2, q5⟩ => ?_))
    subst e2
    cases r5
    exact wpAny_truthy_bool ⟨H5, I5, q5⟩

/-! ### truth -/
/-- a value's truth by the abstract heap -/
def TruV (K : PySem.W.Frag) (x : V) (H : Hp) (k : Bool) : Prop :=
  match x with
  | .non => k = false
  | .bl b => k = b
  | .int i => k = (i != 0)
  | .str y => y.length ≤ sizeLine ∧ k = ((y.length : Int) != 0)
  | .byt y => y.size ≤ sizeLine ∧ k = ((y.size : Int) != 0)
  | .ref p => (∃ xs, SqL K H p xs ∧ k = !xs.isEmpty) ∨ (∃ xs, SqT K H p xs ∧ k = !xs.isEmpty) ∨ ∃ kvs, H p = some (.dK kvs) ∧ k = !kvs.isEmpty
  | _ => False
theorem isEmpty_kv {κ : Type} {kvs : List (κ × V)} {vs : List (κ × Value)} (r : KV kvs vs) : (!vs.isEmpty) = !kvs.isEmpty := by
  cases r <;> rfl
theorem isEmpty_of {xs : List V} {its : List Value} (r : Vals xs its) : (!its.toArray.isEmpty) = !xs.isEmpty := by
  cases r <;> simp
theorem line63 : (sizeLine : Nat) < 2 ^ 63 := by rw [sizeLine_eq]; decide
theorem tru_ok : TruR X (fun x H Q => ∃ k, TruV X.K x H k ∧ Q k H) := by
  intro pins s σ H x v Q I rx h
  obtain ⟨k, e, q⟩ := h
  have hl := line63
  have hs : sizeLine = 16777216 := sizeLine_eq
  cases x with
  | non =>
    cases rx
    have e' : k = false := e
    subst e'
    exact truthy_none ⟨H, I, q⟩
  | bl b =>
    cases rx
    have e' : k = b := e
    subst e'
    exact wpAny_truthy_bool ⟨H, I, q⟩
  | int i =>
    obtain ⟨t, rfl⟩ := rx
    have e' : k = (i != 0) := e
    subst e'
    exact PySem.P.truthy_int ⟨H, I, q⟩
  | str y =>
    obtain ⟨t, rfl⟩ := rx
    obtain ⟨hy, e'⟩ : y.length ≤ sizeLine ∧ k = ((y.length : Int) != 0) := e
    subst e'
    exact PySem.P.truthy_str (by omega) ⟨H, I.tok _, q⟩
  | byt y =>
    obtain ⟨t, rfl⟩ := rx
    obtain ⟨hy, e'⟩ : y.size ≤ sizeLine ∧ k = ((y.size : Int) != 0) := e
    subst e'
    exact PySem.W.truthy_bytes (by omega) ⟨H, I.tok _, q⟩
  | ref p =>
    cases rx
    have e' : (∃ xs, SqL X.K H p xs ∧ k = !xs.isEmpty) ∨ (∃ xs, SqT X.K H p xs ∧ k = !xs.isEmpty) ∨ ∃ kvs, H p = some (.dK kvs) ∧ k = !kvs.isEmpty := e
    rcases e' with ⟨xs, hx, e'⟩ | ⟨xs, hx, e'⟩ | ⟨kvs, hx, e'⟩
    · subst e'
      obtain ⟨its, r, pl, hz⟩ := I.list hx
      have hlen := r.length
      exact wpAny_truthy_list pl.isList (by simp only [List.size_toArray]; omega) ⟨H, I.tok _, by rw [isEmpty_of r]; exact q⟩
    · subst e'
      obtain ⟨its, r, pl, hz⟩ := I.tuple hx
      have hlen := r.length
      exact truthy_tuple pl (by simp only [List.size_toArray]; omega) ⟨H, I.tok _, by rw [isEmpty_of r]; exact q⟩
    · subst e'
      obtain ⟨hz, hS, vs, r, m⟩ : kvs.length ≤ sizeLine ∧ (p == sysModules) = false ∧ ∃ vs, KV kvs vs ∧ s.heap.DictOf (mixKind X.prog X.w) p vs := I.hok p _ hx
      have hlen : kvs.length = vs.length := Paired.length r
      exact wpAny_truthy_dict hS m (by omega) ⟨H, I.tok _, by rw [isEmpty_kv r]; exact q⟩
  | _ => exact (show False from e).elim
/-- any expression whose test is its value's truth (a name, a call, a subscript, a field ..: he by fun _ => rfl) -/
theorem pt_truth (ha : PE X a ta) (he : ∀ whole, isTrue a X.env whole = (do let v ← whole; standAt a.pos; holding [v] (truthy v))) :
    PT X a (fun σ H Q => ta σ H fun x H' => ∃ k, TruV X.K x H' k ∧ Q k H') := by
  intro pins s σ H Q I h
  exact isTrue_plain (thn (ha pins s σ H _ I h) fun v s1 ⟨x, H1, I1, r1, q1⟩ => tru_ok pins s1 σ H1 x v Q I1 r1 q1) (he _)

/-! ### strs and bytes -/
theorem pe_byt {x : List UInt8} {k : Nat} : PE X (.Constant (.bytes x) k pos) (fun _ H Q => Q (.byt x.toArray) H) := fun _ _ _ H _ I h => PySem.W.Constant_bytes ⟨.byt x.toArray, H, I.tok _, ⟨_, rfl⟩, h⟩
theorem op_add_str : OpR X (binaryOp .Add) (fun x y H Q => ∃ i j, x = .str i ∧ y = .str j ∧ i.length + j.length ≤ sizeLine ∧ Q (.str (i ++ j)) H) := by
  intro pins s σ H x y v u Q I rx ry h
  obtain ⟨i, j, rfl, rfl, hz, q⟩ := h
  obtain ⟨t, rfl⟩ := rx
  obtain ⟨t', rfl⟩ := ry
  exact add_str (fun t' tk => ⟨.str (i ++ j), H, I.tok _, ⟨_, rfl⟩, q⟩) hz
theorem iop_add_str : OpR X (inplaceOp .Add) (fun x y H Q => ∃ i j, x = .str i ∧ y = .str j ∧ i.length + j.length ≤ sizeLine ∧ Q (.str (i ++ j)) H) := by
  intro pins s σ H x y v u Q I rx ry h
  obtain ⟨i, j, rfl, rfl, hz, q⟩ := h
  obtain ⟨t, rfl⟩ := rx
  obtain ⟨t', rfl⟩ := ry
  exact iadd_str (fun t' tk => ⟨.str (i ++ j), H, I.tok _, ⟨_, rfl⟩, q⟩) hz
theorem op_add_byt : OpR X (binaryOp .Add) (fun x y H Q => ∃ i j, x = .byt i ∧ y = .byt j ∧ i.size + j.size ≤ 16777216 ∧ Q (.byt (i ++ j)) H) := by
  intro pins s σ H x y v u Q I rx ry h
  obtain ⟨i, j, rfl, rfl, hz, q⟩ := h
  obtain ⟨t, rfl⟩ := rx
  obtain ⟨t', rfl⟩ := ry
  exact PySem.W.KBy.add_bytes hz (fun t' tk => ⟨.byt (i ++ j), H, I.tok _, ⟨_, rfl⟩, q⟩)

def PlainIxT (b : Expr) : Prop := ∀ o i, subscripted b false o i = operate [o, i] (getItem o i)
/-- s[i], 0 ≤ i < len -/
theorem pe_item_str (ha : PE X a ta) (hb : PE X b tb) (hs : PlainIxT b) :
    PE X (.Subscript a b pos) (tOp (fun x y H Q => ∃ z i c, x = .str z ∧ y = .int i ∧ 0 ≤ i ∧ i < 2 ^ 63 ∧ i < z.length ∧ z.cps[i.toNat]? = some c ∧ Q (.str ⟨#[c]⟩) H) ta tb) := by
  intro pins s σ H Q I h
  refine Subscript_ (binT ha hb I h fun v u s2 x y H2 I2 rx ry q => ?_)
  obtain ⟨z, i, c, rfl, rfl, h0, h63, h1, hc, q⟩ := q
  obtain ⟨t, rfl⟩ := rx
  obtain ⟨t', rfl⟩ := ry
  have e : seqIndex? i z.length = some i.toNat := PySem.StrLaws.seqIndex_nonneg h0 h1
  exact tail_any (typeIs_str s2 z t) slot_str_getitem.lookup (getItem_str (c := c) (by
    have e1 : decide (i < -(2 ^ 63 : Int)) = false := decide_eq_false (by omega)
    have e2 : decide (i ≥ 2 ^ 63) = false := decide_eq_false (by omega)
    rw [e1, e2] <;> rfl) (by rw [e]; exact hc) ⟨.str ⟨#[c]⟩, H2, I2.tok _, ⟨_, rfl⟩, q⟩) (hs _ _)
/-- b[i], 0 ≤ i < len -/
theorem pe_item_byt (ha : PE X a ta) (hb : PE X b tb) (hs : PlainIxT b) :
    PE X (.Subscript a b pos) (tOp (fun x y H Q => ∃ (z : List UInt8) (i : Int), x = .byt z.toArray ∧ y = .int i ∧ z.length ≤ sizeLine ∧ 0 ≤ i ∧ i < z.length ∧ Q (.int ((z.getD i.toNat 0).toNat : Nat)) H) ta tb) := by
  intro pins s σ H Q I h
  refine Subscript_ (binT ha hb I h fun v u s2 x y H2 I2 rx ry q => ?_)
  obtain ⟨z, i, rfl, rfl, hz, h0, h1, q⟩ := q
  obtain ⟨t, rfl⟩ := rx
  obtain ⟨t', rfl⟩ := ry
  have hl : sizeLine = 16777216 := sizeLine_eq
  exact tail_any (PySem.W.typeIs_bytes s2 z.toArray t) PySem.W.FB.slot_bytes_getitem.lookup (PySem.W.getItem_bytes (by omega) h0 h1 ⟨.int ((z.getD i.toNat 0).toNat : Nat), H2, I2.tok _, ⟨_, rfl⟩, q⟩) (hs _ _)

/-! ### scalar builtins, by CallR -/
theorem vals1 {x : V} {us : List Value} (r : Vals [x] us) : ∃ u, us = [u] ∧ RelV x u := by
  cases r with
  | cons r1 r2 => cases r2; exact ⟨_, rfl, r1⟩
theorem vals2 {x y : V} {us : List Value} (r : Vals [x, y] us) : ∃ u w', us = [u, w'] ∧ RelV x u ∧ RelV y w' := by
  cases r with
  | cons r1 r2 =>
    cases r2 with
    | cons r3 r4 => cases r4; exact ⟨_, _, rfl, r1, r3⟩
theorem call_abs : CallR X (.builtin "abs") (fun xs H Q => ∃ i, xs = [.int i] ∧ Q (.int (if i < 0 then -i else i)) H) := by
  intro pins s σ H xs us Q I r h
  obtain ⟨i, rfl, q⟩ := h
  obtain ⟨u, rfl, t, rfl⟩ := vals1 r
  exact call_abs_int fun u tk => ⟨.int (if i < 0 then -i else i), H, I.tok _, ⟨_, rfl⟩, q⟩
theorem call_max2 (hc : X.calm = true) : CallR X (.builtin "max") (fun xs H Q => ∃ i j, xs = [.int i, .int j] ∧ Q (.int (if j > i then j else i)) H) := by
  intro pins s σ H xs us Q I r h
  obtain ⟨i, j, rfl, q⟩ := h
  obtain ⟨u, w', rfl, ⟨t, rfl⟩, ⟨t', rfl⟩⟩ := vals2 r
  refine max_two_ints (I.ok.hd hc) fun h' tk k => ⟨_, H, I.kept k, ?_, q⟩
  by_cases hj : j > i
  · rw [if_pos hj, if_pos hj]; exact ⟨_, rfl⟩
  · rw [if_neg hj, if_neg hj]; exact ⟨_, rfl⟩
theorem call_min2 (hc : X.calm = true) : CallR X (.builtin "min") (fun xs H Q => ∃ i j, xs = [.int i, .int j] ∧ Q (.int (if j < i then j else i)) H) := by
  intro pins s σ H xs us Q I r h
  obtain ⟨i, j, rfl, q⟩ := h
  obtain ⟨u, w', rfl, ⟨t, rfl⟩, ⟨t', rfl⟩⟩ := vals2 r
  refine min_two_ints (I.ok.hd hc) fun h' tk k => ⟨_, H, I.kept k, ?_, q⟩
  by_cases hj : j < i
  · rw [if_pos hj, if_pos hj]; exact ⟨_, rfl⟩
  · rw [if_neg hj, if_neg hj]; exact ⟨_, rfl⟩
theorem call_int1 : CallR X (.type "int") (fun xs H Q => (∃ i, xs = [.int i] ∧ Q (.int i) H) ∨ ∃ k, xs = [.bl k] ∧ Q (.int (if k then 1 else 0)) H) := by
  intro pins s σ H xs us Q I r h
  rcases h with ⟨i, rfl, q⟩ | ⟨k, rfl, q⟩
  · obtain ⟨u, rfl, t, rfl⟩ := vals1 r
    exact call_int_int ⟨.int i, H, I, ⟨_, rfl⟩, q⟩
  · obtain ⟨u, rfl, r1⟩ := vals1 r
    cases r1
    exact call_int_bool ⟨.int (if k then 1 else 0), H, I.tok _, ⟨_, rfl⟩, q⟩
theorem call_bool1 : CallR X (.type "bool") (fun xs H Q => (∃ i, xs = [.int i] ∧ Q (.bl (i != 0)) H) ∨ ∃ k, xs = [.bl k] ∧ Q (.bl k) H) := by
  intro pins s σ H xs us Q I r h
  rcases h with ⟨i, rfl, q⟩ | ⟨k, rfl, q⟩
  · obtain ⟨u, rfl, t, rfl⟩ := vals1 r
    exact call_bool_int ⟨.bl (i != 0), H, I, rfl, q⟩
  · obtain ⟨u, rfl, r1⟩ := vals1 r
    cases r1
    exact call_bool_bool ⟨.bl k, H, I, rfl, q⟩
theorem call_str_int : CallR X (.type "str") (fun xs H Q => ∃ i, xs = [.int i] ∧ i.natAbs.log2 < 1920 ∧ Q (.str (toString i)) H) := by
  intro pins s σ H xs us Q I r h
  obtain ⟨i, rfl, hz, q⟩ := h
  obtain ⟨u, rfl, t, rfl⟩ := vals1 r
  exact PySem.P.str_of_int hz ⟨.str _, H, I.tok _, ⟨_, rfl⟩, q⟩
theorem call_ord : CallR X (.builtin "ord") (fun xs H Q => ∃ x, xs = [.str x] ∧ x.length = 1 ∧ Q (.int (x.cps.getD 0 0 : Nat)) H) := by
  intro pins s σ H xs us Q I r h
  obtain ⟨x, rfl, hz, q⟩ := h
  obtain ⟨u, rfl, t, rfl⟩ := vals1 r
  exact ord_of_one hz ⟨.int _, H, I.tok _, ⟨_, rfl⟩, q⟩
theorem call_chr : CallR X (.builtin "chr") (fun xs H Q => ∃ i, xs = [.int i] ∧ 0 ≤ i ∧ i ≤ 1114111 ∧ Q (.str ⟨#[i.toNat]⟩) H) := by
  intro pins s σ H xs us Q I r h
  obtain ⟨i, rfl, h0, h1, q⟩ := h
  obtain ⟨u, rfl, t, rfl⟩ := vals1 r
  exact chr_of_range h0 h1 ⟨.str _, H, I.tok _, ⟨_, rfl⟩, q⟩
/-- len of a str, a bytes, a list, a tuple -/
def LenV (K : PySem.W.Frag) (x : V) (H : Hp) (n : Nat) : Prop :=
  match x with
  | .str y => y.length ≤ sizeLine ∧ n = y.length
  | .byt y => y.size ≤ sizeLine ∧ n = y.size
  | .ref p => (∃ xs, SqL K H p xs ∧ n = xs.length) ∨ ∃ xs, SqT K H p xs ∧ n = xs.length
  | _ => False
theorem call_len : CallR X (.builtin "len") (fun xs H Q => ∃ x n, xs = [x] ∧ LenV X.K x H n ∧ Q (.int n) H) := by
  intro pins s σ H xs us Q I r h
  obtain ⟨x, n, rfl, e, q⟩ := h
  obtain ⟨u, rfl, rx⟩ := vals1 r
  have hl := line63
  have hs : sizeLine = 16777216 := sizeLine_eq
  cases x with
  | str y =>
    obtain ⟨t, rfl⟩ := rx
    obtain ⟨hy, e'⟩ : y.length ≤ sizeLine ∧ n = y.length := e
    subst e'
    exact len_str (by omega) ⟨.int _, H, I.tok _, ⟨_, rfl⟩, q⟩
  | byt y =>
    obtain ⟨t, rfl⟩ := rx
    obtain ⟨hy, e'⟩ : y.size ≤ sizeLine ∧ n = y.size := e
    subst e'
    exact PySem.W.len_bytes (by omega) ⟨.int _, H, I.tok _, ⟨_, rfl⟩, q⟩
  | ref p =>
    cases rx
    have e' : (∃ xs, SqL X.K H p xs ∧ n = xs.length) ∨ ∃ xs, SqT X.K H p xs ∧ n = xs.length := e
    rcases e' with ⟨xs, hx, e'⟩ | ⟨xs, hx, e'⟩
    · subst e'
      obtain ⟨its, r', pl, hz⟩ := I.list hx
      have hlen := r'.length
      exact Calls.call_len_list pl.isList (by simp only [List.size_toArray]; omega) ⟨.int xs.length, H, I.tok _, ⟨_, by simp only [List.size_toArray]; rw [hlen]⟩, q⟩
    · subst e'
      obtain ⟨its, r', pl, hz⟩ := I.tuple hx
      have hlen := r'.length
      exact len_tuple pl (by simp only [List.size_toArray]; omega) ⟨.int xs.length, H, I.tok _, ⟨_, by simp only [List.size_toArray]; rw [hlen]⟩, q⟩
  | _ => exact (show False from e).elim
/-- divmod: a new tuple -/
theorem call_divmod : CallR X (.builtin "divmod") (fun xs H Q => ∃ i j, xs = [.int i, .int j] ∧ CDiv i j ∧ ∀ p, H p = none → Q (.ref p) (upd H p (.tup [.int (i / j), .int (i % j)]))) := by
  intro pins s σ H xs us Q I r h
  obtain ⟨i, j, rfl, ⟨h1, h2⟩, q⟩ := h
  obtain ⟨u, w', rfl, ⟨t, rfl⟩, ⟨t', rfl⟩⟩ := vals2 r
  refine divmod_int (by omega) ?_ (.inl (PyProof.noPylong_small (by omega)))
  rw [Int.fdiv_eq_ediv_of_nonneg i (by omega), Int.fmod_eq_emod_of_nonneg i (by omega)]
  have hn : H s.heap.objs.size = none := I.hok.fresh (Nat.le_refl _)
  refine ⟨.ref s.heap.objs.size, _, ?_, rfl, q _ hn⟩
  refine I.laid (fun b o e => Heap.get?_push_of_some _ e) (Nat.le_refl _) ⟨by simp only [List.length_cons, List.length_nil]; rw [sizeLine_eq]; decide, [.int (i / j) s.toks, .int (i % j) (s.toks + 1)], .cons ⟨_, rfl⟩ (.cons ⟨_, rfl⟩ .nil), ?_⟩
  exact ⟨_, Heap.get?_push_size s.heap rfl, rfl, 0, rfl⟩
end
end L2

namespace L2
open PySem PySem.Spec PyProof.Rows

/-! ### an instance, its attributes a map -/
structure ObjM (h : Heap) (x dx C : Addr) (mA : Str → Option Value) : Prop where
  obj : h.get? x = some (PySem.W.instObj C dx)
  ns : h.Ns1 dx mA
  ne : dx ≠ x

theorem lookIn_ns {h : Heap} {dx : Addr} {mA : Str → Option Value} (n : h.Ns1 dx mA) : ∃ od, h.get? dx = some od ∧ ∀ name, PySem.W.lookIn name od = some (mA name) := by
  obtain ⟨o, es, ep, ho, hd, hk, _, hm⟩ := n
  refine ⟨o, ho, fun name => ?_⟩
  have e := hm name
  unfold nsFind findBy at e
  rw [← Array.find?_toList] at e
  unfold PySem.W.lookIn
  rw [hd]
  dsimp only
  split
  · rename_i y q
    rw [q] at e
    exact congrArg some e
  · rename_i q
    rw [q] at e
    have a : es.toList.any (·.refKey) = false := by
      rw [List.any_eq_false]
      intro y hy
      obtain ⟨z, t, hkey⟩ := hk y (Array.mem_toList_iff.mp hy)
      simp [DictEntry.refKey, hkey]
    have a' : ¬ es.toList.any (·.refKey) = true := by rw [a]; exact Bool.false_ne_true
    rw [if_neg a']
    exact congrArg some e

theorem ObjM.look {h : Heap} {x dx C : Addr} {mA : Str → Option Value} (I : ObjM h x dx C mA) : ∃ od, PySem.W.InstAt h x (PySem.W.instObj C dx) C (some od) ∧ ∀ name, PySem.W.lookIn name od = some (mA name) :=
  let ⟨od, ho, hl⟩ := lookIn_ns I.ns
  ⟨od, ⟨I.obj, rfl, rfl, ho⟩, hl⟩

section
variable {prog : Program} {w : World} {A : Around} {E : Value → Shared → Prop} {s : Shared} {K : PySem.W.Frag} {x dx C f : Addr} {mA : Str → Option Value} {name : Str} {v : Value}

theorem get_map {expr : Bool} {Q : Value → Shared → Prop} (X : K.In s.heap) (I : ObjM s.heap x dx C mA) (hg : PySem.W.plainGet K C name = true) (hh : PySem.W.hasDictIn K C = true)
    (ha : PySem.W.findIn K (.ref C) name = some none) (hv : mA name = some v) (hv' : PySem.W.handedIn v = true) (h : Q v { s with toks := s.toks + 1 }) :
    wpAny (model prog w) A (getAttr (.ref x) name expr) Q E s := by
  obtain ⟨od, J, hl⟩ := I.look
  exact PySem.W.get_value X J (PySem.W.plainGet_of hg).1 (PySem.W.findObj_own hh ha rfl (by rw [hl, hv])) hv' h

theorem get_const {expr : Bool} {a : Value} {Q : Value → Shared → Prop} (X : K.In s.heap) (I : ObjM s.heap x dx C mA) (hg : PySem.W.plainGet K C name = true) (hh : PySem.W.hasDictIn K C = true)
    (ha : PySem.W.findIn K (.ref C) name = some (some a)) (hn : PySem.W.specialIn K a "__get__" = some none) (hc : PySem.W.copiedNames.contains name = false) (hv : mA name = none) (hv' : PySem.W.handedIn a = true)
    (h : Q a { s with toks := s.toks + 1 }) : wpAny (model prog w) A (getAttr (.ref x) name expr) Q E s := by
  obtain ⟨od, J, hl⟩ := I.look
  exact PySem.W.get_value X J (PySem.W.plainGet_of hg).1 (PySem.W.findObj_cls hh ha hn hv' hc (by rw [hl, hv])) hv' h

theorem get_meth {pl : Sem Bool} {Q : Value × List Value → Shared → Prop} (X : K.In s.heap) (I : ObjM s.heap x dx C mA) (hg : PySem.W.plainGet K C name = true)
    (hf : PySem.W.findIn K (.ref C) name = some (some (.ref f))) (ht : PySem.W.isFn K (.ref f) = true) (hv : mA name = none) (h : Q (.ref f, [.ref x]) s) :
    wpAny (model prog w) A (getMethod (.ref x) name pl) Q E s := by
  obtain ⟨od, J, hl⟩ := I.look
  exact PySem.W.method_fn X J (PySem.W.plainGet_of hg).1 (PySem.W.plainGet_of hg).2 hf (beq_iff_eq.mp ht) (by show (PySem.W.lookIn name od).map (·.isSome) = some false; rw [hl, hv]; rfl) h

theorem set_map {ns : List Str} {Q : Unit → Shared → Prop} (X : K.In s.heap) (I : ObjM s.heap x dx C mA)
    (hs : PySem.W.findIn K (.ref C) "__setattr__" = some (some (.builtin "object.__setattr__"))) (hp : PySem.W.plainOver K C = true) (ht : PySem.W.takerIn K C name = some none) (hh : PySem.W.hasDictIn K C = true)
    (hw : PySem.Within mA ns) (hsz : ns.length ≤ sizeLine)
    (h : ∀ h', ObjM h' x dx C (fun y => if y = name then some v else mA y) → Heap.SameBut dx s.heap h' → Q () { s with heap := h', toks := s.toks + 2 }) :
    wpAny (model prog w) A (setAttr (.ref x) name v) Q E s := by
  obtain ⟨od, J, hl⟩ := I.look
  refine PySem.W.set_plain X J hs (PySem.W.osa_open (s := { s with toks := s.toks + 1 }) (r := none) X J hp ht fun b => ?_)
  obtain ⟨cd, hc, hd'⟩ := PySem.W.any_some hh
  have hx : s.heap.get? x = some ⟨.ref C, some dx, .plain, #[]⟩ := I.obj
  refine wpAny_bind (wpAny_pure (wpAny_bind (wpAny_bind (wpAny_loadPart hx (wpAny_bind (PySem.W.Looks.here (s := { s with toks := s.toks + 1 }) (PySem.W.looks_clsIn X hc) ?_))))))
  rw [hd']
  refine wpAny_pure (a := some dx) (wpAny_bind (wpAny_pure (wpAny_bind ?_)))
  refine wpAny_nsSet1 (s := { s with toks := s.toks + 1 }) I.ns fun h' hn2 hs2 => ?_
  obtain ⟨oD, esD, epD, hoD, hdD, hcD⟩ := hn2.count (PySem.Within.cons name v hw)
  refine wpAny_bind (wpAny_lookBehind hoD (by rw [hdD]; exact pastItsLine_dict (Nat.le_trans hcD (by rw [List.length_cons]; omega))) ?_)
  exact wpAny_pure (h _ ⟨(hs2.2 _ (Ne.symm I.ne)).trans I.obj, hn2, I.ne⟩ hs2)

/-- C(..): the dict at the heap's end, the instance behind it; then its __init__ -/
theorem make_map {R : Result → Shared → Prop} {vs : List Value} {kw : List (Str × Value)} (X : K.In s.heap) (hm : PySem.W.makesIn K C = true)
    (hi : PySem.W.findIn K (.ref C) "__init__" = some (some (.ref f))) (hf : PySem.W.typeIn K (.ref f) = some (.type "function"))
    (h : codeAny (model prog w) (A.under (.builtin "type.__call__" ⟨.ref C :: vs, kw⟩)) (.call (.ref f) ⟨.ref (s.heap.objs.size + 1) :: vs, kw⟩) (PySem.W.InitBack (s.heap.objs.size + 1) R)
      { s with heap := (s.heap.push PySem.W.emptyDict).push (PySem.W.instObj C s.heap.objs.size) }) :
    codeAny (model prog w) A (.call (.ref C) ⟨vs, kw⟩) R s := by
  obtain ⟨hh, g, d, t, os⟩ := s
  exact PySem.W.make_core (PySem.W.makes_of X hm) (PySem.W.looks_findIn X hi) (fun self => PySem.W.bind_fn X self hf) (.inl rfl) h
/-- C() where there is no __init__ but object's -/
theorem make_map0 {R : Result → Shared → Prop} (X : K.In s.heap) (hm : PySem.W.makesIn K C = true)
    (hi : PySem.W.findIn K (.ref C) "__init__" = some (some (.builtin "object.__init__")))
    (hb : ∀ self, PySem.W.Looks (model prog w) s.heap (bindSpecial (.builtin "object.__init__") self) (.builtin "object.__init__", [self]))
    (h : codeAny (model prog w) (A.under (.builtin "type.__call__" ⟨[.ref C], []⟩)) (.call (.builtin "object.__init__") ⟨[.ref (s.heap.objs.size + 1)], []⟩) (PySem.W.InitBack (s.heap.objs.size + 1) R)
      { s with heap := (s.heap.push PySem.W.emptyDict).push (PySem.W.instObj C s.heap.objs.size) }) :
    codeAny (model prog w) A (.call (.ref C) ⟨[], []⟩) R s := by
  obtain ⟨hh, g, d, t, os⟩ := s
  exact PySem.W.make_core (PySem.W.makes_of X hm) (PySem.W.looks_findIn X hi) hb (.inr ⟨rfl, rfl⟩) h
end

/-! ### the attributes as a list of pairs -/
def putF (f : Str) (v : V) : List (Str × V) → List (Str × V)
  | [] => [(f, v)]
  | (g, x) :: r => if g = f then (g, v) :: r else (g, x) :: putF f v r
theorem lookup_putF (f g : Str) (v : V) : ∀ fs : List (Str × V), (putF f v fs).lookup g = if g = f then some v else fs.lookup g
  | [] => by
    show List.lookup g [(f, v)] = _
    by_cases h : g = f
    · have hb : (g == f) = true := beq_iff_eq.mpr h
      simp only [List.lookup, hb, if_pos h]
    · have hb : (g == f) = false := beq_eq_false_iff_ne.mpr h
      simp only [List.lookup, hb, if_neg h]
  | (k, x) :: r => by
    have ih := lookup_putF f g v r
    rw [show putF f v ((k, x) :: r) = (if k = f then (k, v) :: r else (k, x) :: putF f v r) from rfl]
    by_cases hk : k = f
    · rw [if_pos hk]
      by_cases h : g = k
      · have hb : (g == k) = true := beq_iff_eq.mpr h
        simp only [List.lookup, hb, if_pos (h.trans hk)]
      · have hb : (g == k) = false := beq_eq_false_iff_ne.mpr h
        simp only [List.lookup, hb, if_neg (fun e : g = f => h (e.trans hk.symm))]
    · rw [if_neg hk]
      by_cases h : g = k
      · have hb : (g == k) = true := beq_iff_eq.mpr h
        simp only [List.lookup, hb, if_neg (fun e : g = f => hk (h.symm.trans e))]
      · have hb : (g == k) = false := beq_eq_false_iff_ne.mpr h
        simp only [List.lookup, hb]
        exact ih
theorem keys_putF (f : Str) (v : V) : ∀ fs : List (Str × V), f ∈ (putF f v fs).map (·.1) ∧ ∀ g, g ∈ fs.map (·.1) → g ∈ (putF f v fs).map (·.1)
  | [] => ⟨by simp [putF], fun g h => by simp at h⟩
  | (k, x) :: r => by
    obtain ⟨i1, i2⟩ := keys_putF f v r
    rw [show putF f v ((k, x) :: r) = (if k = f then (k, v) :: r else (k, x) :: putF f v r) from rfl]
    by_cases hk : k = f
    · rw [if_pos hk]
      subst hk
      exact ⟨by simp, fun g h => by simpa using h⟩
    · rw [if_neg hk]
      refine ⟨?_, fun g h => ?_⟩
      · rw [List.map_cons]
        exact List.mem_cons_of_mem _ i1
      · rw [List.map_cons] at h ⊢
        rcases List.mem_cons.mp h with e | e
        · exact List.mem_cons.mpr (.inl e)
        · exact List.mem_cons_of_mem _ (i2 g e)
theorem length_putF (f : Str) (v : V) : ∀ fs : List (Str × V), (putF f v fs).length ≤ fs.length + 1
  | [] => by simp [putF]
  | (k, x) :: r => by
    have ih := length_putF f v r
    rw [show putF f v ((k, x) :: r) = (if k = f then (k, v) :: r else (k, x) :: putF f v r) from rfl]
    by_cases hk : k = f
    · rw [if_pos hk, List.length_cons, List.length_cons]; omega
    · rw [if_neg hk, List.length_cons, List.length_cons]; omega

theorem RelO.some_of {v : V} {o : Option Value} (r : RelO (some v) o) : ∃ u, o = some u ∧ RelV v u := by
  cases o with
  | none => exact (show False from r).elim
  | some u => exact ⟨u, rfl, r⟩
theorem RelO.none_of {o : Option Value} (r : RelO none o) : o = none := by
  cases o with
  | none => rfl
  | some u => exact (show False from r).elim
theorem handed_of {v : V} {u : Value} (r : RelV v u) : PySem.W.handedIn u = true := by
  cases v with
  | non => cases (show u = Value.none from r); rfl
  | bl b => cases (show u = Value.bool b from r); rfl
  | int i => obtain ⟨t, e⟩ := (show ∃ t, u = Value.int i t from r); cases e; rfl
  | str x => obtain ⟨t, e⟩ := (show ∃ t, u = Value.str x t from r); cases e; rfl
  | byt b => obtain ⟨t, e⟩ := (show ∃ t, u = Value.bytes b t from r); cases e; rfl
  | flt b => obtain ⟨t, e⟩ := (show ∃ t, u = Value.float b t from r); cases e; rfl
  | ref a => cases (show u = Value.ref a from r); rfl
  | ty n => cases (show u = Value.type n from r); rfl

section
variable {P : Program} {w : World} {H H' : Hp} {h h' : Heap} {a C dx : Addr} {fs fs' : List (Str × V)}
theorem ins_get (hok : HOk P w H h) (e : H a = some (.ins C dx fs)) : ∃ mA, ObjM h a dx C mA ∧ (∀ f, RelO (fs.lookup f) (mA f)) ∧ PySem.Within mA (fs.map (·.1)) ∧ fs.length ≤ 1000 ∧ H dx = some (.own a) := by
  obtain ⟨d, z, ne, ob, mA, n, r, q⟩ := (show ObjOk P w H h a (.ins C dx fs) from hok a _ e)
  exact ⟨mA, ⟨ob, n, ne⟩, r, q, z, d⟩
end

/-! ### what of the text a class must have -/
structure Cls (K : PySem.W.Frag) (C : Addr) : Prop where
  pg : PySem.W.plainGet K C Str.empty = true
  hd : PySem.W.hasDictIn K C = true
  po : PySem.W.plainOver K C = true
  sa : PySem.W.findIn K (.ref C) "__setattr__" = some (some (.builtin "object.__setattr__"))
theorem Cls.get {K : PySem.W.Frag} {C : Addr} (c : Cls K C) (f : Str) : PySem.W.plainGet K C f = true := c.pg
/-- no class of it has the name -/
def NoAttr (K : PySem.W.Frag) (C : Addr) (f : Str) : Prop := PySem.W.findIn K (.ref C) f = some none
theorem NoAttr.taker {K : PySem.W.Frag} {C : Addr} {f : Str} (n : NoAttr K C f) : PySem.W.takerIn K C f = some none := by
  unfold PySem.W.takerIn
  rw [show PySem.W.findIn K (.ref C) f = some none from n]
  rfl
/-- a constant of the class -/
structure Con (K : PySem.W.Frag) (C : Addr) (f : Str) (v : V) (u : Value) : Prop where
  at_ : PySem.W.findIn K (.ref C) f = some (some u)
  rel : RelV v u
  get : PySem.W.specialIn K u "__get__" = some none
  cp : PySem.W.copiedNames.contains f = false
/-- a method: a plain def of the class or of one above it -/
structure Meth (K : PySem.W.Frag) (C : Addr) (m : Str) (f : Addr) : Prop where
  at_ : PySem.W.findIn K (.ref C) m = some (some (.ref f))
  fn : PySem.W.isFn K (.ref f) = true
  kp : PySem.W.keepIn K (.ref f) = true

section
variable {X : Cx} {pins : List (Addr × Obj)} {σ : St} {H : Hp} {s : Shared} {a C dx : Addr} {fs : List (Str × V)} {f : Str} {v : V} {A : Around} {E : Value → Shared → Prop}

theorem getattr_ok {b : Bool} {Q : Value → Shared → Prop} (I : Inv X pins σ H s) (e : H a = some (.ins C dx fs)) (c : Cls X.K C) (n : NoAttr X.K C f) (l : fs.lookup f = some v)
    (h : ∀ u s', Inv X pins σ H s' → RelV v u → Q u s') : wpAny (model X.prog X.w) A (getAttr (.ref a) f b) Q E s := by
  obtain ⟨mA, O, r, _, _, _⟩ := ins_get I.hok e
  obtain ⟨u, hu, ru⟩ := RelO.some_of (v := v) (o := mA f) (by rw [← l]; exact r f)
  exact get_map I.kIn O (c.get f) c.hd n hu (handed_of ru) (h u _ (I.tok _) ru)

theorem getcon_ok {b : Bool} {u : Value} {Q : Value → Shared → Prop} (I : Inv X pins σ H s) (e : H a = some (.ins C dx fs)) (c : Cls X.K C) (k : Con X.K C f v u) (l : fs.lookup f = none)
    (h : ∀ s', Inv X pins σ H s' → Q u s') : wpAny (model X.prog X.w) A (getAttr (.ref a) f b) Q E s := by
  obtain ⟨mA, O, r, _, _, _⟩ := ins_get I.hok e
  have hn : mA f = none := RelO.none_of (by rw [← l]; exact r f)
  exact get_const I.kIn O (c.get f) c.hd k.at_ k.get k.cp hn (handed_of k.rel) (h _ (I.tok _))

theorem getmeth_ok {m : Str} {g : Addr} {pl : Sem Bool} {Q : Value × List Value → Shared → Prop} (I : Inv X pins σ H s) (e : H a = some (.ins C dx fs)) (c : Cls X.K C) (k : Meth X.K C m g) (l : fs.lookup m = none)
    (h : Q (.ref g, [.ref a]) s) : wpAny (model X.prog X.w) A (getMethod (.ref a) m pl) Q E s := by
  obtain ⟨mA, O, r, _, _, _⟩ := ins_get I.hok e
  have hn : mA m = none := RelO.none_of (by rw [← l]; exact r m)
  exact get_meth I.kIn O (c.get m) k.at_ k.fn hn h

theorem setattr_ok {y : V} {u : Value} {Q : Unit → Shared → Prop} (I : Inv X pins σ H s) (e : H a = some (.ins C dx fs)) (c : Cls X.K C) (n : NoAttr X.K C f) (hl : fs.length < 1000) (ry : RelV y u)
    (h : ∀ s', Inv X pins σ (upd H a (.ins C dx (putF f y fs))) s' → Q () s') : wpAny (model X.prog X.w) A (setAttr (.ref a) f u) Q E s := by
  obtain ⟨mA, O, r, wi, _, ho⟩ := ins_get I.hok e
  have hz : (fs.map (·.1)).length ≤ sizeLine := by rw [List.length_map, sizeLine_eq]; omega
  refine set_map I.kIn O c.sa c.po n.taker c.hd wi hz fun h' O' sb => h _ ?_
  have hd : ∃ o, h'.get? dx = some o := let ⟨o, _, _, e', _⟩ := O'.ns; ⟨o, e'⟩
  refine I.write (x := a) (e := dx) (by rw [e]; exact True.intro) (.inr ho) (fun b q hb z => (sb.2 b hb).trans z) hd ?_
  refine ⟨by rw [upd_ne O.ne]; exact ho, ?_, O.ne, O'.obj, _, O'.ns, fun g => ?_, fun g hg => ?_⟩
  · have := length_putF f y fs; omega
  · show RelO ((putF f y fs).lookup g) (if g = f then some u else mA g)
    rw [lookup_putF]
    by_cases q : g = f
    · rw [if_pos q, if_pos q]; exact ry
    · rw [if_neg q, if_neg q]; exact r g
  · by_cases q : g = f
    · rw [q]; exact (keys_putF f y fs).1
    · refine (keys_putF f y fs).2 g (wi g fun z => hg ?_)
      show (if g = f then some u else mA g) = none
      rw [if_neg q]; exact z

/-- a new instance, tracked, without attributes -/
theorem Inv.made (I : Inv X pins σ H s) : Inv X pins σ (upd (upd H s.heap.objs.size (.own (s.heap.objs.size + 1))) (s.heap.objs.size + 1) (.ins C s.heap.objs.size []))
    { s with heap := (s.heap.push PySem.W.emptyDict).push (PySem.W.instObj C s.heap.objs.size) } := by
  have e1 : (s.heap.push PySem.W.emptyDict).get? s.heap.objs.size = some PySem.W.emptyDict := Heap.get?_push_size s.heap rfl
  have e2 : ((s.heap.push PySem.W.emptyDict).push (PySem.W.instObj C s.heap.objs.size)).get? (s.heap.objs.size + 1) = some (PySem.W.instObj C s.heap.objs.size) := by
    have := Heap.get?_push_size (s.heap.push PySem.W.emptyDict) (o := PySem.W.instObj C s.heap.objs.size) rfl
    rwa [Heap.size_push] at this
  have e3 : (s.heap.push PySem.W.emptyDict).Ns s.heap.objs.size (fun _ => none) := ⟨PySem.W.emptyDict, #[], _, e1, rfl, (fun e he => absurd he (by simp)), fun _ => rfl⟩
  have I1 := I.laid (a := s.heap.objs.size) (o := .own (s.heap.objs.size + 1)) (h' := s.heap.push PySem.W.emptyDict) (t' := s.toks) (fun b u q => Heap.get?_push_of_some _ q) (Nat.le_refl _) ⟨_, e1⟩
  refine I1.laid (a := s.heap.objs.size + 1) (o := .ins C s.heap.objs.size []) (t' := s.toks) (fun b u q => Heap.get?_push_of_some _ q) (Nat.le_of_eq (Heap.size_push _ _)) ?_
  have ne : s.heap.objs.size ≠ s.heap.objs.size + 1 := Nat.ne_of_lt (Nat.lt_succ_self _)
  refine ⟨by rw [upd_ne ne, upd_same], Nat.zero_le _, ne, e2, fun _ => none, (Heap.Ns1.of_empty e3).at fun o q => Heap.get?_push_of_some _ q, fun _ => True.intro, fun y hy => absurd rfl hy⟩

/-- e.f where nothing but the object is asked: through attributeBase (super) and the last hold -/
theorem attr_of {prog : Program} {w : World} {env : Env} {e : Expr} {f : Str} {pos : Pos} {s : Shared} {Q : Value → Shared → Prop} (hb : attributeBase e f env (eval e env) = eval e env)
    (h : wpAny (model prog w) A (eval e env) (fun o s₁ => wpAny (model prog w) A (getAttr o f true) Q E s₁) E s) : wpAny (model prog w) A (eval (.Attribute e f pos) env) Q E s :=
  Attribute_any_ h (by rw [arm_eval_Attribute, hb])
end

/-! ### readings and rules -/
/-- e.f, an attribute of the instance -/
def tFld (K : PySem.W.Frag) (ta : TE) (f : Str) : TE := fun σ H Q => ta σ H fun x H1 => ∃ a C dx fs v, x = .ref a ∧ H1 a = some (.ins C dx fs) ∧ Cls K C ∧ NoAttr K C f ∧ fs.lookup f = some v ∧ Q v H1
/-- e.f, a constant of the class -/
def tCon (K : PySem.W.Frag) (ta : TE) (f : Str) : TE := fun σ H Q => ta σ H fun x H1 => ∃ a C dx fs v u, x = .ref a ∧ H1 a = some (.ins C dx fs) ∧ Cls K C ∧ Con K C f v u ∧ fs.lookup f = none ∧ Q v H1
/-- e.f = value -/
def sFld (K : PySem.W.Frag) (ta tv : TE) (f : Str) : TS := fun D σ H => tv σ H fun y H1 => ta σ H1 fun x H2 => ∃ a C dx fs, x = .ref a ∧ H2 a = some (.ins C dx fs) ∧ Cls K C ∧ NoAttr K C f ∧ fs.length < 1000 ∧
  D.nx σ (upd H2 a (.ins C dx (putF f y fs)))
/-- an augmented operator on two values -/
def InOp (X : Cx) (op : Operator) (rd : V → V → Hp → VK → Prop) : Prop :=
  ∀ (pins : List (Addr × Obj)) (s : Shared) (σ : St) (H : Hp) (x y : V) (u v : Value) (Q : VK), Inv X pins σ H s → RelV x u → RelV y v → rd x y H Q → wpAny (model X.prog X.w) X.A (inplaceOp op u v) (EP X pins σ Q) X.xe s
/-- e.f op= value -/
def sFldAug (K : PySem.W.Frag) (ta tv : TE) (rd : V → V → Hp → VK → Prop) (f : Str) : TS := fun D σ H => ta σ H fun x H1 => ∃ a C dx fs v, x = .ref a ∧ H1 a = some (.ins C dx fs) ∧ Cls K C ∧ NoAttr K C f ∧ fs.lookup f = some v ∧
  tv σ H1 fun y H2 => rd v y H2 fun z H3 => ∃ dx' fs', H3 a = some (.ins C dx' fs') ∧ fs'.length < 1000 ∧ D.nx σ (upd H3 a (.ins C dx' (putF f z fs')))

section
variable {X : Cx} {o e value : Expr} {f : Str} {pos pos' tpos : Pos} {ta tv : TE}
theorem pe_fld (he : PE X e ta) (hb : attributeBase e f X.env (eval e X.env) = eval e X.env) : PE X (.Attribute e f pos) (tFld X.K ta f) := by
  intro pins s σ H Q I h
  refine attr_of hb (thn (he pins s σ H _ I h) fun u s1 ⟨x, H1, I1, rx, a, C, dx, fs, v, ex, ea, c, n, l, q⟩ => ?_)
  subst ex
  obtain rfl : u = Value.ref a := rx
  exact getattr_ok I1 ea c n l fun u' s2 I2 ru => ⟨v, H1, I2, ru, q⟩
theorem pe_con (he : PE X e ta) (hb : attributeBase e f X.env (eval e X.env) = eval e X.env) : PE X (.Attribute e f pos) (tCon X.K ta f) := by
  intro pins s σ H Q I h
  refine attr_of hb (thn (he pins s σ H _ I h) fun u s1 ⟨x, H1, I1, rx, a, C, dx, fs, v, u0, ex, ea, c, k, l, q⟩ => ?_)
  subst ex
  obtain rfl : u = Value.ref a := rx
  exact getcon_ok I1 ea c k l fun s2 I2 => ⟨v, H1, I2, k.rel, q⟩
theorem ps_fld (ha : PE X o ta) (hv : PE X value tv) (hs : swapsWith value (some (.Attribute o f pos')) pos.line X.env = pure false) : PS X (.Assign [.Attribute o f pos'] value pos) (sFld X.K ta tv f) := by
  intro pins s σ H D I h
  refine plainObj_wpAny_Assign_Attribute (thn (hv pins s σ H _ I h) fun u s1 ⟨y, H1, I1, ry, q⟩ => thn (ha pins s1 σ H1 _ I1 q) fun ov s2 ⟨x, H2, I2, rx, a, C, dx, fs, ex, ea, c, n, l, q2⟩ => ?_) hs
  subst ex
  obtain rfl : ov = Value.ref a := rx
  exact setattr_ok I2 ea c n l ry fun s3 I3 => ⟨σ, _, I3, q2⟩
theorem ps_fldaug {op : Operator} {rd : V → V → Hp → VK → Prop} (ha : PE X o ta) (hv : PE X value tv) (hop : InOp X op rd) : PS X (.AugAssign (.Attribute o f tpos) op value pos) (sFldAug X.K ta tv rd f) := by
  intro pins s σ H D I h
  refine wpAny_AugAssign_AttributeAny (thn (ha pins s σ H _ I h) fun ov s1 ⟨x, H1, I1, rx, a, C, dx, fs, v, ex, ea, c, n, l, q⟩ => ?_)
  subst ex
  obtain rfl : ov = Value.ref a := rx
  refine getattr_ok I1 ea c n l fun u s2 I2 ru => thn (hv pins s2 σ H1 _ I2 q) fun w3 s3 ⟨y, H2, I3, ry, q3⟩ => thn (hop pins s3 σ H2 v y u w3 _ I3 ru ry q3) fun w4 s4 ⟨z, H3, I4, rz, dx', fs', ea', l', q4⟩ => ?_
  exact setattr_ok I4 ea' c n l' rz fun s5 I5 => ⟨σ, _, I5, q4⟩
def rAdd : V → V → Hp → VK → Prop := fun x y H Q => ∃ i j, x = .int i ∧ y = .int j ∧ Q (.int (i + j)) H
def rSub : V → V → Hp → VK → Prop := fun x y H Q => ∃ i j, x = .int i ∧ y = .int j ∧ Q (.int (i - j)) H
theorem in_add : InOp X .Add rAdd := by
  rintro pins s σ H x y u v Q I rx ry ⟨i, j, rfl, rfl, q⟩
  obtain ⟨t, rfl⟩ := (show ∃ t, u = Value.int i t from rx)
  obtain ⟨t', rfl⟩ := (show ∃ t', v = Value.int j t' from ry)
  exact PyProof.Rows.iadd_int ⟨.int (i + j), H, I.tok _, ⟨_, rfl⟩, q⟩
theorem in_sub : InOp X .Sub rSub := by
  rintro pins s σ H x y u v Q I rx ry ⟨i, j, rfl, rfl, q⟩
  obtain ⟨t, rfl⟩ := (show ∃ t, u = Value.int i t from rx)
  obtain ⟨t', rfl⟩ := (show ∃ t', v = Value.int j t' from ry)
  exact PyProof.Rows.isub_int ⟨.int (i - j), H, I.tok _, ⟨_, rfl⟩, q⟩

/-- what is between an instance and its method: the tree of a method call -/
theorem methcall_of {pl : Sem Bool} {m : Str} {apos : Pos} {args : List Expr} {pins : List (Addr × Obj)} {s : Shared} {σ : St} {H : Hp} {Q : Value → Shared → Prop} {te : TE} (he : PE X e te) (I : Inv X pins σ H s)
    (h : te σ H fun x H1 => ∃ a C dx fs g, x = .ref a ∧ H1 a = some (.ins C dx fs) ∧ Cls X.K C ∧ Meth X.K C m g ∧ fs.lookup m = none ∧
      ∀ s1, Inv X pins σ H1 s1 → wpAny (model X.prog X.w) X.A (callWith pos (.ref g) [.ref a] (backTo pos (starEach args X.env)) (backToKw pos (keywordEach [] X.env))) Q X.xe s1)
    (ht : eval (.Call (.Attribute e m apos) args [] pos) X.env = (do
      let ov ← eval e X.env
      standAt apos.atName
      let (f, first) ← holding [ov] (getMethod ov m pl)
      callWith pos f first (backTo pos (starEach args X.env)) (backToKw pos (keywordEach [] X.env)))) :
    wpAny (model X.prog X.w) X.A (eval (.Call (.Attribute e m apos) args [] pos) X.env) Q X.xe s := by
  refine PySem.W.methodCall_KW (pl := pl) (thn (he pins s σ H _ I h) fun u s1 ⟨x, H1, I1, rx, a, C, dx, fs, g, ex, ea, c, k, l, q⟩ => ?_) ht
  subst ex
  obtain rfl : u = Value.ref a := rx
  exact getmeth_ok I1 ea c k l (q s1 I1)
end

/-! ### isinstance -/
section
variable {X : Cx} {pins : List (Addr × Obj)} {σ : St} {H : Hp} {s : Shared} {A : Around} {E : Value → Shared → Prop} {Q : Value → Shared → Prop} {c : Value} {b : Bool}
/-- the type of a value, as the fragment's deciders take it; for an instance its class -/
inductive TyOf (K : PySem.W.Frag) (H : Hp) : V → Value → Prop where
  | non : TyOf K H .non (.type "NoneType")
  | bl (x : Bool) : TyOf K H (.bl x) (.type "bool")
  | int (i : Int) : TyOf K H (.int i) (.type "int")
  | str (x : Str) : TyOf K H (.str x) (.type "str")
  | flt (x : UInt64) : TyOf K H (.flt x) (.type "float")
  | lst {a : Addr} {xs : List V} (e : H a = some (.lst xs)) : TyOf K H (.ref a) (.type "list")
  | frz {a : Addr} {o : Obj} {xs : List V} (e : H a = some (.frz o (.lst xs))) : TyOf K H (.ref a) (.type "list")
  | tup {a : Addr} {xs : List V} (e : H a = some (.tup xs)) : TyOf K H (.ref a) (.type "tuple")
  | dK {a : Addr} {kvs : List (Key × V)} (e : H a = some (.dK kvs)) : TyOf K H (.ref a) (.type "dict")
  | dT {a : Addr} {kvs : List (List Key × V)} (e : H a = some (.dT kvs)) : TyOf K H (.ref a) (.type "dict")
  | ins {a C dx : Addr} {fs : List (Str × V)} (e : H a = some (.ins C dx fs)) (cl : Cls K C) (ha : PySem.W.findIn K (.ref C) "__class__" = some (some (.builtin "object.__class__")))
      (hn : PySem.W.specialIn K (.builtin "object.__class__") "__get__" = some (some (.builtin "getset_descriptor.__get__"))) (htk : PySem.W.takesIn K (.builtin "object.__class__") = some true)
      (hm : PySem.W.mroIn K C (.type "object") = some true) : TyOf K H (.ref a) (.ref C)
/-- isinstance(x, c) for one class c, a built-in or an own one: kitOne's answer -/
theorem isinst_ok {x : V} {u t : Value} (I : Inv X pins σ H s) (rx : RelV x u) (ty : TyOf X.K H x t) (e : PySem.W.kitOne X.K t c = some b) (h : ∀ tk, Q (.bool b) { s with toks := tk }) :
    wpAny (model X.prog X.w) A (call (.builtin "isinstance") [u, c]) Q E s := by
  cases ty with
  | non => cases (show u = Value.none from rx); exact PySem.W.kia_one PySem.W.kitx_none I.kIn True.intro e (fun z => nomatch z) h
  | bl y => cases (show u = Value.bool y from rx); exact PySem.W.kia_one PySem.W.kitx_bool I.kIn True.intro e (fun z => nomatch z) h
  | int i => obtain ⟨t, q⟩ := (show ∃ t, u = Value.int i t from rx); cases q; exact PySem.W.kia_one PySem.W.kitx_int I.kIn True.intro e (fun z => nomatch z) h
  | str y => obtain ⟨t, q⟩ := (show ∃ t, u = Value.str y t from rx); cases q; exact PySem.W.kia_one PySem.W.kitx_str I.kIn True.intro e (fun z => nomatch z) h
  | flt y => obtain ⟨t, q⟩ := (show ∃ t, u = Value.float y t from rx); cases q; exact PySem.W.kia_one PySem.W.kitx_float I.kIn True.intro e (fun z => nomatch z) h
  | @lst a xs ea =>
    cases (show u = Value.ref a from rx)
    obtain ⟨_, _, n, _, h1⟩ := (show ObjOk X.prog X.w H s.heap a (.lst xs) from I.hok a _ ea)
    exact PySem.W.kia_one PySem.W.kitx_list I.kIn ⟨_, h1, rfl⟩ e (fun z => nomatch z) h
  | @frz a ob xs ea =>
    cases (show u = Value.ref a from rx)
    obtain ⟨_, _, _, n, _, h1⟩ := (show ObjOk X.prog X.w H s.heap a (.frz ob (.lst xs)) from I.hok a _ ea)
    exact PySem.W.kia_one PySem.W.kitx_list I.kIn ⟨_, h1, rfl⟩ e (fun z => nomatch z) h
  | @tup a xs ea =>
    cases (show u = Value.ref a from rx)
    obtain ⟨_, _, _, p⟩ := (show ObjOk X.prog X.w H s.heap a (.tup xs) from I.hok a _ ea)
    obtain ⟨o, h1, h2, _⟩ := p
    exact PySem.W.kia_one PySem.W.kitx_tuple I.kIn ⟨o, h1, h2⟩ e (fun z => nomatch z) h
  | @dK a kvs ea =>
    cases (show u = Value.ref a from rx)
    obtain ⟨_, _, vs, _, p⟩ := (show ObjOk X.prog X.w H s.heap a (.dK kvs) from I.hok a _ ea)
    obtain ⟨o, es, ep, h1, h2, _⟩ := p
    exact PySem.W.kia_one PySem.W.kitx_dict I.kIn ⟨o, h1, h2.1⟩ e (fun z => nomatch z) h
  | @dT a kvs ea =>
    cases (show u = Value.ref a from rx)
    obtain ⟨_, _, xs, _, o, es, ep, h1, h2, _⟩ := (show ObjOk X.prog X.w H s.heap a (.dT kvs) from I.hok a _ ea)
    exact PySem.W.kia_one PySem.W.kitx_dict I.kIn ⟨o, h1, h2.1⟩ e (fun z => nomatch z) h
  | @ins a C dx fs ea cl ha hn htk hm =>
    cases (show u = Value.ref a from rx)
    obtain ⟨mA, O, _⟩ := ins_get I.hok ea
    obtain ⟨od, J, _⟩ := O.look
    exact PySem.W.kia_one (PySem.W.kitx_own (cl.get _) cl.hd ha hn htk hm) I.kIn J e (fun z => nomatch z) h
end
end L2

namespace L2
open PySem PySem.Spec PyProof.Rows

/-! ### room -/
structure Room (k : Nat) (A : Around) : Prop where
  hd : A.handled = none
  dp : A.depth + 3 * k + 5 < recursionLimit
  un : A.units + 16 * k + 200 < cLine
theorem Room.mono {j k : Nat} {A : Around} (r : Room k A) (h : j ≤ k) : Room j A := ⟨r.hd, by have := r.dp; omega, by have := r.un; omega⟩
theorem Room.deeper {k : Nat} {A : Around} (r : Room (k + 1) A) (env : Env) : Room k (A.deeper env) :=
  ⟨r.hd, by have := r.dp; show A.depth + 1 + 3 * k + 5 < _; omega, by have := r.un; show A.units + 3 + 16 * k + 200 < _; omega⟩
theorem Room.in1 {k : Nat} {A : Around} (r : Room (k + 1) A) : Room k A.in1 :=
  ⟨r.hd, by have := r.dp; show A.depth + 3 * k + 5 < _; omega, by have := r.un; show A.units + 1 + 16 * k + 200 < _; omega⟩
theorem make_depth {A : Around} {C : Addr} {us : List Value} {kw : List (Str × Value)} : (A.under (.builtin "type.__call__" ⟨.ref C :: us, kw⟩)).depth = A.depth + 1 := by
  first | rfl | simp [Around.under, Code.weight, Code.isCreation, Code.isGuard, Code.isCaller, Code.frames, Code.isFrame, guardIds]
theorem make_units {A : Around} {C : Addr} {us : List Value} {kw : List (Str × Value)} : (A.under (.builtin "type.__call__" ⟨.ref C :: us, kw⟩)).units = A.units + 1 := by
  first | rfl | simp [Around.under, Code.cUnits, Code.frames, Code.isFrame]
theorem Room.make {k : Nat} {A : Around} (r : Room (k + 1) A) (C : Addr) (us : List Value) (kw : List (Str × Value)) : Room k (A.under (.builtin "type.__call__" ⟨.ref C :: us, kw⟩)) :=
  ⟨r.hd, by have := r.dp; rw [make_depth]; omega, by have := r.un; rw [make_units]; omega⟩
theorem Room.depth {k : Nat} {A : Around} (r : Room k A) : A.depth < recursionLimit := by have := r.dp; omega
theorem Room.units {k : Nat} {A : Around} (r : Room k A) : A.units + 64 < cLine := by have := r.un; omega
theorem Room.units0 {k : Nat} {A : Around} (r : Room k A) : A.units < cLine := by have := r.un; omega

/-! ### argument lists and displays -/
def tNil : TA := fun _ H Q => Q [] H
def tCons (ta : TE) (tr : TA) : TA := fun σ H Q => ta σ H fun x H1 => tr σ H1 fun xs H2 => Q (x :: xs) H2
section
variable {X : Cx} {e : Expr} {es : List Expr} {te : TE} {t : TA} {pos : Pos}
theorem pa_nil : PA X [] tNil := fun _ _ _ _ H Q I h => Calls.spliced_nil ⟨[], H, I, .nil, h⟩
theorem pa_cons (ha : PE X e te) (hr : PA X es t) (hs : starEach (e :: es) X.env = (false, eval e X.env) :: starEach es X.env := by rfl) : PA X (e :: es) (tCons te t) := by
  intro pos pins s σ H Q I h
  rw [hs]
  show wpAny _ _ (spliced ((false, eval e X.env) :: backTo pos (starEach es X.env))) _ _ s
  refine Calls.spliced_cons (thn (ha pins s σ H _ I h) fun u s1 ⟨x, H1, I1, r1, q1⟩ => ?_)
  exact thn (hr pos pins s1 σ H1 _ I1 q1) fun us s2 ⟨xs, H2, I2, r2, q2⟩ => ⟨x :: xs, H2, I2, .cons r1 r2, q2⟩

/-- a tuple, a list of written items -/
def tTup (t : TA) : TE := fun σ H Q => t σ H fun xs H1 => xs.length ≤ sizeLine ∧ ∀ p, H1 p = none → Q (.ref p) (upd H1 p (.tup xs))
def tLst (t : TA) : TE := fun σ H Q => t σ H fun xs H1 => xs.length ≤ sizeLine ∧ ∀ p, H1 p = none → Q (.ref p) (upd H1 p (.lst xs))
theorem pe_tup {x1} (h : PA X es t) : PE X (.Tuple es x1 pos) (tTup t) := by
  intro pins s σ H Q I hq
  refine wpAny_Tuple_spliced (thn (h pos pins s σ H _ I hq) fun us s1 ⟨xs, H1, I1, r, z, q⟩ => ⟨by rw [← r.length]; exact z, ?_⟩)
  have hf : H1 s1.heap.objs.size = none := I1.hok.fresh (Nat.le_refl _)
  refine ⟨.ref s1.heap.objs.size, upd H1 s1.heap.objs.size (.tup xs), I1.laid (t' := s1.toks) (fun b u e => Heap.get?_push_of_some _ e) (Nat.le_refl _) ?_, rfl, q _ hf⟩
  exact ⟨z, us, r, ⟨_, Heap.get?_push_size _ rfl, rfl, _, rfl⟩⟩
theorem pe_lst (h : PA X es t) : PE X (.List es pos) (tLst t) := by
  intro pins s σ H Q I hq
  refine wpAny_List_spliced (thn (h pos pins s σ H _ I hq) fun us s1 ⟨xs, H1, I1, r, z, q⟩ => ⟨by rw [← r.length]; exact z, ?_⟩)
  have hf : H1 s1.heap.objs.size = none := I1.hok.fresh (Nat.le_refl _)
  refine ⟨.ref s1.heap.objs.size, upd H1 s1.heap.objs.size (.lst xs), I1.laid (t' := s1.toks) (fun b u e => Heap.get?_push_of_some _ e) (Nat.le_refl _) ?_, rfl, q _ hf⟩
  exact ⟨z, us, 0, r, Heap.get?_push_size _ rfl⟩
end

/-! ### what a def promises -/
/-- a def's promise: the bound arguments in the parameters' order, the heap, the wanted end, the wanted exception -/
abbrev Sp := List V → Hp → VK → XK → Prop
/-- how an exception lies behind a call (file 08 gives it): the callers' frames, abstract heap and state ahead of the call, the wish, the exception, the state -/
abbrev CXT := List Env → Hp → Shared → XK → Value → Shared → Prop

/-- the state at a call -/
structure Env0 (P : Program) (w : World) (K : PySem.W.Frag) (mg : Str → Option Value) (base : Heap) (A : Around) (outer : List Env) (s : Shared) (H : Hp) : Prop where
  frames : A.frames = some outer
  mod : Mod K mg base
  bs : ∀ b o, base.get? b = some o → s.heap.get? b = some o ∧ H b = none
  bsz : base.objs.size ≤ s.heap.objs.size
  funs : s.heap.FunFrames base outer
  frf : ∀ b ∈ frs outer, H b = none
  hok : HOk P w H s.heap
  bare : AllBare s.gens
/-- a call's end -/
def CE (outer : List Env) (P : Program) (w : World) (H : Hp) (s : Shared) (Q : VK) (u : Value) (s' : Shared) : Prop :=
  ∃ v H', s'.os = s.os ∧ AllBare s'.gens ∧ Un (frs outer) [] H H' s.heap s'.heap ∧ HOk P w H' s'.heap ∧ RelV v u ∧ Q v H'
def CR (CX : CXT) (outer : List Env) (P : Program) (w : World) (H : Hp) (s : Shared) (Q : VK) (E : XK) (r : Result) (s' : Shared) : Prop :=
  match r with
  | .ok (.ret u) => CE outer P w H s Q u s'
  | .ok _ => False
  | .error e => CX outer H s E e s'
structure FnOk (P : Program) (w : World) (K : PySem.W.Frag) (mg : Str → Option Value) (base : Heap) (CX : CXT) (k : Nat) (f : Addr) (fd : FuncData) (ps : List Str) (sp : Sp) : Prop where
  len : ∀ vs H Q E, sp vs H Q E → vs.length = ps.length
  run : ∀ (A : Around) (outer : List Env) (s : Shared) (H : Hp) (args : Args) (us : List Value) (vs : List V) (Q : VK) (E : XK), Room k A → Env0 P w K mg base A outer s H → BindsTo s fd args (ps.zip us) → Vals vs us → sp vs H Q E →
    codeAny (model P w) A (.call (.ref f) args) (CR CX outer P w H s Q E) s
theorem FnOk.mono {P : Program} {w : World} {K : PySem.W.Frag} {mg : Str → Option Value} {base : Heap} {CX : CXT} {j k : Nat} {f : Addr} {fd : FuncData} {ps : List Str} {sp : Sp} (F : FnOk P w K mg base CX j f fd ps sp) (h : j ≤ k) :
    FnOk P w K mg base CX k f fd ps sp := ⟨F.len, fun A outer s H args us vs Q E hr => F.run A outer s H args us vs Q E (hr.mono h)⟩
/-- a weaker promise -/
theorem FnOk.imp {P : Program} {w : World} {K : PySem.W.Frag} {mg : Str → Option Value} {base : Heap} {CX : CXT} {k : Nat} {f : Addr} {fd : FuncData} {ps : List Str} {sp sp' : Sp} (F : FnOk P w K mg base CX k f fd ps sp)
    (h : ∀ vs H Q E, sp' vs H Q E → sp vs H Q E) : FnOk P w K mg base CX k f fd ps sp' :=
  ⟨fun vs H Q E q => F.len vs H Q E (h _ _ _ _ q), fun A outer s H args us vs Q E hr he hb hv hs => F.run A outer s H args us vs Q E hr he hb hv (h _ _ _ _ hs)⟩

theorem Env0.make {P : Program} {w : World} {K : PySem.W.Frag} {mg : Str → Option Value} {base : Heap} {A : Around} {outer : List Env} {s : Shared} {H : Hp} (e : Env0 P w K mg base A outer s H) (C : Addr) (us : List Value) (kw : List (Str × Value)) :
    Env0 P w K mg base (A.under (.builtin "type.__call__" ⟨.ref C :: us, kw⟩)) outer s H := ⟨by first | exact e.frames | (simpa [Around.under, Code.envs, Code.isFrame, pushEnvs] using e.frames), e.mod, e.bs, e.bsz, e.funs, e.frf, e.hok, e.bare⟩
theorem Env0.in1 {P : Program} {w : World} {K : PySem.W.Frag} {mg : Str → Option Value} {base : Heap} {A : Around} {outer : List Env} {s : Shared} {H : Hp} (e : Env0 P w K mg base A outer s H) :
    Env0 P w K mg base A.in1 outer s H := ⟨e.frames, e.mod, e.bs, e.bsz, e.funs, e.frf, e.hok, e.bare⟩

section
variable {X : Cx} {pins : List (Addr × Obj)} {σ : St} {H : Hp} {s s' : Shared}
/-- from a body: what a callee wants -/
theorem Inv.env0 (I : Inv X pins σ H s) : Env0 X.prog X.w X.K X.mg X.base X.A X.stack s H :=
  ⟨I.ok.frames, I.ok.mod, I.bs, Nat.le_trans I.ok.bsz I.sz, I.stack, I.stkFree, I.hok, I.bare⟩
/-- behind a call -/
theorem Inv.after {Q : VK} {u : Value} (I : Inv X pins σ H s) (h : CE X.stack X.prog X.w H s Q u s') : EP X pins σ Q u s' := by
  obtain ⟨v, H', os, bare, un, hok, r, q⟩ := h
  obtain ⟨hh, g, d, t, os'⟩ := s'
  obtain rfl : os' = s.os := os
  exact ⟨v, H', I.call (h' := hh) (g' := g) (d' := d) (t' := t) (ch := []) un hok bare (fun b z => absurd z (by simp)), r, q⟩
end

/-! ### calls -/
/-- f(..): the written arguments, then the defaults dvs; E: what is wanted of an exception -/
def tCall (sp : Sp) (dvs : List V) (E : XK) (t : TA) : TE := fun σ H Q => t σ H fun vs H1 => sp (vs ++ dvs) H1 Q E
/-- o.m(..) of an instance of the class at C -/
def tMeth (C : Addr) (m : Str) (sp : Sp) (dvs : List V) (E : XK) (ta : TE) (t : TA) : TE := fun σ H Q => ta σ H fun x H1 => ∃ a dx fs, x = .ref a ∧ H1 a = some (.ins C dx fs) ∧ fs.lookup m = none ∧
  t σ H1 fun vs H2 => sp (x :: (vs ++ dvs)) H2 Q E
/-- C(..): a new instance and its dict, then __init__ -/
def tMake (C : Addr) (sp : Sp) (dvs : List V) (E : XK) (t : TA) : TE := fun σ H Q => t σ H fun vs H1 => ∀ x dx, H1 x = none → H1 dx = none → dx ≠ x →
  sp (.ref x :: (vs ++ dvs)) (upd (upd H1 dx (.own x)) x (.ins C dx [])) (fun v H2 => v = .non ∧ Q (.ref x) H2) E

/-- how the parameters are bound: us the positional arguments, kw the keywords' values by name, ds the defaults that fill up -/
def Binds (K : PySem.W.Frag) (fd : FuncData) (ps : List Str) (ds : List Value) : Prop :=
  ∀ (s : Shared) (us : List Value), K.In s.heap → (us ++ ds).length = ps.length → BindsTo s fd ⟨us, []⟩ (ps.zip (us ++ ds))
/-- every parameter is given -/
theorem Binds.all {K : PySem.W.Frag} {fd : FuncData} {ps : List Str} (h : ∀ us : List Value, us.length = ps.length → bindArgs fd ⟨us, []⟩ = pure (ps.zip us)) : Binds K fd ps [] := fun s us _ hl => by
  rw [List.append_nil] at hl ⊢
  exact .of_eq (h us hl)

/-- an exception of a callee reaches what this body wants of exceptions -/
def Passes (CX : CXT) (X : Cx) (E : XK) : Prop := ∀ (pins : List (Addr × Obj)) (σ : St) (H : Hp) (s : Shared) (e : Value) (s' : Shared), Inv X pins σ H s → CX X.stack H s E e s' → X.xe e s'

section
variable {X : Cx} {CX : CXT} {k : Nat} {f C : Addr} {fd : FuncData} {ps : List Str} {sp : Sp} {dvs : List V} {ds : List Value} {E : XK} {x m : Str} {p pos apos : Pos} {e o : Expr} {es : List Expr} {ta : TE} {t : TA}

/-- the callee runs -/
theorem run_fn {pins : List (Addr × Obj)} {σ : St} {H : Hp} {s : Shared} {Q : VK} {us : List Value} {vs : List V} (F : FnOk X.prog X.w X.K X.mg X.base CX k f fd ps sp) (hr : Room k X.A) (hb : Binds X.K fd ps ds) (hd : Vals dvs ds) (hx : Passes CX X E)
    (I : Inv X pins σ H s) (r : Vals vs us) (h : sp (vs ++ dvs) H Q E) : wpAny (model X.prog X.w) X.A (call (.ref f) us) (EP X pins σ Q) X.xe s := by
  have r2 : Vals (vs ++ dvs) (us ++ ds) := r.append hd
  have hl : (us ++ ds).length = ps.length := by rw [← r2.length]; exact F.len _ _ _ _ h
  refine wpAny_call (codeAny_mono (F.run X.A X.stack s H ⟨us, []⟩ (us ++ ds) (vs ++ dvs) Q E hr I.env0 (hb s us I.kIn hl) r2 h) fun r s' hq => ?_)
  cases r with
  | error e => exact hx pins σ H s e s' I hq
  | ok fl =>
    cases fl with
    | ret u => exact I.after hq
    | next => exact False.elim hq
    | brk => exact False.elim hq
    | cont => exact False.elim hq

theorem pe_call (F : FnOk X.prog X.w X.K X.mg X.base CX k f fd ps sp) (hr : Room k X.A) (hg : Gl X x) (hm : X.mg x = some (.ref f)) (hk : PySem.W.keepIn X.K (.ref f) = true) (hb : Binds X.K fd ps ds) (hd : Vals dvs ds) (hx : Passes CX X E)
    (ha : PA X (e :: es) t) (hdb : (x == ("__debug__" : Str)) = false := by decide) (he : starEach (e :: es) X.env = (false, eval e X.env) :: starEach es X.env := by rfl) (hpl : (backTo pos (starEach es X.env)).any (·.1) = false := by rfl) :
    PE X (.Call (.Name x p) (e :: es) [] pos) (tCall sp dvs E t) := by
  intro pins s σ H Q I h
  refine wpAny_Call_Name_kw (ld_glob I hg hm ?_ hdb)
  refine PySem.W.callWith_K (h₀ := X.base) I.ok.mod.kin hk (thn (ha pos pins s σ H _ I h) fun us s1 ⟨vs, H1, I1, r, q⟩ => ⟨I1.kIn, ?_⟩) he hpl
  exact run_fn F hr hb hd hx I1 r q
theorem pe_call0 (F : FnOk X.prog X.w X.K X.mg X.base CX k f fd ps sp) (hr : Room k X.A) (hg : Gl X x) (hm : X.mg x = some (.ref f)) (hk : PySem.W.keepIn X.K (.ref f) = true) (hb : Binds X.K fd ps ds) (hd : Vals dvs ds) (hx : Passes CX X E)
    (hdb : (x == ("__debug__" : Str)) = false := by decide) : PE X (.Call (.Name x p) [] [] pos) (tCall sp dvs E tNil) := by
  intro pins s σ H Q I h
  refine wpAny_Call_Name_kw (ld_glob I hg hm ?_ hdb)
  exact PySem.W.callWith_K0 I.kIn hk (run_fn (us := []) F hr hb hd hx I .nil h)

/-- o.m(e, ..) -/
theorem pe_meth {pl : Sem Bool} (he : PE X o ta) (c : Cls X.K C) (hm : Meth X.K C m f) (F : FnOk X.prog X.w X.K X.mg X.base CX k f fd ps sp) (hr : Room k X.A) (hb : Binds X.K fd ps ds) (hd : Vals dvs ds) (hx : Passes CX X E) (ha : PA X (e :: es) t)
    (hst : starEach (e :: es) X.env = (false, eval e X.env) :: starEach es X.env := by rfl) (hpl : (backTo pos (starEach es X.env)).any (·.1) = false := by rfl)
    (ht : eval (.Call (.Attribute o m apos) (e :: es) [] pos) X.env = (do
      let ov ← eval o X.env
      standAt apos.atName
      let (f, first) ← holding [ov] (getMethod ov m pl)
      callWith pos f first (backTo pos (starEach (e :: es) X.env)) (backToKw pos (keywordEach [] X.env))) := by rfl) :
    PE X (.Call (.Attribute o m apos) (e :: es) [] pos) (tMeth C m sp dvs E ta t) := by
  intro pins s σ H Q I h
  refine PySem.W.methodCall_KW (pl := pl) (thn (he pins s σ H _ I h) fun u s1 ⟨x, H1, I1, rx, a, dx, fs, ex, ea, l, q⟩ => ?_) ht
  subst ex
  obtain rfl : u = Value.ref a := rx
  refine getmeth_ok I1 ea c hm l ?_
  refine PySem.W.callWith_K (first := [.ref a]) (h₀ := X.base) I.ok.mod.kin hm.kp (thn (ha pos pins s1 σ H1 _ I1 q) fun us s2 ⟨vs, H2, I2, r, q2⟩ => ⟨I2.kIn, ?_⟩) hst hpl
  exact run_fn (us := .ref a :: us) (vs := .ref a :: vs) F hr hb hd hx I2 (.cons rfl r) q2
/-- o.m() -/
theorem pe_meth0 {pl : Sem Bool} (he : PE X o ta) (c : Cls X.K C) (hm : Meth X.K C m f) (F : FnOk X.prog X.w X.K X.mg X.base CX k f fd ps sp) (hr : Room k X.A) (hb : Binds X.K fd ps ds) (hd : Vals dvs ds) (hx : Passes CX X E)
    (ht : eval (.Call (.Attribute o m apos) [] [] pos) X.env = (do
      let ov ← eval o X.env
      standAt apos.atName
      let (f, first) ← holding [ov] (getMethod ov m pl)
      callWith pos f first (backTo pos (starEach [] X.env)) (backToKw pos (keywordEach [] X.env))) := by rfl) :
    PE X (.Call (.Attribute o m apos) [] [] pos) (tMeth C m sp dvs E ta tNil) := by
  intro pins s σ H Q I h
  refine PySem.W.methodCall_KW (pl := pl) (thn (he pins s σ H _ I h) fun u s1 ⟨x, H1, I1, rx, a, dx, fs, ex, ea, l, q⟩ => ?_) ht
  subst ex
  obtain rfl : u = Value.ref a := rx
  refine getmeth_ok I1 ea c hm l ?_
  exact PySem.W.callWith_K0 (first := [.ref a]) I1.kIn hm.kp (run_fn (us := [.ref a]) (vs := [.ref a]) F hr hb hd hx I1 (.cons rfl .nil) q)

/-- what a class must have to be made -/
structure Mk (K : PySem.W.Frag) (C f : Addr) : Prop where
  makes : PySem.W.makesIn K C = true
  init : PySem.W.findIn K (.ref C) "__init__" = some (some (.ref f))
  fn : PySem.W.isFn K (.ref f) = true
  kp : PySem.W.keepIn K (.ref C) = true

theorem run_make {pins : List (Addr × Obj)} {σ : St} {H : Hp} {s : Shared} {Q : VK} {us : List Value} {vs : List V} (M : Mk X.K C f) (F : FnOk X.prog X.w X.K X.mg X.base CX k f fd ps sp) (hr : Room (k + 1) X.A) (hb : Binds X.K fd ps ds) (hd : Vals dvs ds)
    (hx : Passes CX X E) (I : Inv X pins σ H s) (r : Vals vs us)
    (h : ∀ x dx, H x = none → H dx = none → dx ≠ x → sp (.ref x :: (vs ++ dvs)) (upd (upd H dx (.own x)) x (.ins C dx [])) (fun v H2 => v = .non ∧ Q (.ref x) H2) E) :
    wpAny (model X.prog X.w) X.A (call (.ref C) us) (EP X pins σ Q) X.xe s := by
  have hq := h (s.heap.objs.size + 1) s.heap.objs.size (I.hok.fresh (Nat.le_succ _)) (I.hok.fresh (Nat.le_refl _)) (Nat.ne_of_lt (Nat.lt_succ_self _))
  have I2 := Inv.made (C := C) I
  have r2 : Vals (V.ref (s.heap.objs.size + 1) :: (vs ++ dvs)) (Value.ref (s.heap.objs.size + 1) :: (us ++ ds)) := .cons rfl (r.append hd)
  have hl : (Value.ref (s.heap.objs.size + 1) :: us ++ ds).length = ps.length := by
    have e := r2.length
    rw [F.len _ _ _ _ hq] at e
    exact e.symm
  refine wpAny_call (make_map (f := f) I.kIn M.makes M.init (beq_iff_eq.mp M.fn) (codeAny_mono (F.run _ X.stack _ _ ⟨Value.ref (s.heap.objs.size + 1) :: us, []⟩ (Value.ref (s.heap.objs.size + 1) :: (us ++ ds)) _ _ E (hr.make C us [])
    (I2.env0.make C us []) (hb _ (Value.ref (s.heap.objs.size + 1) :: us) I2.kIn hl) r2 hq) fun r s' hq' => ?_))
  cases r with
  | error e => exact hx pins σ _ _ e s' I2 hq'
  | ok fl =>
    cases fl with
    | ret u =>
      obtain ⟨v, H', I3, rv, ev, q3⟩ := I2.after hq'
      subst ev
      exact ⟨rv, ⟨V.ref (s.heap.objs.size + 1), H', I3, rfl, q3⟩⟩
    | next => exact False.elim hq'
    | brk => exact False.elim hq'
    | cont => exact False.elim hq'
theorem pe_make (M : Mk X.K C f) (F : FnOk X.prog X.w X.K X.mg X.base CX k f fd ps sp) (hr : Room (k + 1) X.A) (hg : Gl X x) (hm : X.mg x = some (.ref C)) (hb : Binds X.K fd ps ds) (hd : Vals dvs ds) (hx : Passes CX X E)
    (ha : PA X (e :: es) t) (hdb : (x == ("__debug__" : Str)) = false := by decide) (he : starEach (e :: es) X.env = (false, eval e X.env) :: starEach es X.env := by rfl) (hpl : (backTo pos (starEach es X.env)).any (·.1) = false := by rfl) :
    PE X (.Call (.Name x p) (e :: es) [] pos) (tMake C sp dvs E t) := by
  intro pins s σ H Q I h
  refine wpAny_Call_Name_kw (ld_glob I hg hm ?_ hdb)
  refine PySem.W.callWith_K (h₀ := X.base) I.ok.mod.kin M.kp (thn (ha pos pins s σ H _ I h) fun us s1 ⟨vs, H1, I1, r, q⟩ => ⟨I1.kIn, ?_⟩) he hpl
  exact run_make M F hr hb hd hx I1 r q
theorem pe_make0 (M : Mk X.K C f) (F : FnOk X.prog X.w X.K X.mg X.base CX k f fd ps sp) (hr : Room (k + 1) X.A) (hg : Gl X x) (hm : X.mg x = some (.ref C)) (hb : Binds X.K fd ps ds) (hd : Vals dvs ds) (hx : Passes CX X E)
    (hdb : (x == ("__debug__" : Str)) = false := by decide) : PE X (.Call (.Name x p) [] [] pos) (tMake C sp dvs E tNil) := by
  intro pins s σ H Q I h
  refine wpAny_Call_Name_kw (ld_glob I hg hm ?_ hdb)
  exact PySem.W.callWith_K0 I.kIn M.kp (run_make (us := []) M F hr hb hd hx I .nil h)
end

/-! ### keywords -/
/-- the values of the keywords, from the left -/
def PK (X : Cx) (kws : List Keyword) (t : TA) : Prop :=
  ∀ (pos : Pos) (pins : List (Addr × Obj)) (s : Shared) (σ : St) (H : Hp) (Q : List V → Hp → Prop), Inv X pins σ H s → t σ H Q → wpAny (model X.prog X.w) X.A (evalAll ((backToKw pos (keywordEach kws X.env)).map (·.2))) (AP X pins σ Q) X.xe s
section
variable {X : Cx} {CX : CXT} {k : Nat} {f C : Addr} {fd : FuncData} {ps ks : List Str} {sp : Sp} {E : XK} {x m : Str} {p pos apos kpos : Pos} {e o : Expr} {es : List Expr} {kws : List Keyword} {te ta : TE} {t tk : TA} {nm : Option Str}
theorem pk_nil : PK X [] tNil := fun _ _ _ _ H Q I h => wpAny_evalAll_nil ⟨[], H, I, .nil, h⟩
theorem pk_cons (ha : PE X e te) (hr : PK X kws t) : PK X (⟨nm, e, kpos⟩ :: kws) (tCons te t) := by
  intro pos pins s σ H Q I h
  show wpAny _ _ (evalAll ((do let v ← eval e X.env; standAt pos; pure v) :: (backToKw pos (keywordEach kws X.env)).map (·.2))) _ _ s
  refine wpAny_evalAll_cons (wpAny_bind (thn (ha pins s σ H _ I h) fun u s1 ⟨x, H1, I1, r1, q1⟩ => wpAny_bind (wpAny_standAt (wpAny_pure ?_))))
  exact thn (hr pos pins s1 σ H1 _ I1 q1) fun us s2 ⟨xs, H2, I2, r2, q2⟩ => ⟨x :: xs, H2, I2, .cons r1 r2, q2⟩

/-- how a call with keywords binds: g puts the positional values us and the keywords' values ws (names ks) in the parameters' order, defaults among them -/
structure KBinds (K : PySem.W.Frag) (fd : FuncData) (ps ks : List Str) (g : List Value → List Value → List Value) (gV : List V → List V → List V) : Prop where
  to : ∀ (s : Shared) (us ws : List Value), K.In s.heap → (g us ws).length = ps.length → BindsTo s fd ⟨us, ks.zip ws⟩ (ps.zip (g us ws))
  rel : ∀ {vs : List V} {us : List Value} {zs : List V} {ws : List Value}, Vals vs us → Vals zs ws → Vals (gV vs zs) (g us ws)
def tCallK (sp : Sp) (gV : List V → List V → List V) (E : XK) (t tk : TA) : TE := fun σ H Q => t σ H fun vs H1 => tk σ H1 fun zs H2 => sp (gV vs zs) H2 Q E
variable {g : List Value → List Value → List Value} {gV : List V → List V → List V}
theorem run_fnk {pins : List (Addr × Obj)} {σ : St} {H : Hp} {s : Shared} {Q : VK} {us ws : List Value} {vs zs : List V} (F : FnOk X.prog X.w X.K X.mg X.base CX k f fd ps sp) (hr : Room k X.A) (hb : KBinds X.K fd ps ks g gV) (hx : Passes CX X E)
    (I : Inv X pins σ H s) (r : Vals vs us) (rz : Vals zs ws) (h : sp (gV vs zs) H Q E) : wpAny (model X.prog X.w) X.A (call (.ref f) us (ks.zip ws)) (EP X pins σ Q) X.xe s := by
  have r2 := hb.rel r rz
  have hl : (g us ws).length = ps.length := by rw [← r2.length]; exact F.len _ _ _ _ h
  refine wpAny_call (codeAny_mono (F.run X.A X.stack s H ⟨us, ks.zip ws⟩ (g us ws) (gV vs zs) Q E hr I.env0 (hb.to s us ws I.kIn hl) r2 h) fun r s' hq => ?_)
  cases r with
  | error e => exact hx pins σ H s e s' I hq
  | ok fl =>
    cases fl with
    | ret u => exact I.after hq
    | next => exact False.elim hq
    | brk => exact False.elim hq
    | cont => exact False.elim hq
/-- f(e, .., k = v, ..) -/
theorem pe_callK (F : FnOk X.prog X.w X.K X.mg X.base CX k f fd ps sp) (hr : Room k X.A) (hg : Gl X x) (hm : X.mg x = some (.ref f)) (hk : PySem.W.keepIn X.K (.ref f) = true) (hb : KBinds X.K fd ps ks g gV) (hx : Passes CX X E)
    (ha : PA X (e :: es) t) (hkw : PK X kws tk) (hall : (backToKw pos (keywordEach kws X.env)).all (·.1.isSome) = true := by rfl) (hks : (backToKw pos (keywordEach kws X.env)).filterMap (·.1) = ks := by rfl)
    (hdb : (x == ("__debug__" : Str)) = false := by decide) (he : starEach (e :: es) X.env = (false, eval e X.env) :: starEach es X.env := by rfl)
    (hpl : ((backTo pos (starEach (e :: es) X.env)).any (·.1) || (backToKw pos (keywordEach kws X.env)).any (·.1.isNone)) = false := by rfl) :
    PE X (.Call (.Name x p) (e :: es) kws pos) (tCallK sp gV E t tk) := by
  intro pins s σ H Q I h
  refine wpAny_Call_Name_kw (ld_glob I hg hm ?_ hdb)
  refine PySem.W.callWith_KW (h₀ := X.base) I.ok.mod.kin hk hall (thn (ha pos pins s σ H _ I h) fun us s1 ⟨vs, H1, I1, r, q⟩ => ?_) hpl he
  refine thn (hkw pos pins s1 σ H1 _ I1 q) fun ws s2 ⟨zs, H2, I2, rz, q2⟩ => ⟨I2.kIn, ?_⟩
  rw [hks]
  exact run_fnk F hr hb hx I2 r rz q2
end

/-! ### a def's body keeps its promise -/
/-- names: the parameters first -/
structure FnScope (N P : List Str) (sc : Scope) : Prop where
  kind : sc.kind = .function
  co : sc.isCoroutine = false
  gen : sc.isGenerator = false
  nd : N.Nodup
  pre : N.take P.length = P
  par : ∀ x ∈ P, sc.names.lookup x = some .local ∨ sc.names.lookup x = some .cell
  nofree : ∀ y ∈ sc.names, y.2 ≠ .free

theorem bindL_out {kindOf : Str → Option NameKind} {x : Str} : ∀ {binds : List (Str × Value)} {m : Str → Option Value}, (∀ v, (x, v) ∉ binds) → bindL kindOf binds m x = m x
  | [], _, _ => rfl
  | (n, v) :: r, m, h => by
    unfold bindL
    rw [bindL_out fun w hw => h w (List.mem_cons_of_mem _ hw)]
    split
    · have : x ≠ n := by rintro rfl; exact h v List.mem_cons_self
      simp [this]
    · rfl
theorem bindC_out {kindOf : Str → Option NameKind} {x : Str} : ∀ {binds : List (Str × Value)} {m : Str → Option Value}, (∀ v, (x, v) ∉ binds) → bindC kindOf binds m x = m x
  | [], _, _ => rfl
  | (n, v) :: r, m, h => by
    unfold bindC
    rw [bindC_out fun w hw => h w (List.mem_cons_of_mem _ hw)]
    split
    · rfl
    · have : x ≠ n := by rintro rfl; exact h v List.mem_cons_self
      simp [this]
theorem bindL_get {kindOf : Str → Option NameKind} {x : Str} {v : Value} : ∀ {P : List Str} {vs : List Value} {i : Nat} {m : Str → Option Value}, P.Nodup → P[i]? = some x → vs[i]? = some v → kindOf x = some .local →
    bindL kindOf (P.zip vs) m x = some v
  | [], _, _, _, _, h, _, _ => by simp at h
  | _ :: _, [], _, _, _, _, h, _ => by simp at h
  | p :: P, w :: vs, 0, m, nd, h1, h2, hk => by
    simp at h1 h2; subst h1; subst h2
    show bindL kindOf ((p, w) :: P.zip vs) m p = _
    unfold bindL
    rw [bindL_out fun v hv => (List.nodup_cons.mp nd).1 (List.of_mem_zip hv).1, if_pos hk]
    simp
  | p :: P, w :: vs, i + 1, m, nd, h1, h2, hk => by
    show bindL kindOf ((p, w) :: P.zip vs) m x = _
    unfold bindL
    exact bindL_get (i := i) (List.nodup_cons.mp nd).2 (by simpa using h1) (by simpa using h2) hk
theorem bindC_get {kindOf : Str → Option NameKind} {x : Str} {v : Value} : ∀ {P : List Str} {vs : List Value} {i : Nat} {m : Str → Option Value}, P.Nodup → P[i]? = some x → vs[i]? = some v → kindOf x ≠ some .local →
    bindC kindOf (P.zip vs) m x = some v
  | [], _, _, _, _, h, _, _ => by simp at h
  | _ :: _, [], _, _, _, _, h, _ => by simp at h
  | p :: P, w :: vs, 0, m, nd, h1, h2, hk => by
    simp at h1 h2; subst h1; subst h2
    show bindC kindOf ((p, w) :: P.zip vs) m p = _
    unfold bindC
    rw [bindC_out fun v hv => (List.nodup_cons.mp nd).1 (List.of_mem_zip hv).1, if_neg hk]
    simp
  | p :: P, w :: vs, i + 1, m, nd, h1, h2, hk => by
    show bindC kindOf ((p, w) :: P.zip vs) m x = _
    unfold bindC
    exact bindC_get (i := i) (List.nodup_cons.mp nd).2 (by simpa using h1) (by simpa using h2) hk

/-- the names' values at the entry -/
def start (N : List Str) (vs : List V) : St := vs.map some ++ List.replicate (N.length - vs.length) none

/-- the context of a def's body, at its entry; an exception leaves the frame, then lies as CX says -/
def cxOf (CX : CXT) (P : Program) (w : World) (K : PySem.W.Frag) (mg : Str → Option Value) (base : Heap) (N : List Str) (qual : Str) (scope : Scope) (f : Addr) (cd : Value) (A : Around) (outer : List Env) (s : Shared) (H : Hp) (E : XK) : Cx where
  prog := P
  w := w
  K := K
  mg := mg
  base := base
  A := A.deeper (envOfC qual scope s.heap.objs.size f cd)
  N := N
  s₀ := s
  H₀ := H
  env := envOfC qual scope s.heap.objs.size f cd
  outer := outer
  stack := envOfC qual scope s.heap.objs.size f cd :: outer
  ex := []
  calm := true
  fn := fun _ => true
  pn := []
  xe := fun e s' => wpAny (model P w) (A.deeper (envOfC qual scope s.heap.objs.size f cd)) (leaving (envOfC qual scope s.heap.objs.size f cd) e) (fun _ s'' => CX outer H s E e s'') (fun e' s'' => CX outer H s E e' s'') s'

theorem cell_has {sc : Scope} {n : Nat} {x : Str} (h : sc.names.lookup x = some .cell) : ∃ c, (cellsFrom n sc.names []).lookup x = some c := by
  have q := PySem.W.cellsFrom_some sc.names n [] (.inl h)
  exact Option.isSome_iff_exists.mp q

theorem inv_start {CX : CXT} {P : Program} {w : World} {K : PySem.W.Frag} {mg : Str → Option Value} {base : Heap} {N ps : List Str} {qual : Str} {scope : Scope} {f : Addr} {cd : Value} {A : Around} {outer : List Env} {s s1 : Shared} {H : Hp} {E : XK} {us : List Value} {vs : List V}
    (S : FnScope N ps scope) (hd : A.handled = none) (e0 : Env0 P w K mg base A outer s H) (hl : vs.length = ps.length) (r : Vals vs us)
    (x : InCallC s s.heap.objs.size (bindL (envOfC qual scope s.heap.objs.size f cd).kindOf (ps.zip us) fun _ => none) (cellsFrom (s.heap.objs.size + 1) scope.names []) (bindC (envOfC qual scope s.heap.objs.size f cd).kindOf (ps.zip us) fun _ => none) s1) :
    Inv (cxOf CX P w K mg base N qual scope f cd A outer s H E) [] (start N vs) H s1 := by
  have hpl : ps.length ≤ N.length := by have := congrArg List.length S.pre; rw [List.length_take] at this; omega
  obtain ⟨h1, tk, rfl, hk⟩ := x.done
  have noA : ∀ b : Addr, b ∉ (cxOf CX P w K mg base N qual scope f cd A outer s H E).ex := fun b z => absurd (show b ∈ ([] : List Addr) from z) (by simp)
  refine ⟨⟨e0.mod, S.kind, rfl, rfl, Nat.le_refl _, fun y z c h1 h2 => ?_, fun y hy => ?_, fun y c _ h => ?_, fun _ => hd, Around.frames_deeper e0.frames, .inr ⟨rfl, rfl⟩, fun b z => absurd z (noA b), e0.bs, e0.bsz, fun b _ _ => noA b, fun b z => absurd z (noA b), e0.funs, e0.frf⟩,
    rfl, e0.bare, Un.kept hk, ⟨_, x.toInCall.ns, fun i y v h1 h2 h3 => ?_⟩, fun y c h => ⟨_, x.cell y c h⟩, e0.hok.fresh (Nat.le_refl _), fun y c h => ?_, fun p hp => absurd (show p ∈ ([] : List (Addr × Obj)) from hp) (by simp), e0.hok.kept hk, ?_⟩
  · exact name_of_addr x.apart (PySem.mem_of_lookup h1) (PySem.mem_of_lookup h2)
  · have hy : scope.names.lookup y = some .cell ∨ scope.names.lookup y = some .free := hy
    rcases hy with hy | hy
    · exact cell_has hy
    · exact absurd rfl (S.nofree _ (PySem.mem_of_lookup hy))
  · exact Nat.le_of_lt (x.above y c (PySem.mem_of_lookup h))
  · have hi : i < vs.length := by
      unfold start at h2
      by_cases hi : i < vs.length
      · exact hi
      · rw [List.getElem?_append_right (by simpa using hi)] at h2
        rw [List.getElem?_replicate] at h2
        split at h2 <;> cases h2
    have ha : vs[i]? = some v := by
      unfold start at h2
      rw [List.getElem?_append_left (by simpa using hi), List.getElem?_map] at h2
      cases e : vs[i]? with
      | none => rw [e] at h2; cases h2
      | some a => rw [e] at h2; cases h2; rfl
    obtain ⟨u, hu, rv⟩ := r.get ha
    have hp : ps[i]? = some y := by
      rw [← S.pre, List.getElem?_take_of_lt (by omega)]; exact h1
    have ndP : ps.Nodup := by rw [← S.pre]; exact S.nd.sublist (List.take_sublist _ _)
    refine ⟨u, rv, ?_⟩
    rcases S.par y (List.mem_of_getElem? hp) with k | k
    · exact .inl ⟨k, bindL_get ndP hp hu k⟩
    · obtain ⟨c, e⟩ := cell_has (n := s.heap.objs.size + 1) k
      refine .inr ⟨.inl k, c, e, ?_⟩
      have q := x.cell y c e
      rw [bindC_get ndP hp hu (by show scope.names.lookup y ≠ _; rw [k]; decide)] at q
      exact q
  · exact e0.hok.fresh (Nat.le_of_lt (x.above y c (PySem.mem_of_lookup h)))
  · unfold start
    show _ = N.length
    rw [List.length_append, List.length_map, List.length_replicate]
    omega

/-- THE RULE: a def (or a method) of the text, by its body. The body's reading t is chosen for each entry; it is run at the parameters' values -/
theorem fn_of {CX : CXT} {P : Program} {w : World} {K : PySem.W.Frag} {mg : Str → Option Value} {base : Heap} {k : Nat} {f : Addr} {name qual : Str} {params : Arguments} {body : List Stmt} {scope : Scope} {dV kV doc pm cdv ct oc : Value} {an od : Option Addr}
    {osl : Array (Option Value)} {N ps : List Str} {sp : Sp} (lk : K.lookup f = some ⟨oc, od, .func (PySem.W.fnOf name qual params body scope dV kV doc pm an cdv ct), osl⟩) (hcd : PySem.W.codeIn K cdv qual = true) (S : FnScope N ps scope)
    (len : ∀ vs H Q E, sp vs H Q E → vs.length = ps.length)
    (hbody : ∀ (A : Around) (outer : List Env) (s : Shared) (H : Hp) (vs : List V) (Q : VK) (E : XK), Room k (A.deeper (envOfC qual scope s.heap.objs.size f cdv)) → sp vs H Q E →
      ∃ t, PSs (cxOf CX P w K mg base N qual scope f cdv A outer s H E) body t ∧ t { nx := fun _ H' => Q .non H', rt := Q } (start N vs) H) :
    FnOk P w K mg base CX (k + 1) f (PySem.W.fnOf name qual params body scope dV kV doc pm an cdv ct) ps sp := by
  refine ⟨len, fun A outer s H args us vs Q E hr e0 hb r hsp => ?_⟩
  have hl := len _ _ _ _ hsp
  have KX : K.In s.heap := e0.mod.kin.keeps fun b o e => (e0.bs b o e).1
  have lim : s.heap.NoLimit := e0.mod.nolimit.keeps fun b o e => (e0.bs b o e).1
  have hkind : ∀ y ∈ ps.zip us, scope.names.lookup y.1 = some .local ∨ (scope.names.lookup y.1 = some .cell ∧ ((cellsFrom (s.heap.objs.size + 1) scope.names []).lookup y.1).isSome = true) := fun ⟨n, v⟩ hy => by
    rcases S.par n (List.of_mem_zip hy).1 with q | q
    · exact .inl q
    · exact .inr ⟨q, PySem.W.cellsFrom_some _ _ _ (.inl q)⟩
  refine codeAny_call_function hr.depth (KX _ _ lk) rfl S.co S.gen rfl (PySem.W.codeRec_of KX hcd) (hb _ _ _ _ ?_)
  refine wpAny_newFunctionEnv_cells S.kind hkind fun env he s1 x => ?_
  subst he
  refine ⟨lim.keeps x.toInCall.keep, codeAny_func ?_⟩
  obtain ⟨t, ht, hq⟩ := hbody A outer s H vs Q E (hr.deeper _) hsp
  have I : Inv (cxOf CX P w K mg base N qual scope f cdv A outer s H E) [] (start N vs) H s1 := inv_start S hr.hd e0 hl r x
  refine wpAny_mono (ht [] s1 (start N vs) H _ I hq) (fun fl s' hs => ?_) fun e s' hs => hs
  have fin : ∀ {σ' : St} {H' : Hp} {v : V} {u : Value}, Inv (cxOf CX P w K mg base N qual scope f cdv A outer s H E) [] σ' H' s' → RelV v u → Q v H' → CE outer P w H s Q u s' :=
    fun {σ' H' v u} J rv q => ⟨v, H', J.os, J.bare, J.base, J.hok, rv, q⟩
  cases fl with
  | ret u =>
    obtain ⟨v, σ', H', J, rv, q⟩ := hs
    exact fin J rv q
  | next =>
    obtain ⟨σ', H', J, q⟩ := hs
    exact fin (v := V.non) (u := Value.none) J rfl q
  | brk =>
    obtain ⟨_, _, _, q⟩ := hs
    exact False.elim q
  | cont =>
    obtain ⟨_, _, _, q⟩ := hs
    exact False.elim q
end L2

namespace L2
open PySem PySem.Spec PyProof.Rows
section
variable {X : Cx} {x : Str} {p pos : Pos} {e : Expr} {es : List Expr} {t : TA} {id T : String} {r : List V → Hp → VK → Prop}

def tCB (r : List V → Hp → VK → Prop) (t : TA) : TE := fun σ H Q => t σ H fun vs H1 => r vs H1 Q
/-- f(e, ..), f a built-in function -/
theorem pe_callB (hc : CallR X (.builtin id) r) (hg : Gl X x) (hm : X.mg x = none) (hv : bootBuiltins x = some (.builtin id)) (ha : PA X (e :: es) t) (hn : x ≠ "__name__" := by decide) (hdb : (x == ("__debug__" : Str)) = false := by decide)
    (he : starEach (e :: es) X.env = (false, eval e X.env) :: starEach es X.env := by rfl) (hpl : (backTo pos (starEach es X.env)).any (·.1) = false := by rfl) : PE X (.Call (.Name x p) (e :: es) [] pos) (tCB r t) := by
  intro pins s σ H Q I h
  refine wpAny_Call_Name_kw (ld_blt I hg hm hv ?_ hn hdb)
  exact PyProof.Rows.callWith_builtin1 (thn (ha pos pins s σ H _ I h) fun us s1 ⟨vs, H1, I1, r1, q1⟩ => hc pins s1 σ H1 vs us Q I1 r1 q1) he hpl
/-- T(e, ..), T a built-in type -/
theorem pe_callTy (hc : CallR X (.type T) r) (hg : Gl X x) (hm : X.mg x = none) (hv : bootBuiltins x = some (.type T)) (ha : PA X (e :: es) t) (hn : x ≠ "__name__" := by decide) (hdb : (x == ("__debug__" : Str)) = false := by decide)
    (he : starEach (e :: es) X.env = (false, eval e X.env) :: starEach es X.env := by rfl) (hpl : (backTo pos (starEach es X.env)).any (·.1) = false := by rfl) : PE X (.Call (.Name x p) (e :: es) [] pos) (tCB r t) := by
  intro pins s σ H Q I h
  refine wpAny_Call_Name_kw (ld_blt I hg hm hv ?_ hn hdb)
  exact PyProof.Rows.callWith_type1 (thn (ha pos pins s σ H _ I h) fun us s1 ⟨vs, H1, I1, r1, q1⟩ => hc pins s1 σ H1 vs us Q I1 r1 q1) he hpl
/-- T() -/
theorem pe_callTy0 (hc : CallR X (.type T) r) (hg : Gl X x) (hm : X.mg x = none) (hv : bootBuiltins x = some (.type T)) (hn : x ≠ "__name__" := by decide) (hdb : (x == ("__debug__" : Str)) = false := by decide) :
    PE X (.Call (.Name x p) [] [] pos) (tCB r tNil) := by
  intro pins s σ H Q I h
  refine wpAny_Call_Name_kw (ld_blt I hg hm hv ?_ hn hdb)
  exact PyProof.Rows.callWith_type0 (hc pins s σ H [] [] Q I .nil h)
end
end L2

namespace HT
open PySem PyProof.Rows

/-- t < u of tuples of ints -/
def lexLt : List Int → List Int → Bool
  | [], [] => false
  | [], _ :: _ => true
  | _ :: _, [] => false
  | x :: xs, y :: ys => if x = y then lexLt xs ys else decide (x < y)
theorem lexLt_cons (x y : Int) (xs ys : List Int) : lexLt (x :: xs) (y :: ys) = if x = y then lexLt xs ys else decide (x < y) := rfl
theorem lexLt_nil_nil : lexLt [] [] = false := rfl
theorem lexLt_nil_cons (y : Int) (ys : List Int) : lexLt [] (y :: ys) = true := rfl
theorem lexLt_cons_nil (x : Int) (xs : List Int) : lexLt (x :: xs) [] = false := rfl

theorem eqAt_int (A : Around) (s : Shared) (a : Int) (t : Tok) (c : Int) (u : Tok) : ∃ e, SeqAt.EqAt A s (.int a t) (.int c u) e ∧ (e = true ↔ a = c) :=
  ⟨(a == c), SeqAt.EqAt.int_int a t c u, by simp⟩
theorem rcLt_int (A : Around) (s : Shared) (a : Int) (t : Tok) (c : Int) (u : Tok) (prog : Program) (w : World) (E : Value → Shared → Prop) (Q : Value → Shared → Prop) (h : Q (.bool (decide (a < c))) s) :
    wpAny (model prog w) A (richCompare .Lt (.int a t) (.int c u)) Q E s :=
  (PyProof.Rows.lt_int h : wpAny (model prog w) A (compareOp .Lt (.int a t) (.int c u)) Q E s)

section
open PySem.SeqAt
open PySem.AutoSeq1 (wpAny_loadPart')
open PySem.MeetsSeq PySem.MeetsSeq2 PySem.MeetsSeq3

theorem tuple_lt_ints (l b : Addr) (items items2 : Array Value) (n n2 : Nat) (dd dd2 : Option Addr) (sl sl2 : Array (Option Value)) (ns ms : List Int) (hi : IntsAre items.toList ns) (hj : IntsAre items2.toList ms) :
    Meets (Builtin.«tuple.__lt__» ⟨[.ref l, .ref b], []⟩)
      (fun _ R s => s.heap.get? l = some { cls := .type "tuple", dict := dd, data := .seq items n, slots := sl } ∧ s.heap.get? b = some { cls := .type "tuple", dict := dd2, data := .seq items2 n2, slots := sl2 } ∧
        R (.ok (.ret (.bool (lexLt ns ms)))) s) :=
  .of_wp fun prog w A R s h => by
    obtain ⟨hp, g, d, tk, os⟩ := s; obtain ⟨hl, hb, h⟩ := h
    have f2 := AutoSeq1.sub_tuple_tuple
    have z1 : items.size = ns.length := by rw [← hi.length]; simp
    have z2 : items2.size = ms.length := by rw [← hj.length]; simp
    wp_walk using wpAny_loadPart' hl, wpAny_loadPart' hb, wpAny_forIn_list _ (fun rest b s' => b.1 = none ∧ s' = ⟨hp, g, d, tk, os⟩ ∧ ∃ (vs ws : List Value) (ns' ms' : List Int), rest = vs.zip ws ∧
      IntsAre vs ns' ∧ IntsAre ws ms' ∧ ns'.length + items2.size = ms'.length + items.size ∧ R (.ok (.ret (.bool (lexLt ns' ms')))) ⟨hp, g, d, tk, os⟩) _
    case turn =>
      rintro ⟨y, x⟩ rest b s' ⟨hb', rfl, vs, ws, ns', ms', hz, hvi, hwi, hlen, hR⟩
      cases hvi with
      | nil => rw [List.zip_nil_left] at hz; cases hz
      | cons a t hvi' =>
        cases hwi with
        | nil => rw [List.zip_nil_right] at hz; cases hz
        | cons c u hwi' =>
          rw [List.zip_cons_cons] at hz
          injection hz with hyx hrest
          injection hyx with hy hx
          subst hy hx
          rw [lexLt_cons] at hR
          simp only [List.length_cons] at hlen
          obtain ⟨e, he, hiff⟩ := eqAt_int A.in1 ⟨hp, g, d, tk, os⟩ a t c u
          refine wpAny_bind (he prog w _ _ ?_)
          cases e with
          | true =>
            rw [if_pos (hiff.mp rfl)] at hR
            wp_walk
            exact ⟨rfl, rfl, _, _, _, _, hrest, hvi', hwi', by omega, hR⟩
          | false =>
            rw [if_neg (fun q => absurd (hiff.mpr q) Bool.false_ne_true)] at hR
            have hri := rcLt_int A.in1 ⟨hp, g, d, tk, os⟩ a t c u prog w
            wp_walk using hri
            exact ⟨_, rfl, by simpa using hR⟩
    case fin =>
      rintro ⟨b1, b2⟩ s' ⟨hb', rfl, vs, ws, ns', ms', hz, hvi, hwi, hlen, hR⟩
      simp only at hb'
      subst hb'
      have hv : lexLt ns' ms' = decide (items.size < items2.size) := by
        cases hvi with
        | nil =>
          cases hwi with
          | nil =>
            simp only [List.length_nil] at hlen
            rw [lexLt_nil_nil]
            exact (decide_eq_false (by omega)).symm
          | cons c u hw =>
            simp only [List.length_nil, List.length_cons] at hlen
            rw [lexLt_nil_cons]
            exact (decide_eq_true (by omega)).symm
        | cons a t hv =>
          cases hwi with
          | nil =>
            simp only [List.length_nil, List.length_cons] at hlen
            rw [lexLt_cons_nil]
            exact (decide_eq_false (by omega)).symm
          | cons c u hw =>
            rw [List.zip_cons_cons] at hz
            cases hz
      rw [hv] at hR
      wp_walk
      exact ⟨_, rfl, by simpa [Builtin.Tuple.tupleCompareSizes] using hR⟩
    case h =>
      exact ⟨rfl, rfl, items.toList, items2.toList, ns, ms, rfl, hi, hj, by omega, h⟩
end

section
variable {prog : Program} {w : World} {A : Around} {E : Value → Shared → Prop} {s : Shared}

theorem lt_tupInts {l b : Addr} {items items2 : Array Value} {ns ms : List Int} {Q : Value → Shared → Prop} (hl : IsTup s.heap l items) (hb : IsTup s.heap b items2) (hi : IntsAre items.toList ns) (hj : IntsAre items2.toList ms)
    (hu : A.units < cLine) (h : Q (.bool (lexLt ns ms)) s) : wpAny (model prog w) A (compareOp .Lt (.ref l) (.ref b)) Q E s := by
  obtain ⟨⟨cls, dd, data, sl⟩, ho, hc, n, hd⟩ := id hl
  obtain ⟨⟨cls2, dd2, data2, sl2⟩, ho2, hc2, n2, hd2⟩ := id hb
  simp only at hc hd hc2 hd2
  subst hc hd hc2 hd2
  exact richCompare_meets_room (op := .Lt) ⟨_, ho, rfl⟩ ⟨_, ho2, rfl⟩ PySem.F.slot_tuple_lt PySem.F.entry_tuple_lt (PySem.F.args_tuple_lt_2 _ _) (tuple_lt_ints l b items items2 n n2 dd dd2 sl sl2 ns ms hi hj)
    ⟨ho, ho2, show Value.bool (lexLt ns ms) ≠ Value.notImplemented ∧ Q (.bool (lexLt ns ms)) s from ⟨(fun x => nomatch x), h⟩⟩ hu

/-- t + u, t not empty -/
theorem cat_tup {t b : Addr} {vs ws : List Value} {Q : Value → Shared → Prop} (ht : IsTup s.heap t vs.toArray) (hb : IsTup s.heap b ws.toArray) (hv : vs ≠ [])
    (h1 : ws = [] → Q (.ref t) s) (h2 : ws ≠ [] → Q (.ref s.heap.objs.size) { s with heap := s.heap.push { cls := .type "tuple", data := .seq (vs ++ ws).toArray } })
    (hsz : vs.length + ws.length ≤ sizeLine) : wpAny (model prog w) A (binaryOp .Add (.ref t) (.ref b)) Q E s := by
  obtain ⟨⟨cls, dd, data, sl⟩, ho, hc, n, hd⟩ := id ht
  obtain ⟨⟨cls2, dd2, data2, sl2⟩, ho2, hc2, n2, hd2⟩ := id hb
  simp only at hc hd hc2 hd2
  subst hc hd hc2 hd2
  have e : vs.toArray ++ ws.toArray = (vs ++ ws).toArray := by simp
  by_cases hw : ws = []
  · exact concat_meets ⟨_, ho, rfl⟩ ⟨_, ho2, rfl⟩ noFill_tuple_add seq_tuple_add PySem.F.slot_tuple_add PySem.F.entry_tuple_add (PySem.F.args_tuple_add_2 _ _)
      (tuple_addW1 t b vs.toArray ws.toArray n n2 dd dd2 sl sl2 (by simpa using hv) (by simp [hw])) ⟨ho, ho2, h1 hw⟩
  · refine concat_meets ⟨_, ho, rfl⟩ ⟨_, ho2, rfl⟩ noFill_tuple_add seq_tuple_add PySem.F.slot_tuple_add PySem.F.entry_tuple_add (PySem.F.args_tuple_add_2 _ _)
      (tuple_addW2 t b vs.toArray ws.toArray n n2 dd dd2 sl sl2 (by simpa using hv) (by simpa using hw) (by rw [List.size_toArray, List.size_toArray]; exact hsz)) ⟨ho, ho2, ?_⟩
    rw [e]
    exact h2 hw

/-! ### t[a:b], not the whole -/
/-- a slice's bound as a place among n (d where it is left out) -/
def sIx (n d : Nat) : Option Int → Nat
  | none => d
  | some v => if v < 0 then (v + (n : Int)).toNat else min v.toNat n
theorem sIx_none (n d : Nat) : sIx n d none = d := rfl
theorem sIx_nat (n d k : Nat) : sIx n d (some (k : Int)) = min k n := by
  show (if (k : Int) < 0 then ((k : Int) + (n : Int)).toNat else min (k : Int).toNat n) = min k n
  rw [if_neg (by omega), Int.toNat_natCast]
theorem sIx_le (n d : Nat) (hd : d ≤ n) (o : Option Int) : sIx n d o ≤ n := by
  cases o with
  | none => exact hd
  | some v =>
    show (if v < 0 then (v + (n : Int)).toNat else min v.toNat n) ≤ n
    by_cases hv : v < 0
    · rw [if_pos hv]; omega
    · rw [if_neg hv]; exact Nat.min_le_right _ _
theorem clip_eq (v : Int) (n d : Nat) : (if v < 0 then max (v + (n : Int)) 0 else min v (n : Int)) = ((sIx n d (some v) : Nat) : Int) := by
  show (if v < 0 then max (v + (n : Int)) 0 else min v (n : Int)) = (((if v < 0 then (v + (n : Int)).toNat else min v.toNat n) : Nat) : Int)
  by_cases hv : v < 0
  · simp only [if_pos hv]; omega
  · simp only [if_neg hv]; omega
theorem adjust_gen (lo hi : Option Int) (n : Nat) : Builtin.Slice.sliceAdjust lo hi 1 (n : Int) = (((sIx n 0 lo : Nat) : Int), ((sIx n n hi : Nat) : Int)) := by
  have h1 : ¬ ((1 : Int) < 0) := by omega
  unfold Builtin.Slice.sliceAdjust
  simp only [h1, if_false]
  refine Prod.ext ?_ ?_
  · cases lo with
    | none => rfl
    | some v => exact clip_eq v n 0
  · cases hi with
    | none => rfl
    | some v => exact clip_eq v n n
theorem places_gen (i j : Nat) : Builtin.Slice.slicePlaces (i : Int) (j : Int) 1 = j - i := by
  unfold Builtin.Slice.slicePlaces
  have h1 : (1 : Int) > 0 := by omega
  simp only [h1, if_true, Int.ediv_one]
  split <;> omega
theorem slicePart_ {v : Value} {o : Option Int} {Q : Option Int → Shared → Prop} (p : IsPart v o) (h : Q o s) : wpAny (model prog w) A (Builtin.Slice.slicePartIndex v) Q E s := by
  cases p with
  | none => exact slicePart_none h
  | int i t => exact slicePart_int h
theorem sliceApplied_gen {sl : Addr} {vl vu : Value} {lo hi : Option Int} {n : Nat} {Q : Int × Int × Nat → Shared → Prop} (hs : s.heap.IsSliceOf sl vl vu .none) (pl : IsPart vl lo) (pu : IsPart vu hi)
    (h : Q (((sIx n 0 lo : Nat) : Int), 1, sIx n n hi - sIx n 0 lo) s) : wpAny (model prog w) A (Builtin.Slice.sliceApplied (.ref sl) (pure (n : Int))) Q E s := by
  obtain ⟨os, hos, hcs, hds⟩ := id hs
  unfold Builtin.Slice.sliceApplied Builtin.Slice.sliceFields
  refine wpAny_bind (wpAny_bind (wpAny_field hos hds (x := vl) rfl (wpAny_bind (wpAny_field hos hds (x := vu) rfl (wpAny_bind (wpAny_field hos hds (x := .none) rfl (wpAny_pure ?_)))))))
  refine wpAny_bind (slicePart_none ?_)
  show wpAny _ _ (if ((1 : Int) == 0) = true then _ else _) _ _ s
  rw [if_neg (by decide)]
  refine wpAny_bind (slicePart_ pl (wpAny_bind (slicePart_ pu (wpAny_bind (wpAny_pure ?_)))))
  show wpAny _ _ (match Builtin.Slice.sliceAdjust lo hi 1 (n : Int) with | (lo, hi) => pure (lo, (1 : Int), Builtin.Slice.slicePlaces lo hi 1)) _ _ s
  rw [adjust_gen lo hi n]
  show wpAny _ _ (pure (((sIx n 0 lo : Nat) : Int), (1 : Int), Builtin.Slice.slicePlaces ((sIx n 0 lo : Nat) : Int) ((sIx n n hi : Nat) : Int) 1)) _ _ s
  rw [places_gen]
  exact wpAny_pure h
theorem pick_gen (xs : Array Value) (i k : Nat) : ((List.range k).filterMap fun (m : Nat) => xs[((i : Int) + (m : Int) * 1).toNat]?).toArray = ((xs.toList.drop i).take k).toArray := by
  have e : (fun (m : Nat) => xs[((i : Int) + (m : Int) * 1).toNat]?) = fun m => xs[i + m]? := by
    funext m
    have : ((i : Int) + (m : Int) * 1).toNat = i + m := by omega
    rw [this]
  rw [e]
  have := pick_run xs i k
  rw [List.filterMap_map] at this
  have e2 : ((fun x => xs[x]?) ∘ fun x => i + x) = fun m => xs[i + m]? := rfl
  rw [e2] at this
  rw [this]

theorem getItem_tuple_cut {t sl : Addr} {items : Array Value} {vl vu : Value} {lo hi : Option Int} {Q : Value → Shared → Prop} (ht : IsTup s.heap t items) (hs : s.heap.IsSliceOf sl vl vu .none) (pl : IsPart vl lo) (pu : IsPart vu hi)
    (hw : ¬ (sIx items.size 0 lo = 0 ∧ sIx items.size items.size hi = items.size))
    (h : Q (.ref s.heap.objs.size) { s with heap := s.heap.push { cls := .type "tuple", data := .seq ((items.toList.drop (sIx items.size 0 lo)).take (sIx items.size items.size hi - sIx items.size 0 lo)).toArray } })
    (hsz : items.size ≤ sizeLine) : wpAny (model prog w) A (getItem (.ref t) (.ref sl)) Q E s := by
  have htake : sizeOk (.seq ((items.toList.drop (sIx items.size 0 lo)).take (sIx items.size items.size hi - sIx items.size 0 lo)).toArray) := by
    show ((items.toList.drop (sIx items.size 0 lo)).take (sIx items.size items.size hi - sIx items.size 0 lo)).toArray.size ≤ sizeLine
    rw [List.size_toArray, List.length_take, List.length_drop, Array.length_toList]
    omega
  have hj : sIx items.size items.size hi ≤ items.size := sIx_le _ _ (Nat.le_refl _) hi
  obtain ⟨os, hos, hcs, hds⟩ := id hs
  have hTs : s.TypeIs (.ref sl) "slice" := ⟨os, hos, hcs⟩
  unfold getItem
  try with_reducible refine wpAny_holding ?_
  first | refine wpAny_bind (wpAny_pure ?_) | skip
  refine wpAny_bind (wpAny_sequenceKey ht.typeIs (by decide) ?_)
  refine wpAny_bind (wpAny_callSpecial?_slot (name := Str.ofString "__getitem__") ht.typeIs PyProof.Rows.slot_tuple_getitem
    (wpAny_call_entry PyProof.Rows.slot_tuple_getitem ht.typeIs entry_tuple_getitem ?_ (args_tuple_getitem _ _)))
  show wpAny _ _ (Builtin.Tuple.tupleItemsOf (.ref t) >>= _) _ _ s
  refine wpAny_bind (tupleItemsOf_ ht ?_)
  refine wpAny_bind (wpAny_typeOf hTs ?_)
  rw [if_pos (by decide)]
  refine wpAny_bind (sliceApplied_gen hs pl pu ?_)
  have hno : ¬ ((((sIx items.size 0 lo : Nat) : Int) == 0 && (1 : Int) == 1 && (sIx items.size items.size hi - sIx items.size 0 lo) == items.size) = true) := by
    intro q
    rw [Bool.and_eq_true, Bool.and_eq_true] at q
    have q1 : ((sIx items.size 0 lo : Nat) : Int) = 0 := eq_of_beq q.1.1
    have q2 : sIx items.size items.size hi - sIx items.size 0 lo = items.size := eq_of_beq q.2
    exact hw ⟨by omega, by omega⟩
  show wpAny _ _ (if (((sIx items.size 0 lo : Nat) : Int) == 0 && (1 : Int) == 1 && (sIx items.size items.size hi - sIx items.size 0 lo) == items.size) = true then _ else _) _ _ s
  rw [if_neg hno, pick_gen]
  first
    | exact wpAny_bind (m := Builtin.Tuple.tupleExact _) (wpAny_newObj_type (wpAny_pure ⟨_, rfl, wpAny_pure h⟩) htake)
    | exact wpAny_bind (m := Builtin.Tuple.tupleExact _) (wpAny_newObj_type (wpAny_bind (wpAny_pure (wpAny_pure ⟨_, rfl, wpAny_pure h⟩))) htake)
    | exact wpAny_bind (wpAny_bind (m := Builtin.Tuple.tupleExact _) (wpAny_newObj_type (wpAny_pure (wpAny_pure ⟨_, rfl, wpAny_pure h⟩)) htake))
    | exact wpAny_bind (wpAny_bind (m := Builtin.Tuple.tupleExact _) (wpAny_newObj_type (wpAny_pure ⟨_, rfl, wpAny_pure h⟩) htake))
end
end HT

namespace L2
open PySem PySem.Spec PyProof.Rows

/-! ### the parts of a slice -/
abbrev TO := St → Hp → (Option Int → Hp → Prop) → Prop
/-- a slice's part (left out, or an int) -/
def PO (X : Cx) (e : Option Expr) (t : TO) : Prop :=
  ∀ (pins : List (Addr × Obj)) (s : Shared) (σ : St) (H : Hp) (Q : Option Int → Hp → Prop), Inv X pins σ H s → t σ H Q →
    wpAny (model X.prog X.w) X.A (evalPart e X.env) (fun u s' => ∃ o H', Inv X pins σ H' s' ∧ IsPart u o ∧ Q o H') X.xe s
def tNoPart : TO := fun _ H Q => Q none H
def tPart (t : TE) : TO := fun σ H Q => t σ H fun x H1 => ∃ i, x = .int i ∧ Q (some i) H1

theorem intsAre_of {ns : List Int} : ∀ {us : List Value}, Vals (ns.map V.int) us → IntsAre us ns := by
  induction ns with
  | nil => intro us r; rw [List.map_nil] at r; cases r; exact .nil
  | cons n ns ih =>
    intro us r
    rw [List.map_cons] at r
    cases r with
    | cons r1 r2 =>
      obtain ⟨t, e⟩ := r1
      subst e
      exact .cons n t (ih r2)

section
variable {X : Cx} {e : Expr} {te : TE} {lo hi : Option Expr} {tl th : TO} {pos p2 : Pos}

theorem po_none : PO X none tNoPart := by
  intro pins s σ H Q I h
  rw [evalPart_none]
  exact wpAny_pure ⟨none, H, I, .none, h⟩
theorem po_some (h : PE X e te) : PO X (some e) (tPart te) := by
  intro pins s σ H Q I hw
  rw [evalPart_some]
  refine thn (h pins s σ H _ I hw) fun u s1 ⟨x, H1, I1, r1, q1⟩ => ?_
  obtain ⟨i, rfl, q⟩ := q1
  obtain ⟨t, rfl⟩ := r1
  exact ⟨some i, H1, I1, .int i t, q⟩

/-- what a slice of a value is, by values: the slice object stands at sl -/
def SlR (X : Cx) (r : V → Option Int → Option Int → Hp → VK → Prop) : Prop :=
  ∀ (pins : List (Addr × Obj)) (s : Shared) (σ : St) (H : Hp) (x : V) (v vl vu : Value) (lo hi : Option Int) (sl : Addr) (Q : VK), Inv X pins σ H s → RelV x v → s.heap.IsSliceOf sl vl vu .none → IsPart vl lo → IsPart vu hi → r x lo hi H Q →
    ∃ T id, typeLookup (.type T) "__getitem__" = pure (some (.builtin id)) ∧ s.TypeIs v T ∧ wpAny (model X.prog X.w) X.A (getItem v (.ref sl)) (EP X pins σ Q) X.xe s
theorem SlR.or {r r' : V → Option Int → Option Int → Hp → VK → Prop} (h : SlR X r) (h' : SlR X r') : SlR X (fun x lo hi H Q => r x lo hi H Q ∨ r' x lo hi H Q) := by
  intro pins s σ H x v vl vu lo hi sl Q I rx hs pl pu q
  rcases q with q | q
  · exact h pins s σ H x v vl vu lo hi sl Q I rx hs pl pu q
  · exact h' pins s σ H x v vl vu lo hi sl Q I rx hs pl pu q
def tSl (r : V → Option Int → Option Int → Hp → VK → Prop) (te : TE) (tl th : TO) : TE := fun σ H Q => te σ H fun x H1 => tl σ H1 fun l H2 => th σ H2 fun u H3 => r x l u H3 Q
/-- a[lo:hi], any a -/
theorem pe_slice {r : V → Option Int → Option Int → Hp → VK → Prop} (hr : SlR X r) (he : PE X e te) (hl : PO X lo tl) (hu : PO X hi th) : PE X (.Subscript e (.Slice lo hi none p2) pos) (tSl r te tl th) := by
  intro pins s σ H Q I h
  refine Subscript_ (thn (he pins s σ H _ I h) fun v s1 ⟨x, H1, I1, r1, q1⟩ => ?_)
  refine wpAny_Slice (thn (hl pins s1 σ H1 _ I1 q1) fun vl s2 ⟨l, H2, I2, pl, q2⟩ => thn (hu pins s2 σ H2 _ I2 q2) fun vu s3 ⟨u, H3, I3, pu, q3⟩ => ?_)
  rw [evalPart_none]
  refine wpAny_pure ?_
  have I4 : Inv X pins σ H3 { s3 with heap := s3.heap.push { cls := .type "slice", data := .fields #[vl, vu, .none] } } := I3.kept (t' := s3.toks) fun b ob q => Heap.get?_push_of_some _ q
  obtain ⟨T, id, hT, ht, hg⟩ := hr pins { s3 with heap := s3.heap.push { cls := .type "slice", data := .fields #[vl, vu, .none] } } σ H3 x v vl vu l u s3.heap.objs.size Q I4 r1 (Heap.IsSliceOf.new ..) pl pu q3
  show wpAny (model X.prog X.w) X.A (subscriptTail e (.Slice lo hi none p2) v (.ref s3.heap.objs.size)) (EP X pins σ Q) X.xe { s3 with heap := s3.heap.push { cls := .type "slice", data := .fields #[vl, vu, .none] } }
  exact tail_any (ops := [.ref s3.heap.objs.size, v]) ht hT hg (by with_unfolding_all rfl)

/-- the items of xs[lo:hi] -/
def cutV (xs : List V) (lo hi : Option Int) : List V := (xs.drop (HT.sIx xs.length 0 lo)).take (HT.sIx xs.length xs.length hi - HT.sIx xs.length 0 lo)
theorem cutV_length (xs : List V) (lo hi : Option Int) : (cutV xs lo hi).length ≤ xs.length := by
  unfold cutV
  rw [List.length_take, List.length_drop]
  omega
/-- t[lo:hi], not the whole of it (the whole would be t itself) -/
def rSlT (K : PySem.W.Frag) : V → Option Int → Option Int → Hp → VK → Prop := fun x lo hi H Q => ∃ a xs, x = .ref a ∧ SqT K H a xs ∧
  ¬ (HT.sIx xs.length 0 lo = 0 ∧ HT.sIx xs.length xs.length hi = xs.length) ∧ ∀ p, H p = none → Q (.ref p) (upd H p (.tup (cutV xs lo hi)))
theorem sl_tup : SlR X (rSlT X.K) := by
  intro pins s σ H x v vl vu lo hi sl Q I rx hs pl pu h
  obtain ⟨a, xs, rfl, hx, hw, q⟩ := h
  cases rx
  obtain ⟨its, r, ht, hz⟩ := I.tuple hx
  have hlen : its.toArray.size = xs.length := by rw [List.size_toArray]; exact r.length.symm
  refine ⟨"tuple", _, PyProof.Rows.slot_tuple_getitem.lookup, ht.typeIs, ?_⟩
  refine HT.getItem_tuple_cut ht hs pl pu (by rw [hlen]; exact hw) ?_ (by rw [hlen]; exact hz)
  rw [hlen]
  refine ⟨.ref s.heap.objs.size, _, I.laid (t' := s.toks) (o := .tup (cutV xs lo hi)) (fun b ob q => Heap.get?_push_of_some _ q) (Nat.le_refl _) ?_, rfl, q _ (I.hok.fresh (Nat.le_refl _))⟩
  exact ⟨Nat.le_trans (cutV_length xs lo hi) hz, _, (r.drop (HT.sIx xs.length 0 lo)).take (HT.sIx xs.length xs.length hi - HT.sIx xs.length 0 lo), IsTup.new _ _⟩

/-! ### t < u, t + u -/
def rLtT (K : PySem.W.Frag) : R2 := fun x y H Q => ∃ a b ns ms, x = .ref a ∧ y = .ref b ∧ SqT K H a (ns.map V.int) ∧ SqT K H b (ms.map V.int) ∧ Q (.bl (HT.lexLt ns ms)) H
theorem op_ltT (hu : X.A.units < cLine) : OpR X (compareOp .Lt) (rLtT X.K) := by
  intro pins s σ H x y v u Q I rx ry h
  obtain ⟨a, b, ns, ms, rfl, rfl, ha, hb, q⟩ := h
  cases rx
  cases ry
  obtain ⟨its, r1, p1, _⟩ := I.tuple ha
  obtain ⟨its2, r2, p2, _⟩ := I.tuple hb
  have i1 : IntsAre its.toArray.toList ns := intsAre_of r1
  have i2 : IntsAre its2.toArray.toList ms := intsAre_of r2
  exact HT.lt_tupInts p1 p2 i1 i2 hu ⟨.bl (HT.lexLt ns ms), H, I, rfl, q⟩
/-- t + u, t not empty: u empty gives t itself -/
def rCatT (K : PySem.W.Frag) : R2 := fun x y H Q => ∃ a b xs ys, x = .ref a ∧ y = .ref b ∧ SqT K H a xs ∧ SqT K H b ys ∧ xs ≠ [] ∧ xs.length + ys.length ≤ sizeLine ∧
  (ys = [] → Q (.ref a) H) ∧ (ys ≠ [] → ∀ p, H p = none → Q (.ref p) (upd H p (.tup (xs ++ ys))))
theorem Vals.nil_iff {xs : List V} {us : List Value} (r : Vals xs us) : us = [] ↔ xs = [] := by
  cases r with
  | nil => simp
  | cons _ _ => simp
theorem op_catT : OpR X (binaryOp .Add) (rCatT X.K) := by
  intro pins s σ H x y v u Q I rx ry h
  obtain ⟨a, b, xs, ys, rfl, rfl, ha, hb, hx, hz, q1, q2⟩ := h
  cases rx
  cases ry
  obtain ⟨its, r1, p1, _⟩ := I.tuple ha
  obtain ⟨its2, r2, p2, _⟩ := I.tuple hb
  refine HT.cat_tup p1 p2 (fun z => hx (r1.nil_iff.mp z)) (fun z => ⟨.ref a, H, I, rfl, q1 (r2.nil_iff.mp z)⟩) (fun z => ?_) (by rw [← r1.length, ← r2.length]; exact hz)
  refine ⟨.ref s.heap.objs.size, _, I.laid (t' := s.toks) (o := .tup (xs ++ ys)) (fun b ob q => Heap.get?_push_of_some _ q) (Nat.le_refl _) ?_, rfl, q2 (fun w => z (r2.nil_iff.mpr w)) _ (I.hok.fresh (Nat.le_refl _))⟩
  exact ⟨by rw [List.length_append]; exact hz, _, r1.append r2, IsTup.new _ _⟩
/-- tuple(t) -/
theorem call_tupleT : CallR X (.type "tuple") (fun xs H Q => ∃ a ys, xs = [.ref a] ∧ SqT X.K H a ys ∧ Q (.ref a) H) := by
  intro pins s σ H xs us Q I r h
  obtain ⟨a, ys, rfl, ha, q⟩ := h
  obtain ⟨u, rfl, ru⟩ := vals1 r
  cases ru
  obtain ⟨its, _, p1, _⟩ := I.tuple ha
  exact call_tuple_same (items := its.toArray) p1 ⟨.ref a, H, I, rfl, q⟩
end
end L2

namespace L2
open PySem PySem.Spec PyProof.Rows

/-! ### places -/
/-- the place that an index of any sign means -/
def ixN (n : Nat) (i : Int) : Option Nat := if 0 ≤ i then (if i < n then some i.toNat else none) else if -(n : Int) ≤ i then some (i + n).toNat else none
def atI {α : Type} (xs : List α) (i : Int) : Option α := (ixN xs.length i).bind fun j => xs[j]?
theorem ixN_seq {n : Nat} {i : Int} {j : Nat} (h : ixN n i = some j) : seqIndex? i n = some j ∧ j < n ∧ -(n : Int) ≤ i ∧ i < n := by
  unfold ixN at h
  by_cases h0 : 0 ≤ i
  · rw [if_pos h0] at h
    by_cases h1 : i < n
    · rw [if_pos h1] at h
      have e : i.toNat = j := Option.some.inj h
      exact ⟨by rw [seqIndex_of h0 h1, e], by omega, by omega, h1⟩
    · rw [if_neg h1] at h; cases h
  · rw [if_neg h0] at h
    by_cases h1 : -(n : Int) ≤ i
    · rw [if_pos h1] at h
      have e : (i + n).toNat = j := Option.some.inj h
      exact ⟨by rw [seqIndex_neg (by omega) h1, e], by omega, h1, by omega⟩
    · rw [if_neg h1] at h; cases h
theorem atI_get {α : Type} {xs : List α} {i : Int} {v : α} (h : atI xs i = some v) : ∃ j, seqIndex? i xs.length = some j ∧ xs[j]? = some v ∧ j < xs.length ∧ -(xs.length : Int) ≤ i ∧ i < xs.length := by
  unfold atI at h
  cases e : ixN xs.length i with
  | none => rw [e] at h; cases h
  | some j =>
    rw [e] at h
    obtain ⟨h1, h2, h3, h4⟩ := ixN_seq e
    exact ⟨j, h1, h, h2, h3, h4⟩
theorem atI_nat {α : Type} {xs : List α} {j : Nat} {v : α} (h : xs[j]? = some v) : atI xs (j : Int) = some v := by
  have hj : j < xs.length := (List.getElem?_eq_some_iff.mp h).1
  have e : ixN xs.length (j : Int) = some j := by
    unfold ixN
    rw [if_pos (by omega), if_pos (by omega)]; simp
  unfold atI; rw [e]; exact h
theorem atI_last {α : Type} (xs : List α) (v : α) : atI (xs ++ [v]) (-1) = some v := by
  have hl : (xs ++ [v]).length = xs.length + 1 := by simp
  have e : ixN (xs ++ [v]).length (-1) = some xs.length := by
    unfold ixN
    rw [hl, if_neg (by decide), if_pos (by omega)]
    congr 1
    omega
  unfold atI
  rw [e]
  show (xs ++ [v])[xs.length]? = some v
  simp

/-! ### what may be subscripted -/
/-- what stands as an index of a plain subscript -/
def PlainIx (b : Expr) : Prop := ∀ o i, subscripted b false o i = operate [o, i] (getItem o i)
/-- a subscript by values -/
def IxR (X : Cx) (r : R2) : Prop :=
  ∀ (value slice : Expr) (pins : List (Addr × Obj)) (s : Shared) (σ : St) (H : Hp) (x y : V) (v u : Value) (Q : VK), Inv X pins σ H s → RelV x v → RelV y u → r x y H Q →
    subscripted slice false v u = operate [v, u] (getItem v u) → wpAny (model X.prog X.w) X.A (subscriptTail value slice v u) (EP X pins σ Q) X.xe s
/-- a call of a builtin's method by values: the receiver, the arguments -/
def MtR (X : Cx) (id : String) (r : V → List V → Hp → VK → Prop) : Prop :=
  ∀ (pins : List (Addr × Obj)) (s : Shared) (σ : St) (H : Hp) (x : V) (xs : List V) (v : Value) (us : List Value) (Q : VK), Inv X pins σ H s → RelV x v → Vals xs us → r x xs H Q →
    wpAny (model X.prog X.w) X.A (call (.builtin id) (v :: us)) (EP X pins σ Q) X.xe s
section
variable {X : Cx} {a b : Expr} {ta tb : TE} {pos : Pos}
theorem IxR.or {r r' : R2} (h : IxR X r) (h' : IxR X r') : IxR X (fun x y H Q => r x y H Q ∨ r' x y H Q) := by
  intro value slice pins s σ H x y v u Q I rx ry q hs
  rcases q with q | q
  · exact h value slice pins s σ H x y v u Q I rx ry q hs
  · exact h' value slice pins s σ H x y v u Q I rx ry q hs
theorem MtR.or {id : String} {r r' : V → List V → Hp → VK → Prop} (h : MtR X id r) (h' : MtR X id r') : MtR X id (fun x xs H Q => r x xs H Q ∨ r' x xs H Q) := by
  intro pins s σ H x xs v us Q I rx rs q
  rcases q with q | q
  · exact h pins s σ H x xs v us Q I rx rs q
  · exact h' pins s σ H x xs v us Q I rx rs q
/-- a[b] -/
theorem pe_ix {r : R2} (hr : IxR X r) (ha : PE X a ta) (hb : PE X b tb) (hs : PlainIx b) : PE X (.Subscript a b pos) (tOp r ta tb) := by
  intro pins s σ H Q I h
  exact Subscript_ (binT ha hb I h fun v u s2 x y H2 I2 rx ry q => hr a b pins s2 σ H2 x y v u Q I2 rx ry q (hs _ _))

def rIxL (K : PySem.W.Frag) : R2 := fun x y H Q => ∃ p xs i v, x = .ref p ∧ y = .int i ∧ SqL K H p xs ∧ atI xs i = some v ∧ Q v H
def rIxT (K : PySem.W.Frag) : R2 := fun x y H Q => ∃ p xs i v, x = .ref p ∧ y = .int i ∧ SqT K H p xs ∧ atI xs i = some v ∧ Q v H
def rIxS : R2 := fun x y H Q => ∃ z i c, x = .str z ∧ y = .int i ∧ z.length ≤ sizeLine ∧ atI z.cps.toList i = some c ∧ Q (.str ⟨#[c]⟩) H
theorem ix_list : IxR X (rIxL X.K) := by
  intro value slice pins s σ H x y v u Q I rx ry h hs
  obtain ⟨p, xs, i, z, rfl, rfl, hq, he, q⟩ := h
  cases rx
  obtain ⟨t, rfl⟩ := ry
  obtain ⟨its, r, pl, hz⟩ := I.list hq
  obtain ⟨j, h1, h2, h3, h4, h5⟩ := atI_get he
  obtain ⟨w, ew, rw'⟩ := r.get h2
  have hl := r.length
  have hn := line63
  have fin : EP X pins σ Q w s := ⟨z, H, I, rw', q⟩
  by_cases h0 : 0 ≤ i
  · have hj : i.toNat = j := by
      rw [seqIndex_of h0 h5] at h1
      exact Option.some.inj h1
    exact item_listR pl.isList h0 (by omega) (by rw [hj]; simpa using ew) fin hs
  · have hj : (i + (its.toArray.size : Int)).toNat = j := by
      rw [seqIndex_neg (by omega) h4] at h1
      rw [List.size_toArray, ← hl]
      exact Option.some.inj h1
    exact subscriptTail_builtinR (x := w) pl.isList.typeIs slot_list_getitem.lookup
      (wpAny_getItem_list_neg (Q := fun r s' => r = w ∧ EP X pins σ Q r s') pl.isList (by omega) (by rw [List.size_toArray] <;> omega) (by omega) (by rw [hj]; simpa using ew) ⟨rfl, fin⟩) hs
theorem ix_tup : IxR X (rIxT X.K) := by
  intro value slice pins s σ H x y v u Q I rx ry h hs
  obtain ⟨p, xs, i, z, rfl, rfl, hq, he, q⟩ := h
  cases rx
  obtain ⟨t, rfl⟩ := ry
  obtain ⟨its, r, pl, hz⟩ := I.tuple hq
  obtain ⟨j, h1, h2, h3, h4, h5⟩ := atI_get he
  obtain ⟨w, ew, rw'⟩ := r.get h2
  have hl := r.length
  have hn := line63
  have fin : EP X pins σ Q w s := ⟨z, H, I, rw', q⟩
  exact subscriptTail_builtinR (x := w) pl.typeIs slot_tuple_getitem.lookup
    (getItem_tuple (j := j) (Q := fun r s' => r = w ∧ EP X pins σ Q r s') pl (by omega) (by omega) (by rw [List.size_toArray, ← hl]; exact h1) (by simpa using ew) ⟨rfl, fin⟩) hs
theorem ix_str : IxR X rIxS := by
  intro value slice pins s σ H x y v u Q I rx ry h hs
  obtain ⟨z, i, c, rfl, rfl, hz, he, q⟩ := h
  obtain ⟨t, rfl⟩ := rx
  obtain ⟨t', rfl⟩ := ry
  obtain ⟨j, h1, h2, h3, h4, h5⟩ := atI_get he
  have hl : z.cps.toList.length = z.length := by simp [Str.length]
  rw [hl] at h1 h4 h5
  have hn := line63
  exact tail_any (typeIs_str s z t) slot_str_getitem.lookup (getItem_str (c := c) (by
    have e1 : decide (i < -(2 ^ 63 : Int)) = false := decide_eq_false (by omega)
    have e2 : decide (i ≥ 2 ^ 63) = false := decide_eq_false (by omega)
    rw [e1, e2, Bool.or_false]) (by rw [h1]; simpa using h2) ⟨.str ⟨#[c]⟩, H, I.tok _, ⟨_, rfl⟩, q⟩) hs
/-- list, tuple or str -/
def rIx (K : PySem.W.Frag) : R2 := fun x y H Q => rIxL K x y H Q ∨ rIxT K x y H Q ∨ rIxS x y H Q
theorem ix_seq : IxR X (rIx X.K) := ix_list.or (ix_tup.or ix_str)

/-! ### xs[i] = v, any sign -/
/-- the list's object behind a store -/
theorem mapSeq_set (its : List Value) (n j : Nat) (u : Value) : Obj.mapSeq (·.setIfInBounds j u) { cls := .type "list", data := .seq its.toArray n } = { cls := .type "list", data := .seq (its.set j u).toArray n } := by
  simp [Obj.mapSeq]
theorem Inv.lst {pins : List (Addr × Obj)} {σ : St} {H : Hp} {s : Shared} {p : Addr} {xs : List V} (I : Inv X pins σ H s) (h : H p = some (.lst xs)) :
    ∃ (its : List Value) (n : Nat), Vals xs its ∧ s.heap.get? p = some { cls := .type "list", data := .seq its.toArray n } ∧ xs.length ≤ sizeLine := by
  obtain ⟨z, its, n, r, e⟩ := I.hok p _ h
  exact ⟨its, n, r, e, z⟩
/-- the list at p is written by an update of its object -/
theorem Inv.lstUpd {pins : List (Addr × Obj)} {σ : St} {H : Hp} {s : Shared} {p : Addr} {xs ys : List V} {its its' : List Value} {n n' : Nat} {f : Obj → Obj} (I : Inv X pins σ H s) (h : H p = some (.lst xs))
    (ho : s.heap.get? p = some { cls := .type "list", data := .seq its.toArray n }) (hf : f { cls := .type "list", data := .seq its.toArray n } = { cls := .type "list", data := .seq its'.toArray n' }) (r : Vals ys its') (hz : ys.length ≤ sizeLine) (t : Nat) :
    Inv X pins σ (upd H p (.lst ys)) { s with heap := s.heap.update p f, toks := t } := by
  have e : (s.heap.update p f).get? p = some { cls := .type "list", data := .seq its'.toArray n' } := by
    rw [Heap.get?_update_self f ho (by rw [hf] <;> rfl), hf]
  refine I.write (x := p) (e := p) (by rw [h]; trivial) (.inl rfl) (fun b u hb q => (Heap.get?_update_other _ _ (Ne.symm hb)).trans q) ⟨_, e⟩ ?_
  exact ⟨hz, its', n', r, e⟩
def rSetL : V → V → V → Hp → (Hp → Prop) → Prop := fun o i v H Q => ∃ p xs k j, o = .ref p ∧ i = .int k ∧ H p = some (.lst xs) ∧ ixN xs.length k = some j ∧ Q (upd H p (.lst (xs.set j v)))
theorem set_list : PSet X rSetL := by
  intro pins s σ H o i v ov iv u Q I ro ri rv h
  obtain ⟨p, xs, k, j, rfl, rfl, hp, hj, q⟩ := h
  cases ro
  obtain ⟨t, rfl⟩ := ri
  obtain ⟨its, n, r, ho, hz⟩ := I.lst hp
  obtain ⟨h1, h2, h3, h4⟩ := ixN_seq hj
  have hl := r.length
  have hn := line63
  have I' : Inv X pins σ (upd H p (.lst (xs.set j v))) { s with heap := s.heap.update p (Obj.mapSeq (·.setIfInBounds j u)) } :=
    I.lstUpd hp ho (mapSeq_set its n j u) (r.set rv j) (by rw [List.length_set]; exact hz) s.toks
  by_cases h0 : 0 ≤ k
  · have hk : k.toNat = j := by
      rw [seqIndex_of h0 h4] at h1
      exact Option.some.inj h1
    exact PySem.W.ki_setAt ho h0 (by omega) (by rw [List.size_toArray, ← hl]; exact h4) (by rw [hk]; exact ⟨_, I', q⟩)
  · have hk : (k + (its.toArray.size : Int)).toNat = j := by
      rw [seqIndex_neg (by omega) h3] at h1
      rw [List.size_toArray, ← hl]
      exact Option.some.inj h1
    exact PySem.W.ki_setBack ho (by omega) (by rw [List.size_toArray, ← hl]; exact h3) (by omega) (by rw [hk]; exact ⟨_, I', q⟩)

/-! ### slices -/
theorem slice_bounds (lo hi : Option Int) (n : Nat) : (sliceBounds lo hi none n).1 = ((HT.sIx n 0 lo : Nat) : Int) ∧ (sliceBounds lo hi none n).2.1 = ((HT.sIx n n hi : Nat) : Int) ∧ (sliceBounds lo hi none n).2.2 = 1 := by
  refine ⟨?_, ?_, rfl⟩
  · cases lo with
    | none => simp [sliceBounds, HT.sIx]
    | some i =>
      simp only [sliceBounds, HT.sIx, Option.getD_none, show (1 : Int) > 0 by decide, if_true]
      by_cases h : i < 0
      · simp only [h, if_true] <;> omega
      · simp only [h, if_false] <;> omega
  · cases hi with
    | none => simp [sliceBounds, HT.sIx]
    | some i =>
      simp only [sliceBounds, HT.sIx, Option.getD_none, show (1 : Int) > 0 by decide, if_true]
      by_cases h : i < 0
      · simp only [h, if_true] <;> omega
      · simp only [h, if_false] <;> omega
theorem slicePick_cut (its : List Value) (lo hi : Option Int) : slicePick its.toArray lo hi none = ((its.drop (HT.sIx its.length 0 lo)).take (HT.sIx its.length its.length hi - HT.sIx its.length 0 lo)).toArray := by
  obtain ⟨h1, h2, h3⟩ := slice_bounds lo hi its.toArray.size
  unfold slicePick
  rw [h1, h2, h3]
  simp only [sliceRange_one, pick_run, List.size_toArray] <;> rfl
/-- xs[lo:hi] of a list: a new list -/
def rSlL (K : PySem.W.Frag) : V → Option Int → Option Int → Hp → VK → Prop := fun x lo hi H Q => ∃ a xs, x = .ref a ∧ SqL K H a xs ∧ ∀ p, H p = none → Q (.ref p) (upd H p (.lst (cutV xs lo hi)))
theorem sl_list : SlR X (rSlL X.K) := by
  intro pins s σ H x v vl vu lo hi sl Q I rx hs pl pu h
  obtain ⟨a, xs, rfl, hx, q⟩ := h
  cases rx
  obtain ⟨its, r, ht, hz⟩ := I.list hx
  have hlen := r.length
  refine ⟨"list", _, slot_list_getitem.lookup, ht.isList.typeIs, ?_⟩
  refine wpAny_getItem_list_slice ht.isList hs pl pu .none (by simp) ?_ (by rw [List.size_toArray] <;> omega)
  rw [slicePick_cut, ← hlen]
  refine ⟨.ref s.heap.objs.size, _, I.laid (t' := s.toks) (o := .lst (cutV xs lo hi)) (fun b ob q => Heap.get?_push_of_some _ q) (Nat.le_refl _) ?_, rfl, q _ (I.hok.fresh (Nat.le_refl _))⟩
  exact ⟨Nat.le_trans (cutV_length xs lo hi) hz, _, 0, (r.drop (HT.sIx xs.length 0 lo)).take (HT.sIx xs.length xs.length hi - HT.sIx xs.length 0 lo), Heap.get?_push_size _ rfl⟩

/-! ### in, not in: flat items -/
def flatV : V → Bool
  | .non => true
  | .bl _ => true
  | .int _ => true
  | .str _ => true
  | _ => false
/-- == of flat values -/
def eqV : V → V → Bool
  | .non, .non => true
  | .bl a, .bl b => a == b
  | .bl a, .int b => (if a then 1 else 0) == b
  | .int a, .bl b => a == (if b then 1 else 0)
  | .int a, .int b => a == b
  | .str a, .str b => a == b
  | _, _ => false
theorem eqAt_V {A : Around} {s : Shared} {y x : V} {u v : Value} (ry : RelV y u) (rx : RelV x v) (fy : flatV y = true) (fx : flatV x = true) : SeqAt.EqAt A s u v (eqV y x) := by
  cases y with
  | non =>
    cases ry
    cases x with
    | non => cases rx; exact SeqAt.EqAt.same _
    | bl b => cases rx; exact SeqAt.EqAt.none_bool b
    | int b => obtain ⟨t, rfl⟩ := rx; exact SeqAt.EqAt.none_int b t
    | str b => obtain ⟨t, rfl⟩ := rx; exact SeqAt.EqAt.none_str b t
    | _ => exact absurd (show false = true from fx) Bool.false_ne_true
  | bl a =>
    cases ry
    cases x with
    | non => cases rx; exact SeqAt.EqAt.bool_none a
    | bl b => cases rx; exact SeqAt.EqAt.bool_bool a b
    | int b => obtain ⟨t, rfl⟩ := rx; exact SeqAt.EqAt.bool_int a b t
    | str b => obtain ⟨t, rfl⟩ := rx; exact SeqAt.EqAt.bool_str a b t
    | _ => exact absurd (show false = true from fx) Bool.false_ne_true
  | int a =>
    obtain ⟨t', rfl⟩ := ry
    cases x with
    | non => cases rx; exact SeqAt.EqAt.int_none a t'
    | bl b => cases rx; exact SeqAt.EqAt.int_bool a t' b
    | int b => obtain ⟨t, rfl⟩ := rx; exact SeqAt.EqAt.int_int a t' b t
    | str b => obtain ⟨t, rfl⟩ := rx; exact SeqAt.EqAt.int_str a t' b t
    | _ => exact absurd (show false = true from fx) Bool.false_ne_true
  | str a =>
    obtain ⟨t', rfl⟩ := ry
    cases x with
    | non => cases rx; exact SeqAt.EqAt.str_none a t'
    | bl b => cases rx; exact SeqAt.EqAt.str_bool a t' b
    | int b => obtain ⟨t, rfl⟩ := rx; exact SeqAt.EqAt.str_int a t' b t
    | str b => obtain ⟨t, rfl⟩ := rx; exact SeqAt.EqAt.str_str a t' b t
    | _ => exact absurd (show false = true from fx) Bool.false_ne_true
  | _ => exact absurd (show false = true from fy) Bool.false_ne_true
/-- the items' answers, read off the values (a value's own answer does not lean on its token) -/
def eqU (x : V) (u : Value) : Bool := match u with
  | .none => eqV .non x
  | .bool b => eqV (.bl b) x
  | .int i _ => eqV (.int i) x
  | .str z _ => eqV (.str z) x
  | _ => false
theorem eqU_of {x y : V} {u : Value} (r : RelV y u) (f : flatV y = true) : eqU x u = eqV y x := by
  cases y with
  | non => cases r; rfl
  | bl b => cases r; rfl
  | int i => obtain ⟨t, rfl⟩ := r; rfl
  | str z => obtain ⟨t, rfl⟩ := r; rfl
  | _ => exact absurd (show false = true from f) Bool.false_ne_true
theorem any_eqU {x : V} : ∀ {xs : List V} {us : List Value}, Vals xs us → xs.all flatV = true → us.any (eqU x) = xs.any fun y => eqV y x
  | _, _, .nil, _ => rfl
  | y :: xs, u :: us, .cons r t, f => by
    rw [List.all_cons, Bool.and_eq_true] at f
    rw [List.any_cons, List.any_cons, eqU_of r f.1, any_eqU t f.2]
theorem mem_eqAt {A : Around} {s : Shared} {x : V} {v : Value} (rx : RelV x v) (fx : flatV x = true) : ∀ {xs : List V} {us : List Value}, Vals xs us → xs.all flatV = true → ∀ u ∈ us, SeqAt.EqAt A s u v (eqU x u)
  | _, _, .nil, _ => fun u hu => by cases hu
  | y :: xs, u :: us, .cons r t, f => fun u' hu => by
    rw [List.all_cons, Bool.and_eq_true] at f
    rcases List.mem_cons.mp hu with rfl | hu
    · rw [eqU_of r f.1]; exact eqAt_V r rx f.1 fx
    · exact mem_eqAt rx fx t f.2 u' hu
def inV (x : V) (xs : List V) : Bool := xs.any fun y => eqV y x
/-- x in a list or tuple of flat items -/
def rIn (K : PySem.W.Frag) (neg : Bool) : R2 := fun x y H Q => ∃ p xs, y = .ref p ∧ (SqL K H p xs ∨ SqT K H p xs) ∧ flatV x = true ∧ xs.all flatV = true ∧ Q (.bl (if neg then !inV x xs else inV x xs)) H
theorem op_in_seq : OpR X (compareOp .In) (rIn X.K false) := by
  intro pins s σ H x y v u Q I rx ry h
  obtain ⟨p, xs, rfl, hq, fx, fs, q⟩ := h
  cases ry
  rcases hq with hq | hq
  · obtain ⟨its, r, pl, hz⟩ := I.list hq
    refine SeqAt.in_listAt (eqU x) pl.isList (fun w hw => mem_eqAt rx fx r fs w (by simpa using hw)) ⟨.bl _, H, I, rfl, ?_⟩
    rw [show its.toArray.any (eqU x) = its.any (eqU x) by simp, any_eqU r fs]
    exact q
  · obtain ⟨its, r, pl, hz⟩ := I.tuple hq
    refine SeqAt.in_tupleAt (eqU x) pl (fun w hw => mem_eqAt rx fx r fs w (by simpa using hw)) ⟨.bl _, H, I, rfl, ?_⟩
    rw [show its.toArray.any (eqU x) = its.any (eqU x) by simp, any_eqU r fs]
    exact q
theorem op_notIn_seq : OpR X (compareOp .NotIn) (rIn X.K true) := by
  intro pins s σ H x y v u Q I rx ry h
  obtain ⟨p, xs, rfl, hq, fx, fs, q⟩ := h
  cases ry
  rcases hq with hq | hq
  · obtain ⟨its, r, pl, hz⟩ := I.list hq
    refine SeqAt.notIn_listAt (eqU x) pl.isList (fun w hw => mem_eqAt rx fx r fs w (by simpa using hw)) ⟨.bl _, H, I, rfl, ?_⟩
    rw [show its.toArray.any (eqU x) = its.any (eqU x) by simp, any_eqU r fs]
    exact q
  · obtain ⟨its, r, pl, hz⟩ := I.tuple hq
    refine SeqAt.notIn_tupleAt (eqU x) pl (fun w hw => mem_eqAt rx fx r fs w (by simpa using hw)) ⟨.bl _, H, I, rfl, ?_⟩
    rw [show its.toArray.any (eqU x) = its.any (eqU x) by simp, any_eqU r fs]
    exact q
theorem op_notIn_str : OpR X (compareOp .NotIn) (fun x y H Q => ∃ i j, x = .str i ∧ y = .str j ∧ Q (.bl (!(!(Builtin.Str.occurrences j i 0 j.length 1).isEmpty))) H) := by
  intro pins s σ H x y v u Q I rx ry h
  obtain ⟨i, j, rfl, rfl, q⟩ := h
  obtain ⟨t, rfl⟩ := rx
  obtain ⟨t', rfl⟩ := ry
  exact notIn_str ⟨.bl _, H, I, rfl, q⟩

/-! ### len, list(x), tuple(x) of any list or tuple that is read -/
theorem call_len_seq : CallR X (.builtin "len") (fun xs H Q => ∃ p ys, xs = [.ref p] ∧ (SqL X.K H p ys ∨ SqT X.K H p ys) ∧ Q (.int ys.length) H) := by
  intro pins s σ H xs us Q I r h
  obtain ⟨p, ys, rfl, hq, q⟩ := h
  obtain ⟨u, rfl, rx⟩ := vals1 r
  cases rx
  have hn := line63
  rcases hq with hq | hq
  · obtain ⟨its, r', pl, hz⟩ := I.list hq
    have hlen := r'.length
    exact Calls.call_len_list pl.isList (by simp only [List.size_toArray] <;> omega) ⟨.int ys.length, H, I.tok _, ⟨s.toks + 1, by rw [List.size_toArray, hlen]⟩, q⟩
  · obtain ⟨its, r', pl, hz⟩ := I.tuple hq
    have hlen := r'.length
    exact len_tuple pl (by simp only [List.size_toArray] <;> omega) ⟨.int ys.length, H, I.tok _, ⟨s.toks + 1, by rw [List.size_toArray, hlen]⟩, q⟩
theorem call_len_str : CallR X (.builtin "len") (fun xs H Q => ∃ z, xs = [.str z] ∧ z.length ≤ sizeLine ∧ Q (.int z.length) H) := by
  intro pins s σ H xs us Q I r h
  obtain ⟨z, rfl, hz, q⟩ := h
  obtain ⟨u, rfl, t, rfl⟩ := vals1 r
  have hn := line63
  exact len_str (by omega) ⟨.int z.length, H, I.tok _, ⟨_, rfl⟩, q⟩
theorem CallR.or {f : Value} {r r' : List V → Hp → VK → Prop} (h : CallR X f r) (h' : CallR X f r') : CallR X f (fun xs H Q => r xs H Q ∨ r' xs H Q) := by
  intro pins s σ H xs us Q I rs q
  rcases q with q | q
  · exact h pins s σ H xs us Q I rs q
  · exact h' pins s σ H xs us Q I rs q
theorem call_list_of : CallR X (.type "list") (fun xs H Q => ∃ p ys, xs = [.ref p] ∧ (SqL X.K H p ys ∨ SqT X.K H p ys) ∧ ∀ l, H l = none → Q (.ref l) (upd H l (.lst ys))) := by
  intro pins s σ H xs us Q I r h
  obtain ⟨p, ys, rfl, hq, q⟩ := h
  obtain ⟨u, rfl, rx⟩ := vals1 r
  cases rx
  have fin : ∀ (its : List Value), Vals ys its → ys.length ≤ sizeLine → ∀ (h' : Heap) (c' : Nat), (∀ b o', s.heap.get? b = some o' → h'.get? b = some o') →
      h'.get? s.heap.objs.size = some { cls := .type "list", dict := none, data := .seq its.toArray c', slots := #[] } → EP X pins σ Q (.ref s.heap.objs.size) { s with heap := h' } := fun its r' hz h' c' kp e =>
    ⟨.ref s.heap.objs.size, _, I.laid (t' := s.toks) kp (Nat.le_refl _) (show ObjOk X.prog X.w _ h' _ (.lst ys) from ⟨hz, its, c', r', e⟩), rfl, q _ (I.hok.fresh (Nat.le_refl _))⟩
  rcases hq with hq | hq
  · obtain ⟨its, r', pl, hz⟩ := I.list hq
    have hlen := r'.length
    obtain ⟨o, ho, hc, n, hd⟩ := pl.isList
    exact call_list_seq p (.inl rfl) ho hc hd (fun h' c' kp e => fin its r' hz h' c' kp e) (by simp only [List.size_toArray] <;> omega)
  · obtain ⟨its, r', pl, hz⟩ := I.tuple hq
    have hlen := r'.length
    obtain ⟨o, ho, hc, n, hd⟩ := pl
    exact call_list_seq p (.inr rfl) ho hc hd (fun h' c' kp e => fin its r' hz h' c' kp e) (by simp only [List.size_toArray] <;> omega)
theorem call_tuple_of : CallR X (.type "tuple") (fun xs H Q => ∃ p ys, xs = [.ref p] ∧ ((SqL X.K H p ys ∧ ∀ l, H l = none → Q (.ref l) (upd H l (.tup ys))) ∨ (SqT X.K H p ys ∧ Q (.ref p) H))) := by
  intro pins s σ H xs us Q I r h
  obtain ⟨p, ys, rfl, h⟩ := h
  obtain ⟨u, rfl, rx⟩ := vals1 r
  cases rx
  rcases h with ⟨hq, q⟩ | ⟨hq, q⟩
  · obtain ⟨its, r', pl, hz⟩ := I.list hq
    have hlen := r'.length
    refine call_tuple_list pl.isList (fun h' kp => ?_) (by simp only [List.size_toArray] <;> omega)
    have I1 : Inv X pins σ H { s with heap := h' } := I.kept (t' := s.toks) kp
    have I2 : Inv X pins σ (upd H h'.objs.size (.tup ys)) { s with heap := h'.push { cls := .type "tuple", data := .seq its.toArray } } :=
      I1.laid (t' := s.toks) (fun b o e => Heap.get?_push_of_some _ e) (Nat.le_refl _) (show ObjOk X.prog X.w _ _ _ (.tup ys) from ⟨hz, its, r', IsTup.new _ _⟩)
    exact ⟨.ref h'.objs.size, _, I2, rfl, q _ (I1.hok.fresh (Nat.le_refl _))⟩
  · obtain ⟨its, r', pl, hz⟩ := I.tuple hq
    exact call_tuple_same pl ⟨.ref p, H, I, rfl, q⟩

/-! ### the call of a builtin's method: o.m(..) -/
/-- the value is of that builtin type -/
def tyV (K : PySem.W.Frag) (T : String) (x : V) (H : Hp) : Prop := match x with
  | .str _ => T = "str"
  | .int _ => T = "int"
  | .ref p => (T = "list" ∧ ∃ xs, SqL K H p xs) ∨ (T = "tuple" ∧ ∃ o, K.lookup p = some o ∧ o.cls = .type "tuple" ∧ o.dict = none) ∨
      (T = "dict" ∧ ((∃ kvs, H p = some (.dK kvs)) ∨ ∃ kvs, H p = some (.dT kvs))) ∨ (T = "set" ∧ ∃ S n, H p = some (.set S n))
  | _ => False
theorem tyV_is {pins : List (Addr × Obj)} {σ : St} {H : Hp} {s : Shared} {T : String} {x : V} {v : Value} (I : Inv X pins σ H s) (r : RelV x v) (ty : tyV X.K T x H) :
    s.TypeIs v T ∧ ∀ a, v = .ref a → ∃ ob, s.heap.get? a = some ob ∧ ob.dict = none := by
  cases x with
  | str z =>
    obtain ⟨t, rfl⟩ := r
    cases (show T = "str" from ty)
    exact ⟨typeIs_str s z t, fun _ e => nomatch e⟩
  | int i =>
    obtain ⟨t, rfl⟩ := r
    cases (show T = "int" from ty)
    exact ⟨typeIs_int s i t, fun _ e => nomatch e⟩
  | ref p =>
    cases r
    rcases ty with ⟨rfl, xs, hq⟩ | ⟨rfl, o, hk, hc, hd⟩ | ⟨rfl, hk⟩ | ⟨rfl, S, n, hk⟩
    · obtain ⟨its, _, pl, _⟩ := I.list hq
      refine ⟨pl.isList.typeIs, fun a e => ?_⟩
      cases e
      obtain ⟨o, n, e, c, hd, _⟩ := pl
      exact ⟨o, e, hd⟩
    · refine ⟨⟨o, I.kIn p o hk, hc⟩, fun a e => ?_⟩
      cases e
      exact ⟨o, I.kIn _ o hk, hd⟩
    · have z : ∃ o, s.heap.get? p = some o ∧ o.ExactDict := by
        rcases hk with ⟨kvs, hk⟩ | ⟨kvs, hk⟩
        · obtain ⟨_, _, _, _, o, _, _, e, ex, _⟩ := I.hok p _ hk
          exact ⟨o, e, ex⟩
        · obtain ⟨_, _, _, _, o, _, _, e, ex, _⟩ := I.hok p _ hk
          exact ⟨o, e, ex⟩
      obtain ⟨o, e, ex⟩ := z
      refine ⟨⟨o, e, ex.1⟩, fun a e2 => ?_⟩
      cases e2
      exact ⟨o, e, ex.2.1⟩
    · obtain ⟨o, _, _, _, e, ex, _⟩ := I.hok p _ hk
      refine ⟨⟨o, e, ex.1⟩, fun a e2 => ?_⟩
      cases e2
      exact ⟨o, e, ex.2.1⟩
  | _ => exact False.elim ty
def tBM0 (K : PySem.W.Frag) (T : String) (r : V → List V → Hp → VK → Prop) (to : TE) : TE := fun σ H Q => to σ H fun x H1 => tyV K T x H1 ∧ r x [] H1 Q
def tBM (K : PySem.W.Frag) (T : String) (r : V → List V → Hp → VK → Prop) (to : TE) (t : TA) : TE := fun σ H Q => to σ H fun x H1 => tyV K T x H1 ∧ t σ H1 fun xs H2 => r x xs H2 Q
variable {o e : Expr} {es : List Expr} {to : TE} {t : TA} {name : Str} {apos cpos : Pos} {T id : String} {r : V → List V → Hp → VK → Prop}
theorem pe_bm0 (pa : PlainAttrs T) (slot : Slot T name id) (hty : typeOf (.builtin id) = pure (.type "method_descriptor")) (hm : MtR X id r) (ho : PE X o to)
    (hbase : attributeBase o name X.env (eval o X.env) = eval o X.env := by rfl) (hline : (apos.endLine == cpos.line) = true := by rfl) : PE X (.Call (.Attribute o name apos) [] [] cpos) (tBM0 X.K T r to) := by
  intro pins s σ H Q I h
  refine wpAny_Call_method0_late hbase hline (thn (ho pins s σ H _ I h) fun v s1 ⟨x, H1, I1, r1, ty, q1⟩ => ?_)
  obtain ⟨h1, h2⟩ := tyV_is I1 r1 ty
  exact ⟨T, id, pa, slot, hty, h1, h2, Calls.callWith_builtin rfl (PySem.evalArgs_none (hm pins s1 σ H1 x [] v [] Q I1 r1 .nil q1))⟩
theorem pe_bm (pa : PlainAttrs T) (slot : Slot T name id) (hty : typeOf (.builtin id) = pure (.type "method_descriptor")) (hm : MtR X id r) (ho : PE X o to) (ha : PA X (e :: es) t)
    (hbase : attributeBase o name X.env (eval o X.env) = eval o X.env := by rfl)
    (hfew : ((backTo cpos (starEach (e :: es) X.env)).all (fun x => !x.1) && (backToKw cpos (keywordEach [] X.env)).all (fun x => x.1.isSome)
      && decide ((e :: es).length + ([] : List Keyword).length + (if ([] : List Keyword).isEmpty then 0 else 1) < 30)) = true := by rfl)
    (hline : (apos.endLine == cpos.line) = true := by rfl) (hs : starEach (e :: es) X.env = (false, eval e X.env) :: starEach es X.env := by rfl) (hplain : (backTo cpos (starEach es X.env)).any (·.1) = false := by rfl) :
    PE X (.Call (.Attribute o name apos) (e :: es) [] cpos) (tBM X.K T r to t) := by
  intro pins s σ H Q I h
  refine wpAny_Call_method_late hbase hfew hline rfl (thn (ho pins s σ H _ I h) fun v s1 ⟨x, H1, I1, r1, ty, q1⟩ => ?_)
  obtain ⟨h1, h2⟩ := tyV_is I1 r1 ty
  refine ⟨T, id, pa, slot, hty, h1, h2, ?_⟩
  have hA := ha cpos pins s1 σ H1 _ I1 q1
  rw [hs] at hA ⊢
  refine Calls.callWith_builtin (by show (false || (backTo cpos (starEach es X.env)).any (·.1)) = false; rw [hplain] <;> rfl) (Calls.evalArgs_plain ?_)
  exact thn hA fun us s2 ⟨vs, H2, I2, r2, q2⟩ => hm pins s2 σ H2 x vs v us Q I2 r1 r2 q2
/- xs.append(e), list.index on a module's tuple .. are MtR facts of 06m -/
end
end L2

namespace L2
open PySem PySem.Spec PyProof.Rows

def MtM (X : Cx) (id : String) (r : V → List V → Hp → VK → Prop) : Prop :=
  ∀ (pins : List (Addr × Obj)) (s : Shared) (σ : St) (H : Hp) (x : V) (xs : List V) (v : Value) (us : List Value) (Q : VK), Inv X pins σ H s → RelV x v → Vals xs us → r x xs H Q →
    wpAny (model X.prog X.w) X.A (call (.builtin id) (v :: us)) (EP X pins σ Q) X.xe s

/-! ### lists of values -/
theorem Vals.one : ∀ {x : V} {us : List Value}, Vals [x] us → ∃ u, us = [u] ∧ RelV x u
  | _, _, .cons r .nil => ⟨_, rfl, r⟩
theorem Vals.two : ∀ {x y : V} {us : List Value}, Vals [x, y] us → ∃ u v, us = [u, v] ∧ RelV x u ∧ RelV y v
  | _, _, _, .cons r (.cons q .nil) => ⟨_, _, rfl, r, q⟩
theorem Vals.zero : ∀ {us : List Value}, Vals [] us → us = []
  | _, .nil => rfl
theorem Vals.dropLast {xs : List V} {us : List Value} (h : Vals xs us) : Vals xs.dropLast us.dropLast := by
  induction h with
  | nil => exact .nil
  | cons r t ih =>
    cases t with
    | nil => exact .nil
    | cons q t' => exact .cons r ih
theorem Vals.eraseIdx : ∀ {xs : List V} {us : List Value} (i : Nat), Vals xs us → Vals (xs.eraseIdx i) (us.eraseIdx i)
  | _, _, _, .nil => .nil
  | _, _, 0, .cons _ t => t
  | _, _, i + 1, .cons r t => .cons r (Vals.eraseIdx i t)
theorem Vals.reverse {xs : List V} {us : List Value} (h : Vals xs us) : Vals xs.reverse us.reverse := by
  induction h with
  | nil => exact .nil
  | cons r t ih => rw [List.reverse_cons, List.reverse_cons]; exact Vals.append ih (.cons r .nil)
theorem Vals.rep {xs : List V} {us : List Value} (h : Vals xs us) : ∀ k : Nat, Vals (List.replicate k xs).flatten (List.replicate k us).flatten
  | 0 => .nil
  | k + 1 => by
    rw [List.replicate_succ, List.replicate_succ, List.flatten_cons, List.flatten_cons]
    exact Vals.append h (Vals.rep h k)
theorem erase_last {α : Type} (l : List α) : l.eraseIdx (l.length - 1) = l.dropLast := by
  induction l with
  | nil => rfl
  | cons a r ih =>
    cases r with
    | nil => rfl
    | cons b r =>
      have e : (a :: b :: r).length - 1 = ((b :: r).length - 1) + 1 := by
        have h1 : (a :: b :: r).length = r.length + 2 := rfl
        have h2 : (b :: r).length = r.length + 1 := rfl
        omega
      rw [e, List.eraseIdx_cons_succ, ih]
      all_goals rfl
theorem len_erase {α : Type} : ∀ (l : List α) (i : Nat), (l.eraseIdx i).length ≤ l.length
  | [], _ => Nat.le_refl _
  | _ :: _, 0 => Nat.le_succ _
  | _ :: r, i + 1 => Nat.succ_le_succ (len_erase r i)
theorem foldl_rep (its : List Value) : ∀ (k : Nat) (acc : List Value),
    List.foldl (fun x1 x2 => x1 ++ x2) acc.toArray (List.replicate k its.toArray) = (acc ++ (List.replicate k its).flatten).toArray
  | 0, acc => by simp
  | k + 1, acc => by
    have e : acc.toArray ++ its.toArray = (acc ++ its).toArray := by simp
    have e2 : (acc ++ its) ++ (List.replicate k its).flatten = acc ++ (List.replicate (k + 1) its).flatten := by
      rw [List.replicate_succ, List.flatten_cons, List.append_assoc]
    rw [← e2, ← foldl_rep its k (acc ++ its), ← e, List.replicate_succ, List.foldl_cons]

section
variable {X : Cx} {pins : List (Addr × Obj)} {σ : St} {H : Hp} {s : Shared} {l b : Addr} {xs ys zs : List V}

/-! ### the two steps: a tracked list is rewritten, a new list is laid -/
theorem Inv.lset {its its' : List Value} {n : Nat} {f : Array Value → Array Value} {t' : Nat} (I : Inv X pins σ H s) (hH : H l = some (.lst xs))
    (e : s.heap.get? l = some { cls := .type "list", data := .seq its.toArray n }) (hf : f its.toArray = its'.toArray) (hv : Vals ys its') (hz : ys.length ≤ sizeLine) :
    Inv X pins σ (upd H l (.lst ys)) { s with heap := s.heap.update l (Obj.mapSeq f), toks := t' } := by
  have q := PySem.IsL.update e f
  rw [hf] at q
  refine I.write (x := l) (e := l) (by rw [hH]; exact trivial) (.inl rfl) (fun b' u hb hu => (Heap.get?_update_other s.heap (Obj.mapSeq f) (Ne.symm hb)).trans hu) ⟨_, q⟩ ?_
  exact ⟨hz, its', _, hv, q⟩
theorem Inv.lnew {its : List Value} {t' : Nat} (I : Inv X pins σ H s) (hv : Vals ys its) (hz : ys.length ≤ sizeLine) :
    Inv X pins σ (upd H s.heap.objs.size (.lst ys)) { s with heap := s.heap.push { cls := .type "list", data := .seq its.toArray }, toks := t' } :=
  I.laid (fun _ _ q => Heap.get?_push_of_some _ q) (Nat.le_refl _) ⟨hz, its, 0, hv, Heap.get?_push_size _ rfl⟩
theorem Inv.fresh (I : Inv X pins σ H s) : H s.heap.objs.size = none := I.hok.fresh (Nat.le_refl _)
theorem Inv.lstM (I : Inv X pins σ H s) (hH : H l = some (.lst xs)) : xs.length ≤ sizeLine ∧ ∃ (its : List Value) (n : Nat), Vals xs its ∧ xs.length = its.length ∧ s.heap.get? l = some { cls := .type "list", data := .seq its.toArray n } := by
  obtain ⟨z, its, n, r, e⟩ := I.hok l _ hH
  exact ⟨z, its, n, r, r.length, e⟩

theorem notLongL {n : Nat} (h : n ≤ sizeLine) : Builtin.List.listTooLong n = false := by
  unfold Builtin.List.listTooLong
  exact decide_eq_false (by omega)
end

section
variable {X : Cx}

/-! ### methods -/
def rAppend : V → List V → Hp → VK → Prop := fun x vs H Q => ∃ l xs y, x = .ref l ∧ vs = [y] ∧ H l = some (.lst xs) ∧ xs.length < sizeLine ∧ Q .non (upd H l (.lst (xs ++ [y])))
theorem mt_append : MtM X "list.append" rAppend := by
  intro pins s σ H x vs v us Q I rx rv h
  obtain ⟨l, xs, y, rfl, rfl, hH, hz, q⟩ := h
  cases rx
  obtain ⟨u, rfl, ru⟩ := rv.one
  obtain ⟨z, its, n, r, hl, e⟩ := I.lstM hH
  refine call_meets F.slot_list_append ⟨_, e, rfl⟩ F.entry_list_append (F.args_list_append_2 _ _) (PySem.list_append l its.toArray n u (by rw [List.size_toArray]; omega)) ⟨e, ?_⟩
  refine ⟨.non, _, I.lset (its' := its ++ [u]) hH e (by simp) (r.append (.cons ru .nil)) ?_, rfl, q⟩
  rw [List.length_append, List.length_singleton]
  omega

def rExtend : V → List V → Hp → VK → Prop := fun x vs H Q => ∃ l b xs zs, x = .ref l ∧ vs = [.ref b] ∧ H l = some (.lst xs) ∧ H b = some (.lst zs) ∧ xs.length + zs.length ≤ sizeLine ∧ Q .non (upd H l (.lst (xs ++ zs)))
theorem mt_extend : MtM X "list.extend" rExtend := by
  intro pins s σ H x vs v us Q I rx rv h
  obtain ⟨l, b, xs, zs, rfl, rfl, hH, hB, hz, q⟩ := h
  cases rx
  obtain ⟨u, rfl, ru⟩ := rv.one
  cases ru
  obtain ⟨z, its, n, r, hl, e⟩ := I.lstM hH
  obtain ⟨z2, its2, n2, r2, hl2, e2⟩ := I.lstM hB
  have hsz : its.toArray.size + its2.toArray.size ≤ sizeLine := by rw [List.size_toArray, List.size_toArray]; omega
  have hlong : ¬ (!its.toArray.isEmpty && Builtin.List.listTooLong (its.toArray.size + its2.toArray.size)) = true := by
    rw [notLongL hsz, Bool.and_false]
    exact Bool.false_ne_true
  refine call_meets F.slot_list_extend ⟨_, e, rfl⟩ F.entry_list_extend (F.args_list_extend_2 _ _)
    (AutoSeq1.list_extend_list_list_0 l its.toArray n b its2.toArray n2 hlong (by rw [List.size_toArray]; omega) (by omega)) ⟨e, e2, ?_⟩
  refine ⟨.non, _, I.lset (its' := its ++ its2) hH e (by simp) (r.append r2) ?_, rfl, q⟩
  rw [List.length_append]
  omega

def rPop : V → List V → Hp → VK → Prop := fun x vs H Q => ∃ l xs y, x = .ref l ∧ vs = [] ∧ H l = some (.lst xs) ∧ xs[xs.length - 1]? = some y ∧ Q y (upd H l (.lst xs.dropLast))
theorem mt_pop : MtM X "list.pop" rPop := by
  intro pins s σ H x vs v us Q I rx rv h
  obtain ⟨l, xs, y, rfl, rfl, hH, hy, q⟩ := h
  cases rx
  have hus := rv.zero
  subst hus
  obtain ⟨z, its, n, r, hl, e⟩ := I.lstM hH
  obtain ⟨u, hu, ru⟩ := r.get hy
  have hy' : its.toArray[its.toArray.size - 1]? = some u := by
    show its.toArray[its.length - 1]? = some u
    rw [← Array.getElem?_toList, ← hl]
    exact hu
  refine call_meets F.slot_list_pop ⟨_, e, rfl⟩ F.entry_list_pop (F.args_list_pop_1 _) (MeetsSeq.list_pop_last l its.toArray n u hy' (by rw [List.size_toArray]; omega)) ⟨e, ?_⟩
  refine ⟨y, _, I.lset (its' := its.dropLast) hH e ?_ r.dropLast ?_, ru, q⟩
  · show its.toArray.eraseIdxIfInBounds (its.toArray.size - 1) = its.dropLast.toArray
    rw [List.size_toArray, List.eraseIdxIfInBounds_toArray, erase_last]
  · rw [List.length_dropLast]
    omega

def rPopAt : V → List V → Hp → VK → Prop := fun x vs H Q => ∃ l xs i k y, x = .ref l ∧ vs = [.int i] ∧ H l = some (.lst xs) ∧ -(2 ^ 63) ≤ i ∧ i < 2 ^ 63 ∧ seqIndex? i xs.length = some k ∧ xs[k]? = some y ∧ Q y (upd H l (.lst (xs.eraseIdx k)))
theorem mt_popAt : MtM X "list.pop" rPopAt := by
  intro pins s σ H x vs v us Q I rx rv h
  obtain ⟨l, xs, i, k, y, rfl, rfl, hH, h1, h2, hk, hy, q⟩ := h
  cases rx
  obtain ⟨u, rfl, ru⟩ := rv.one
  obtain ⟨t, rfl⟩ := ru
  obtain ⟨z, its, n, r, hl, e⟩ := I.lstM hH
  obtain ⟨w, hw, rw'⟩ := r.get hy
  refine call_meets F.slot_list_pop ⟨_, e, rfl⟩ F.entry_list_pop (F.args_list_pop_2 _ _)
    (MeetsSeq.list_pop_at l its.toArray n i t k w (fitsIndex_both h1 h2) (by rw [List.size_toArray, ← hl]; exact hk) (by rw [← Array.getElem?_toList]; exact hw) (by rw [List.size_toArray]; omega)) ⟨e, ?_⟩
  refine ⟨y, _, I.lset (its' := its.eraseIdx k) hH e ?_ (r.eraseIdx k) ?_, rw', q⟩
  · show its.toArray.eraseIdxIfInBounds k = (its.eraseIdx k).toArray
    rw [List.eraseIdxIfInBounds_toArray]
  · have := len_erase xs k
    omega

def rReverse : V → List V → Hp → VK → Prop := fun x vs H Q => ∃ l xs, x = .ref l ∧ vs = [] ∧ H l = some (.lst xs) ∧ Q .non (upd H l (.lst xs.reverse))
theorem mt_reverse : MtM X "list.reverse" rReverse := by
  intro pins s σ H x vs v us Q I rx rv h
  obtain ⟨l, xs, rfl, rfl, hH, q⟩ := h
  cases rx
  have hus := rv.zero
  subst hus
  obtain ⟨z, its, n, r, hl, e⟩ := I.lstM hH
  refine call_meets F.slot_list_reverse ⟨_, e, rfl⟩ F.entry_list_reverse (F.args_list_reverse_1 _) (AutoSeq1.list_reverse_list_0 l its.toArray n (by rw [List.size_toArray]; omega)) ⟨e, ?_⟩
  refine ⟨.non, _, I.lset (its' := its.reverse) hH e (by simp) r.reverse ?_, rfl, q⟩
  rw [List.length_reverse]
  omega

def rClear : V → List V → Hp → VK → Prop := fun x vs H Q => ∃ l xs, x = .ref l ∧ vs = [] ∧ H l = some (.lst xs) ∧ Q .non (upd H l (.lst []))
theorem mt_clear : MtM X "list.clear" rClear := by
  intro pins s σ H x vs v us Q I rx rv h
  obtain ⟨l, xs, rfl, rfl, hH, q⟩ := h
  cases rx
  have hus := rv.zero
  subst hus
  obtain ⟨z, its, n, r, hl, e⟩ := I.lstM hH
  refine call_meets F.slot_list_clear ⟨_, e, rfl⟩ F.entry_list_clear (F.args_list_clear_1 _) (AutoSeq1.list_clear_list_0 l its.toArray n (by rw [List.size_toArray]; omega)) ⟨e, ?_⟩
  exact ⟨.non, _, I.lset (its' := []) (ys := []) hH e rfl .nil (Nat.zero_le _), rfl, q⟩

/-! ### list + list, list += list, list * int -/
def rCat : R2 := fun x y H Q => ∃ l b xs zs, x = .ref l ∧ y = .ref b ∧ H l = some (.lst xs) ∧ H b = some (.lst zs) ∧ xs.length + zs.length ≤ sizeLine ∧ ∀ p, H p = none → Q (.ref p) (upd H p (.lst (xs ++ zs)))
theorem op_cat : OpR X (binaryOp .Add) rCat := by
  intro pins s σ H x y v u Q I rx ry h
  obtain ⟨l, b, xs, zs, rfl, rfl, hH, hB, hz, q⟩ := h
  cases rx
  cases ry
  obtain ⟨z, its, n, r, hl, e⟩ := I.lstM hH
  obtain ⟨z2, its2, n2, r2, hl2, e2⟩ := I.lstM hB
  refine PySem.P.add_list e e2 ?_ (by rw [List.size_toArray, List.size_toArray]; omega)
  have ea : its.toArray ++ its2.toArray = (its ++ its2).toArray := by simp
  rw [ea]
  exact ⟨.ref _, _, I.lnew (t' := s.toks) (r.append r2) (by rw [List.length_append]; omega), rfl, q _ I.fresh⟩
/-- a list times an int (a negative one is nothing) -/
def rRep : R2 := fun x y H Q => ∃ l k xs, x = .ref l ∧ y = .int k ∧ H l = some (.lst xs) ∧ -(2 ^ 63) ≤ k ∧ k < 2 ^ 63 ∧ xs.length * k.toNat ≤ sizeLine ∧
  ∀ p, H p = none → Q (.ref p) (upd H p (.lst (List.replicate k.toNat xs).flatten))
theorem len_rep {α : Type} (xs : List α) (k : Nat) : (List.replicate k xs).flatten.length = k * xs.length := by
  induction k with
  | zero => simp
  | succ k ih => rw [List.replicate_succ, List.flatten_cons, List.length_append, ih, Nat.succ_mul, Nat.add_comm]
theorem op_rep : OpR X (binaryOp .Mult) rRep := by
  intro pins s σ H x y v u Q I rx ry h
  obtain ⟨l, k, xs, rfl, rfl, hH, h1, h2, hz, q⟩ := h
  cases rx
  obtain ⟨t, rfl⟩ := ry
  obtain ⟨z, its, n, r, hl, e⟩ := I.lstM hH
  have hlen : its.toArray.size * k.toNat ≤ sizeLine := by rw [List.size_toArray, ← hl]; exact hz
  have hcap : ¬ its.toArray.size * k.toNat > (2 ^ 63 - 1) / 8 := by
    have : (sizeLine : Nat) ≤ (2 ^ 63 - 1) / 8 := by decide
    omega
  have hfit : ¬ (!Builtin.List.listFitsIndex k) = true := by
    rw [fitsIndex_both h1 h2]
    exact Bool.false_ne_true
  have hlong : ¬ Builtin.List.listTooLong (its.toArray.size * k.toNat) = true := by
    rw [notLongL hlen]
    exact Bool.false_ne_true
  have hnew : List.foldl (fun x1 x2 => x1 ++ x2) #[] (List.replicate (if its.toArray.isEmpty = true then 0 else k.toNat) its.toArray) = (List.replicate k.toNat its).flatten.toArray := by
    have f0 : ∀ m : Nat, List.foldl (fun x1 x2 => x1 ++ x2) #[] (List.replicate m its.toArray) = (List.replicate m its).flatten.toArray := fun m => by
      have := foldl_rep its m []
      rw [List.nil_append] at this
      exact this
    rw [f0]
    cases its with
    | nil => simp
    | cons a r' => rw [if_neg (by simp)]
  refine wpAny_binaryOp_repeat_ref (T := "list") (U := "int") (by decide) ⟨_, e, rfl⟩ (fun s' => typeIs_int s' k t) noFill_list_mul F.fills_int_mul F.slot_int_rmul repeat_list F.slot_int_index.lookup
    (call_meets F.slot_int_rmul (typeIs_int s k t) F.entry_int_rmul (F.args_int_rmul_2 _ _) (int___rmul___int_list k t l its.toArray n)
      ⟨e, rfl, ⟨_, e, rfl⟩, call_meets F.slot_list_mul ⟨_, e, rfl⟩ F.entry_list_mul (F.args_list_mul_2 _ _) (AutoListH.list___mul___list_int_3 l its.toArray n k t hfit hcap hlong) ⟨e, ?_⟩⟩)
  rw [hnew]
  exact ⟨.ref _, _, I.lnew (t' := s.toks) (r.rep k.toNat) (by rw [len_rep, Nat.mul_comm]; exact hz), rfl, q _ I.fresh⟩

/-! ### del xs[i] -/
theorem del_list {pins : List (Addr × Obj)} {s : Shared} {σ : St} {H : Hp} {l : Addr} {xs : List V} {i : Int} {t : Tok} {k : Nat} {Q : Unit → Shared → Prop} (I : Inv X pins σ H s) (hH : H l = some (.lst xs))
    (h1 : -(2 ^ 63) ≤ i) (h2 : i < 2 ^ 63) (hk : seqIndex? i xs.length = some k) (h : ∀ s', Inv X pins σ (upd H l (.lst (xs.eraseIdx k))) s' → Q () s') :
    wpAny (model X.prog X.w) X.A (delItem (.ref l) (.int i t)) Q X.xe s := by
  obtain ⟨z, its, n, r, hl, e⟩ := I.lstM hH
  refine PySem.P.delItem_list (k := k) e (fitsIndex_both h1 h2) (by rw [List.size_toArray, ← hl]; exact hk) (h _ ?_) (by rw [List.size_toArray]; omega)
  refine I.lset (its' := its.eraseIdx k) (t' := s.toks) hH e ?_ (r.eraseIdx k) ?_
  · show its.toArray.eraseIdxIfInBounds k = (its.eraseIdx k).toArray
    rw [List.eraseIdxIfInBounds_toArray]
  · have := len_erase xs k
    omega
end

/-! ### xs[a:b] = ys -/
section
variable {prog : Program} {w : World} {A : Around} {E : Value → Shared → Prop} {s : Shared}
theorem splice_eq (its its2 : List Value) (a c : Nat) : its.toArray.extract 0 a ++ its2.toArray ++ its.toArray.extract c its.toArray.size = (its.take a ++ its2 ++ its.drop c).toArray := by
  apply Array.toList_inj.mp
  first
    | (simp
       exact List.take_of_length_le (by simp))
    | simp [List.take_of_length_le]
    | simp
theorem bounds_run {a c n : Nat} (hac : a ≤ c) (hc : c ≤ n) : sliceBounds (some (a : Int)) (some (c : Int)) none n = ((a : Int), (c : Int), 1) := by
  simp only [sliceBounds, Option.getD_none]
  have h1 : ¬ ((a : Int) < 0) := by omega
  have h2 : ¬ ((c : Int) < 0) := by omega
  simp only [h1, h2, if_false, show (1 : Int) > 0 by decide, if_true]
  congr 1
  · omega
  · congr 1; omega
set_option maxRecDepth 100000 in
/-- list.__setitem__ with a slice of step one and another list -/
theorem setItem_slice {l b sl : Addr} {items new : Array Value} {n n2 : Nat} {vl vu : Value} {a c : Nat} {Q : Unit → Shared → Prop}
    (e : s.heap.get? l = some { cls := .type "list", data := .seq items n }) (e2 : s.heap.get? b = some { cls := .type "list", data := .seq new n2 }) (hne : l ≠ b)
    (hs : s.heap.IsSliceOf sl vl vu .none) (pl : IsPart vl (some (a : Int))) (pu : IsPart vu (some (c : Int))) (hac : a ≤ c) (hc : c ≤ items.size)
    (hsz : items.size + new.size ≤ sizeLine) (h : Q () { s with heap := s.heap.update l (Obj.mapSeq fun xs => xs.extract 0 a ++ new ++ xs.extract c xs.size) }) :
    wpAny (model prog w) A (setItem (.ref l) (.ref sl) (.ref b)) Q E s := by
  have hl : s.heap.IsList l items := PySem.IsL.isList e
  have hb : s.heap.IsList b new := PySem.IsL.isList e2
  obtain ⟨os, hos, hcs, hds⟩ := id hs
  have hTs : s.TypeIs (.ref sl) "slice" := ⟨os, hos, hcs⟩
  have hstep : ¬ ((rawPart none == rawInt 0) = true) := Bool.false_ne_true
  have hsame : Builtin.List.listSameRef (.ref l) (.ref b) = false := by
    unfold Builtin.List.listSameRef
    exact beq_eq_false_iff_ne.mpr hne
  have hmax : (max (a : Int) (c : Int)).toNat = c := by omega
  have hz' : ((fun xs : Array Value => xs.extract 0 a ++ new ++ xs.extract c xs.size) items).size ≤ sizeLine + 1 := by
    simp only [Array.size_append, Array.size_extract]
    omega
  unfold setItem
  try with_reducible refine wpAny_holding ?_
  first | refine wpAny_bind (wpAny_pure ?_) | skip
  refine wpAny_bind (wpAny_sequenceKey hl.typeIs (by decide) ?_)
  refine wpAny_bind (wpAny_callSpecial?_slot (name := Str.ofString "__setitem__") hl.typeIs slot_list_setitem
    (wpAny_call_entry slot_list_setitem hl.typeIs entry_list_setitem ?_ (args_list_setitem _ _ _)))
  show wpAny _ _ (Builtin.List.listSubscript? (.ref sl) >>= _) _ _ s
  refine wpAny_bind ?_
  unfold Builtin.List.listSubscript?
  refine wpAny_bind (wpAny_specialOf hTs slice_no_index ?_)
  simp only [Option.isNone_none, if_true]
  refine wpAny_pure ?_
  show wpAny _ _ (typeOf (.ref sl) >>= _) _ _ s
  refine wpAny_bind (wpAny_typeOf hTs ?_)
  first
    | rw [if_neg (by decide)]
    | refine PySem.W.KFB.if_not (by decide) ?_
  rw [listSliceParts_eq]
  refine wpAny_bind (wpAny_bind (wpAny_field hos hds (x := .none) rfl (wpAny_bind (wpAny_listPart .none ?_))))
  rw [if_neg hstep]
  refine wpAny_bind (wpAny_field hos hds (x := vl) rfl (wpAny_bind (wpAny_listPart pl ?_)))
  refine wpAny_bind (wpAny_field hos hds (x := vu) rfl (wpAny_bind (wpAny_listPart pu (wpAny_pure ?_))))
  first
    | simp only [hsame, Bool.false_eq_true, if_false]
    | refine PySem.W.KFB.if_not hsame ?_
    | (dsimp only
       rw [if_neg (by rw [hsame]; exact Bool.false_ne_true)])
  refine wpAny_bind (m := Builtin.List.listAllItems (.ref b) "must assign iterable to extended slice") ?_
  unfold Builtin.List.listAllItems
  refine wpAny_bind (wpAny_typeOf hb.typeIs ?_)
  first
    | refine PySem.W.KFB.if_so (by decide) ?_
    | rw [if_pos (by decide)]
    | simp only [beq_self_eq_true, Bool.true_or, if_true]
  unfold Builtin.List.listItems
  refine wpAny_bind (wpAny_seqItems e2 rfl (wpAny_pure ?_))
  refine wpAny_bind (wpAny_bind (wpAny_seqItems e rfl (wpAny_pure ?_)))
  refine wpAny_bind (wpAny_of_eq ((sliceIndices_raw (some (a : Int)) (some (c : Int)) none items.size (by simp)).trans (congrArg (pure : Int × Int × Int → Sem (Int × Int × Int)) (bounds_run hac hc))) ?_)
  show wpAny _ _ (if ((1 : Int) == 1) = true then _ else _) _ _ s
  rw [if_pos (by decide)]
  refine wpAny_bind (wpAny_rule ?_)
  first
    | simp only [notLongL hsz, Bool.false_eq_true, if_false]
    | refine PySem.W.KFB.if_not (notLongL hsz) ?_
  first | refine wpAny_bind (wpAny_pure ?_) | skip
  show wpAny _ _ (updateSeq l (fun xs => xs.extract 0 ((a : Int)).toNat ++ new ++ xs.extract (max (a : Int) (c : Int)).toNat xs.size) >>= _) _ _ s
  rw [hmax, Int.toNat_natCast]
  refine wpAny_bind (wpAny_updateSeq (hz := Nat.le_trans (Nat.le_add_right _ _) hsz) (_hz' := hz') e rfl ?_)
  refine wpAny_bind (wpAny_letGo ?_)
  first
    | exact wpAny_bind (wpAny_pure (wpAny_pure ⟨.none, rfl, wpAny_pure h⟩))
    | exact wpAny_pure ⟨.none, rfl, wpAny_pure h⟩
end

section
variable {X : Cx}
/-- xs[a:c] = ys of another list, at the value level: sl is the slice object that was just made -/
theorem set_slice {pins : List (Addr × Obj)} {s : Shared} {σ : St} {H : Hp} {l b sl : Addr} {xs ys : List V} {a c : Int} {vl vu : Value} {Q : Unit → Shared → Prop} (I : Inv X pins σ H s)
    (hH : H l = some (.lst xs)) (hB : H b = some (.lst ys)) (hne : l ≠ b) (hs : s.heap.IsSliceOf sl vl vu .none) (ra : RelV (.int a) vl) (rc : RelV (.int c) vu) (h0 : 0 ≤ a) (hac : a ≤ c) (hc : c ≤ xs.length)
    (hz : xs.length + ys.length ≤ sizeLine) (h : ∀ s', Inv X pins σ (upd H l (.lst (xs.take a.toNat ++ ys ++ xs.drop c.toNat))) s' → Q () s') :
    wpAny (model X.prog X.w) X.A (setItem (.ref l) (.ref sl) (.ref b)) Q X.xe s := by
  obtain ⟨ta, rfl⟩ := ra
  obtain ⟨tc, rfl⟩ := rc
  obtain ⟨z, its, n, r, hl, e⟩ := I.lstM hH
  obtain ⟨z2, its2, n2, r2, hl2, e2⟩ := I.lstM hB
  obtain ⟨a', rfl⟩ := Int.eq_ofNat_of_zero_le h0
  obtain ⟨c', rfl⟩ := Int.eq_ofNat_of_zero_le (Int.le_trans h0 hac)
  simp only [Int.toNat_natCast] at h
  refine setItem_slice (a := a') (c := c') e e2 hne hs (.int _ _) (.int _ _) (by omega) (by rw [List.size_toArray]; omega) (by rw [List.size_toArray, List.size_toArray]; omega) (h _ ?_)
  refine I.lset (its' := its.take a' ++ its2 ++ its.drop c') (t' := s.toks) hH e ?_ (Vals.append (Vals.append (r.take _) r2) (r.drop _)) ?_
  · exact splice_eq its its2 a' c'
  · rw [List.length_append, List.length_append, List.length_take, List.length_drop]
    omega
end
end L2

namespace L2
open PySem PySem.Spec PyProof.Rows

/-! ### lists of pairs as tables -/
section
variable {κ : Type} [DecidableEq κ]
def valV (kvs : List (κ × V)) (k : κ) : Option V := (kvs.find? fun kv => decide (kv.1 = k)).map (·.2)
/-- in its place, or at the end -/
def putK (kvs : List (κ × V)) (k : κ) (v : V) : List (κ × V) :=
  if (kvs.any fun kv => decide (kv.1 = k)) = true then kvs.map (fun kv => if kv.1 = k then (kv.1, v) else kv) else kvs ++ [(k, v)]
def dropK (kvs : List (κ × V)) (k : κ) : List (κ × V) := kvs.filter fun kv => decide (kv.1 ≠ k)

theorem valV_nil {k : κ} : valV ([] : List (κ × V)) k = none := rfl
theorem valV_pos {p : κ × V} {r : List (κ × V)} {k : κ} (e : p.1 = k) : valV (p :: r) k = some p.2 := by simp [valV, List.find?_cons, e]
theorem valV_neg {p : κ × V} {r : List (κ × V)} {k : κ} (e : ¬ p.1 = k) : valV (p :: r) k = valV r k := by simp [valV, List.find?_cons, e]
theorem valV_any (k : κ) : ∀ kvs : List (κ × V), (kvs.any fun kv => decide (kv.1 = k)) = (valV kvs k).isSome
  | [] => rfl
  | p :: r => by
    rw [List.any_cons]
    by_cases e : p.1 = k
    · simp only [valV_pos e, decide_eq_true e, Bool.true_or, Option.isSome_some]
    · rw [valV_neg e, decide_eq_false e, Bool.false_or]; exact valV_any k r
theorem valV_map (k j : κ) (y : V) : ∀ kvs : List (κ × V), valV (kvs.map fun kv => if kv.1 = k then (kv.1, y) else kv) j = (valV kvs j).map fun x => if j = k then y else x
  | [] => rfl
  | p :: r => by
    have ih := valV_map k j y r
    rw [List.map_cons]
    by_cases h : p.1 = k
    · rw [if_pos h]
      by_cases e : p.1 = j
      · rw [valV_pos (p := (p.1, y)) e, valV_pos e, Option.map_some, if_pos (e.symm.trans h)]
      · rw [valV_neg (p := (p.1, y)) e, valV_neg e, ih]
    · rw [if_neg h]
      by_cases e : p.1 = j
      · rw [valV_pos (p := p) e, valV_pos e, Option.map_some, if_neg (fun z => h (e.trans z))]
      · rw [valV_neg (p := p) e, valV_neg e, ih]
theorem valV_snoc (k j : κ) (y : V) : ∀ kvs : List (κ × V), valV kvs k = none → valV (kvs ++ [(k, y)]) j = if j = k then some y else valV kvs j
  | [], _ => by
    by_cases e : k = j
    · rw [if_pos e.symm]; exact valV_pos (p := (k, y)) e
    · rw [if_neg (fun z => e z.symm)]; exact valV_neg (p := (k, y)) e
  | p :: r, hn => by
    rw [List.cons_append]
    have hk : ¬ p.1 = k := fun z => by rw [valV_pos z] at hn; cases hn
    rw [valV_neg hk] at hn
    have ih := valV_snoc k j y r hn
    by_cases e : p.1 = j
    · rw [valV_pos e, valV_pos e, if_neg (fun z => hk (e.trans z))]
    · rw [valV_neg e, valV_neg e, ih]
theorem valV_put (kvs : List (κ × V)) (k j : κ) (y : V) : valV (putK kvs k y) j = if j = k then some y else valV kvs j := by
  unfold putK
  by_cases a : (kvs.any fun kv => decide (kv.1 = k)) = true
  · rw [if_pos a, valV_map]
    rw [valV_any] at a
    by_cases e : j = k
    · obtain ⟨x, hx⟩ := Option.isSome_iff_exists.mp a
      rw [if_pos e, e, hx, Option.map_some, if_pos rfl]
    · rw [if_neg e]
      cases valV kvs j with
      | none => rfl
      | some x => rw [Option.map_some, if_neg e]
  · rw [if_neg a]
    refine valV_snoc k j y kvs ?_
    rw [valV_any] at a
    cases q : valV kvs k with
    | none => rfl
    | some x => rw [q] at a; exact (a rfl).elim
theorem length_putK (kvs : List (κ × V)) (k : κ) (v : V) : (putK kvs k v).length ≤ kvs.length + 1 := by
  unfold putK
  split
  · rw [List.length_map]; omega
  · rw [List.length_append, List.length_cons, List.length_nil]; omega
theorem putK_new {kvs : List (κ × V)} {k : κ} (v : V) (h : valV kvs k = none) : putK kvs k v = kvs ++ [(k, v)] := by
  unfold putK
  rw [valV_any, h]
  exact if_neg (by decide)

theorem RelO.isSome_eq {o : Option V} {u : Option Value} (r : RelO o u) : o.isSome = u.isSome := by
  cases o with
  | none => cases u with
    | none => rfl
    | some _ => exact (show False from r).elim
  | some _ => cases u with
    | none => exact (show False from r).elim
    | some _ => rfl
theorem RelO.getD {o : Option V} {u : Option Value} {d : V} {d' : Value} (r : RelO o u) (rd : RelV d d') : RelV (o.getD d) (u.getD d') := by
  cases o with
  | none => cases u with
    | none => exact rd
    | some _ => exact (show False from r).elim
  | some _ => cases u with
    | none => exact (show False from r).elim
    | some _ => exact r

/-- raw tables of the same keys -/
theorem KV.val {kvs : List (κ × V)} {vs : List (κ × Value)} (r : KV kvs vs) (k : κ) : RelO (valV kvs k) (valueAt vs k) := by
  unfold KV at r
  induction r with
  | nil => exact True.intro
  | @cons p q ps qs h t ih =>
    obtain ⟨h1, h2⟩ := h
    by_cases e : p.1 = k
    · have e' : q.1 = k := h1.symm.trans e
      have b : valueAt (q :: qs) k = some q.2 := by simp [valueAt, List.find?_cons, e']
      rw [valV_pos e, b]; exact h2
    · have e' : ¬ q.1 = k := fun z => e (h1.trans z)
      have b : valueAt (q :: qs) k = valueAt qs k := by simp [valueAt, List.find?_cons, e']
      rw [valV_neg e, b]; exact ih
theorem KV.any {kvs : List (κ × V)} {vs : List (κ × Value)} (r : KV kvs vs) (k : κ) : (kvs.any fun kv => decide (kv.1 = k)) = vs.any fun kv => decide (kv.1 = k) := by
  unfold KV at r
  induction r with
  | nil => rfl
  | cons h t ih => rw [List.any_cons, List.any_cons, ih, h.1]
theorem KV.repl {kvs : List (κ × V)} {vs : List (κ × Value)} (r : KV kvs vs) (k : κ) {y : V} {u : Value} (ry : RelV y u) :
    KV (kvs.map fun kv => if kv.1 = k then (kv.1, y) else kv) (vs.map fun kv => if kv.1 = k then (kv.1, u) else kv) := by
  unfold KV at r ⊢
  induction r with
  | nil => exact .nil
  | @cons p q ps qs h t ih =>
    rw [List.map_cons, List.map_cons]
    refine .cons ?_ ih
    obtain ⟨h1, h2⟩ := h
    by_cases e : p.1 = k
    · rw [if_pos e, if_pos (h1.symm.trans e)]; exact ⟨h1, ry⟩
    · rw [if_neg e, if_neg (fun z => e (h1.trans z))]; exact ⟨h1, h2⟩
theorem KV.put {kvs : List (κ × V)} {vs : List (κ × Value)} (r : KV kvs vs) (k : κ) {y : V} {u : Value} (ry : RelV y u) : KV (putK kvs k y) (stored vs k u) := by
  unfold putK stored
  rw [r.any k]
  by_cases e : (vs.any fun kv => decide (kv.1 = k)) = true
  · rw [if_pos e, if_pos e]; exact r.repl k ry
  · rw [if_neg e, if_neg e]; exact Paired.snoc r ⟨rfl, ry⟩
theorem KV.drop {kvs : List (κ × V)} {vs : List (κ × Value)} (r : KV kvs vs) (k : κ) : KV (dropK kvs k) (without vs k) := by
  unfold KV at r ⊢
  unfold dropK without
  induction r with
  | nil => exact .nil
  | @cons p q ps qs h t ih =>
    obtain ⟨h1, h2⟩ := h
    rw [List.filter_cons, List.filter_cons]
    by_cases e : p.1 = k
    · have a : ¬ decide (p.1 ≠ k) = true := by simp [e]
      have b : ¬ decide (q.1 ≠ k) = true := by simp [h1.symm.trans e]
      rw [if_neg a, if_neg b]; exact ih
    · have e' : ¬ q.1 = k := fun z => e (h1.trans z)
      have a : decide (p.1 ≠ k) = true := by simp [e]
      have b : decide (q.1 ≠ k) = true := by simp [e']
      rw [if_pos a, if_pos b]; exact .cons ⟨h1, h2⟩ ih
theorem KV.keys {kvs : List (κ × V)} {vs : List (κ × Value)} (r : KV kvs vs) : kvs.map (·.1) = vs.map (·.1) := by
  unfold KV at r
  induction r with
  | nil => rfl
  | cons h t ih => rw [List.map_cons, List.map_cons, ih, h.1]
theorem KV.length {kvs : List (κ × V)} {vs : List (κ × Value)} (r : KV kvs vs) : kvs.length = vs.length := Paired.length r
theorem dropK_le (kvs : List (κ × V)) (k : κ) : (dropK kvs k).length ≤ kvs.length := List.length_filter_le _ _
end


/-! ### a tracked dict, its keys ints and texts or tuples of these -/
theorem kV_is {P : Program} {w : World} {k : Key} {u : Value} (r : RelV (kV k) u) : (mixKind P w).is k u = true := by
  cases k with
  | inl i => obtain ⟨t, e⟩ := (show ∃ t, u = Value.int i t from r); subst e; exact mixKind_int P w i t
  | inr x => obtain ⟨t, e⟩ := (show ∃ t, u = Value.str x t from r); subst e; exact mixKind_str P w x t
theorem kV_inj {a b : Key} (e : kV a = kV b) : a = b := by
  cases a with
  | inl i => cases b with
    | inl j => have e' : V.int i = V.int j := e; injection e' with e'; rw [e']
    | inr y => exact nomatch (show V.int i = V.str y from e)
  | inr x => cases b with
    | inl j => exact nomatch (show V.str x = V.int j from e)
    | inr y => have e' : V.str x = V.str y := e; injection e' with e'; rw [e']
theorem kVs_inj : ∀ {a b : List Key}, a.map kV = b.map kV → a = b
  | [], [], _ => rfl
  | [], _ :: _, e => by simp at e
  | _ :: _, [], e => by simp at e
  | x :: xs, y :: ys, e => by
    rw [List.map_cons, List.map_cons] at e
    injection e with e1 e2
    rw [kV_inj e1, kVs_inj e2]
theorem items_are {P : Program} {w : World} : ∀ {ks : List Key} {us : List Value}, Vals (ks.map kV) us → ItemsAre (mixKind P w) ks us
  | [], _, r => by rw [List.map_nil] at r; cases r; exact .nil
  | k :: ks, _, r => by
    rw [List.map_cons] at r
    cases r with
    | cons h t => exact .cons (kV_is h) (items_are t)

/-- raw entries of a dict with tuple keys -/
abbrev KT (H : Hp) : List (List Key × V) → List (List Key × Addr × Value) → Prop := Paired fun p q => p.1 = q.1 ∧ H q.2.1 = some (.tup (p.1.map kV)) ∧ RelV p.2 q.2.2
theorem KT.val {H : Hp} {kvs : List (List Key × V)} {xs : List (List Key × Addr × Value)} (r : KT H kvs xs) (k : List Key) : RelO (valV kvs k) ((atKey xs k).map (·.2)) := by
  induction r with
  | nil => exact True.intro
  | @cons p q ps qs h t ih =>
    obtain ⟨h1, _, h2⟩ := h
    by_cases e : p.1 = k
    · have e' : q.1 = k := h1.symm.trans e
      have b : atKey (q :: qs) k = some q.2 := by simp [atKey, List.find?_cons, e']
      rw [valV_pos e, b]; exact h2
    · have e' : ¬ q.1 = k := fun z => e (h1.trans z)
      have b : atKey (q :: qs) k = atKey qs k := by simp [atKey, List.find?_cons, e']
      rw [valV_neg e, b]; exact ih
theorem KT.repl {H : Hp} {kvs : List (List Key × V)} {xs : List (List Key × Addr × Value)} (r : KT H kvs xs) (k : List Key) {y : V} {u : Value} (ry : RelV y u) :
    KT H (kvs.map fun kv => if kv.1 = k then (kv.1, y) else kv) (xs.map (putAt k u)) := by
  induction r with
  | nil => exact .nil
  | @cons p q ps qs h t ih =>
    rw [List.map_cons, List.map_cons]
    refine .cons ?_ ih
    obtain ⟨h1, h2, h3⟩ := h
    unfold putAt
    by_cases e : p.1 = k
    · rw [if_pos e, if_pos (h1.symm.trans e)]; exact ⟨h1, h2, ry⟩
    · rw [if_neg e, if_neg (fun z => e (h1.trans z))]; exact ⟨h1, h2, h3⟩
theorem KT.put {H : Hp} {kvs : List (List Key × V)} {xs : List (List Key × Addr × Value)} (r : KT H kvs xs) (k : List Key) {b : Addr} {y : V} {u : Value} (hb : H b = some (.tup (k.map kV))) (ry : RelV y u) :
    KT H (putK kvs k y) (storedH xs k b u) := by
  have e : (kvs.any fun kv => decide (kv.1 = k)) = (atKey xs k).isSome := by
    rw [valV_any, (r.val k).isSome_eq, Option.isSome_map]
  unfold putK storedH
  rw [e]
  by_cases q : (atKey xs k).isSome = true
  · rw [if_pos q, if_pos q]; exact r.repl k ry
  · rw [if_neg q, if_neg q]; exact Paired.snoc r ⟨rfl, hb, ry⟩
theorem KT.keeps {H H' : Hp} {kvs : List (List Key × V)} {xs : List (List Key × Addr × Value)} (r : KT H kvs xs) (ht : ∀ b ys, H b = some (.tup ys) → H' b = some (.tup ys)) : KT H' kvs xs :=
  Paired.mapP r fun _ _ z => ⟨z.1, ht _ _ z.2.1, z.2.2⟩

section
variable {P : Program} {w : World} {H : Hp} {h : Heap} {a : Addr}
theorem rd_of {u : HO} (ok : HOk P w H h) (e : Rd H a u) : ObjOk P w H h a u := e.ok ok
theorem dk_rd {kvs : List (Key × V)} (ok : HOk P w H h) (e : Rd H a (.dK kvs)) : kvs.length ≤ sizeLine ∧ (a == sysModules) = false ∧ ∃ vs, KV kvs vs ∧ h.DictOf (mixKind P w) a vs :=
  show ObjOk P w H h a (.dK kvs) from rd_of ok e
theorem dk_of {kvs : List (Key × V)} (ok : HOk P w H h) (e : H a = some (.dK kvs)) : kvs.length ≤ sizeLine ∧ (a == sysModules) = false ∧ ∃ vs, KV kvs vs ∧ h.DictOf (mixKind P w) a vs := dk_rd ok (.inl e)
/-- a tracked tuple of ints and texts is a key -/
theorem key_of {ks : List Key} (ok : HOk P w H h) (e : H a = some (.tup (ks.map kV))) : (tupleKind (mixKind P w)).is h ks a := by
  obtain ⟨_, its, r, o, h1, h2, n, h3⟩ := (show ObjOk P w H h a (.tup (ks.map kV)) from ok a _ e)
  exact ⟨o, its.toArray, n, h1, h2, h3, by simpa using items_are r⟩
theorem dt_rd {kvs : List (List Key × V)} (ok : HOk P w H h) (e : Rd H a (.dT kvs)) : kvs.length ≤ sizeLine ∧ (a == sysModules) = false ∧
    ∃ xs, KT H kvs xs ∧ h.DictOfH (tupleKind (mixKind P w)) a xs := by
  obtain ⟨z, y, xs, r, o, es, ep, h1, h2, h3, h4, h5⟩ := (show ObjOk P w H h a (.dT kvs) from rd_of ok e)
  refine ⟨z, y, xs, r, o, es, ep, h1, h2, h3, h4, fun x hx => ?_, h5⟩
  have all : ∀ {l : List (List Key × V)} {m : List (List Key × Addr × Value)}, KT H l m → ∀ x ∈ m, (tupleKind (mixKind P w)).is h x.1 x.2.1 := by
    intro l m q
    induction q with
    | nil => intro x hx; exact nomatch hx
    | @cons p q ps qs hq t ih =>
      intro x hx
      rcases List.mem_cons.mp hx with e | hx
      · subst e
        exact key_of ok (by rw [← hq.1]; exact hq.2.1)
      · exact ih x hx
  exact all r x hx
theorem dt_of {kvs : List (List Key × V)} (ok : HOk P w H h) (e : H a = some (.dT kvs)) : kvs.length ≤ sizeLine ∧ (a == sysModules) = false ∧
    ∃ xs, KT H kvs xs ∧ h.DictOfH (tupleKind (mixKind P w)) a xs := dt_rd ok (.inl e)
end

/-- what the dict at a holds at the key y -/
def DGet (H : Hp) (a : Addr) (y : V) (r : Option V) : Prop :=
  (∃ kvs k, Rd H a (.dK kvs) ∧ y = kV k ∧ r = valV kvs k) ∨ ∃ kvs k b, Rd H a (.dT kvs) ∧ y = .ref b ∧ H b = some (.tup (k.map kV)) ∧ r = valV kvs k
/-- the heap behind a[y] = v -/
def DPut (H : Hp) (a : Addr) (y v : V) (H' : Hp) : Prop :=
  (∃ kvs k, H a = some (.dK kvs) ∧ y = kV k ∧ kvs.length < sizeLine ∧ H' = upd H a (.dK (putK kvs k v))) ∨
  ∃ kvs k b, H a = some (.dT kvs) ∧ y = .ref b ∧ H b = some (.tup (k.map kV)) ∧ kvs.length < sizeLine ∧ H' = upd H a (.dT (putK kvs k v))
theorem DGet.k {H : Hp} {a : Addr} {kvs : List (Key × V)} {k : Key} (e : H a = some (.dK kvs)) : DGet H a (kV k) (valV kvs k) := .inl ⟨kvs, k, .inl e, rfl, rfl⟩
theorem DGet.t {H : Hp} {a b : Addr} {kvs : List (List Key × V)} {k : List Key} (e : H a = some (.dT kvs)) (eb : H b = some (.tup (k.map kV))) : DGet H a (.ref b) (valV kvs k) := .inr ⟨kvs, k, b, .inl e, rfl, eb, rfl⟩
theorem DPut.k {H : Hp} {a : Addr} {kvs : List (Key × V)} {k : Key} {v : V} (e : H a = some (.dK kvs)) (hl : kvs.length < sizeLine) : DPut H a (kV k) v (upd H a (.dK (putK kvs k v))) := .inl ⟨kvs, k, e, rfl, hl, rfl⟩
theorem DPut.t {H : Hp} {a b : Addr} {kvs : List (List Key × V)} {k : List Key} {v : V} (e : H a = some (.dT kvs)) (eb : H b = some (.tup (k.map kV))) (hl : kvs.length < sizeLine) :
    DPut H a (.ref b) v (upd H a (.dT (putK kvs k v))) := .inr ⟨kvs, k, b, e, rfl, eb, hl, rfl⟩


section
variable {X : Cx} {pins : List (Addr × Obj)} {σ : St} {H : Hp} {s : Shared} {a : Addr} {y v : V} {u r : Value} {o : Option V} {A : Around} {E : Value → Shared → Prop}

theorem Inv.big (I : Inv X pins σ H s) : sysModules < s.heap.objs.size := by
  have h : mainGlobals < s.heap.objs.size := (I.mod.glob.keeps I.bk).lt
  exact Nat.lt_trans (by decide) h

/-- d[y], there -/
theorem d_getItem {Q : Value → Shared → Prop} (hu : A.units + 1 < cLine) (I : Inv X pins σ H s) (g : DGet H a y (some v)) (ry : RelV y u) (h : ∀ w' s', Inv X pins σ H s' → RelV v w' → Q w' s') :
    wpAny (model X.prog X.w) A (getItem (.ref a) u) Q E s := by
  rcases g with ⟨kvs, k, e, ey, l⟩ | ⟨kvs, k, b, e, ey, eb, l⟩
  · subst ey
    obtain ⟨z, hd, vs, rel, dd⟩ := dk_rd I.hok e
    obtain ⟨w', hw, rw'⟩ := RelO.some_of (v := v) (o := valueAt vs k) (by rw [l]; exact rel.val k)
    exact wpAny_getItem_of (kV_is ry) dd.mapOf hw (h w' _ (I.tok _) rw')
  · subst ey
    cases (show u = Value.ref b from ry)
    obtain ⟨z, hd, xs, rel, dd⟩ := dt_rd I.hok e
    obtain ⟨w', hw, rw'⟩ := RelO.some_of (v := v) (o := (atKey xs k).map (·.2)) (by rw [l]; exact rel.val k)
    obtain ⟨p, hp, hp2⟩ := Option.map_eq_some_iff.mp hw
    refine wpAny_getItem_heap (tupleKind_room_in1 hu) (key_of I.hok eb) dd hp ?_
    rw [hp2]
    exact h w' _ (I.tok _) rw'
/-- y in d -/
theorem d_in {Q : Value → Shared → Prop} (hu : A.units + 1 < cLine) (I : Inv X pins σ H s) (g : DGet H a y o) (ry : RelV y u) (h : ∀ s', Inv X pins σ H s' → Q (.bool o.isSome) s') :
    wpAny (model X.prog X.w) A (compareOp .In u (.ref a)) Q E s := by
  rcases g with ⟨kvs, k, e, ey, l⟩ | ⟨kvs, k, b, e, ey, eb, l⟩
  · subst ey
    obtain ⟨z, hd, vs, rel, dd⟩ := dk_rd I.hok e
    refine wpAny_in_of (kV_is ry) hd dd.mapOf ?_
    rw [← (rel.val k).isSome_eq, ← l]
    exact h _ (I.tok _)
  · subst ey
    cases (show u = Value.ref b from ry)
    obtain ⟨z, hd, xs, rel, dd⟩ := dt_rd I.hok e
    refine wpAny_in_heap (tupleKind_room_in1 hu) (key_of I.hok eb) hd dd ?_
    have q := (rel.val k).isSome_eq
    rw [Option.isSome_map] at q
    rw [← q, ← l]
    exact h _ (I.tok _)
theorem d_notIn {Q : Value → Shared → Prop} (hu : A.units + 1 < cLine) (I : Inv X pins σ H s) (g : DGet H a y o) (ry : RelV y u) (h : ∀ s', Inv X pins σ H s' → Q (.bool (!o.isSome)) s') :
    wpAny (model X.prog X.w) A (compareOp .NotIn u (.ref a)) Q E s := by
  rcases g with ⟨kvs, k, e, ey, l⟩ | ⟨kvs, k, b, e, ey, eb, l⟩
  · subst ey
    obtain ⟨z, hd, vs, rel, dd⟩ := dk_rd I.hok e
    refine wpAny_notIn_of (kV_is ry) hd dd.mapOf ?_
    rw [← (rel.val k).isSome_eq, ← l]
    exact h _ (I.tok _)
  · subst ey
    cases (show u = Value.ref b from ry)
    obtain ⟨z, hd, xs, rel, dd⟩ := dt_rd I.hok e
    refine wpAny_notIn_heap (tupleKind_room_in1 hu) (key_of I.hok eb) hd dd ?_
    have q := (rel.val k).isSome_eq
    rw [Option.isSome_map] at q
    rw [← q, ← l]
    exact h _ (I.tok _)
/-- a dict's object is replaced -/
theorem d_write {h' : Heap} {t' : Nat} {ob : HO} (I : Inv X pins σ H s) (mu : Mut (H a)) (hs : Heap.SameBut a s.heap h') (he : ∃ q, h'.get? a = some q) (new : ObjOk X.prog X.w (upd H a ob) h' a ob) :
    Inv X pins σ (upd H a ob) { s with heap := h', toks := t' } :=
  I.write (x := a) (e := a) mu (.inl rfl) (fun b q hb z => (hs.2 b hb).trans z) he new
theorem dk_new {P : Program} {w : World} {H' : Hp} {h' : Heap} {kvs : List (Key × V)} {vs : List (Key × Value)} (z : kvs.length ≤ sizeLine) (hd : (a == sysModules) = false) (rel : KV kvs vs) (dd : h'.DictOf (mixKind P w) a vs) :
    ObjOk P w H' h' a (.dK kvs) := ⟨z, hd, vs, rel, dd⟩
/-- d[y] = v -/
theorem d_setItem {H' : Hp} {Q : Unit → Shared → Prop} (hu : A.units + 1 < cLine) (I : Inv X pins σ H s) (g : DPut H a y v H') (ry : RelV y u) (rv : RelV v r) (h : ∀ s', Inv X pins σ H' s' → Q () s') :
    wpAny (model X.prog X.w) A (setItem (.ref a) u r) Q E s := by
  rcases g with ⟨kvs, k, e, ey, l, eH⟩ | ⟨kvs, k, b, e, ey, eb, l, eH⟩
  · subst ey eH
    obtain ⟨z, hd, vs, rel, dd⟩ := dk_of I.hok e
    have hz : vs.length ≤ sizeLine := by rw [← rel.length]; exact z
    have hl : (putK kvs k v).length ≤ sizeLine := by have := length_putK kvs k v; omega
    refine wpAny_setItem_pairs (hsz := hz) (kV_is ry) dd fun h' dd' hs => h _ ?_
    have he : ∃ q, h'.get? a = some q := let ⟨q, _, _, hq, _⟩ := dd'; ⟨q, hq⟩
    exact d_write I (by rw [e]; exact True.intro) hs he (dk_new hl hd (rel.put k rv) dd')
  · subst ey eH
    cases (show u = Value.ref b from ry)
    obtain ⟨z, hd, xs, rel, dd⟩ := dt_of I.hok e
    have hz : xs.length ≤ sizeLine := by rw [← Paired.length rel]; exact z
    have hl : (putK kvs k v).length ≤ sizeLine := by have := length_putK kvs k v; omega
    refine wpAny_setItem_heap (hsz := hz) (tupleKind_room_in1 hu) (key_of I.hok eb) dd fun h' dd' hs => h _ ?_
    obtain ⟨q, es, ep, hq, h2, h3, h4, _, h5⟩ := dd'
    refine d_write I (by rw [e]; exact True.intro) hs ⟨q, hq⟩ ⟨hl, hd, _, (rel.put k eb rv).keeps fun c ys ec => ?_, q, es, ep, hq, h2, h3, h4, h5⟩
    rw [upd_ne (ne_of ec e (fun z => nomatch z))]
    exact ec
end

section
variable {X : Cx} {pins : List (Addr × Obj)} {σ : St} {H : Hp} {s : Shared} {a : Addr} {kvs : List (Key × V)} {k : Key} {u : Value} {A : Around} {E : Value → Shared → Prop}
/-- del d[k] -/
theorem d_delItem {Q : Unit → Shared → Prop} (I : Inv X pins σ H s) (e : H a = some (.dK kvs)) (ry : RelV (kV k) u) (l : (valV kvs k).isSome = true) (h : ∀ s', Inv X pins σ (upd H a (.dK (dropK kvs k))) s' → Q () s') :
    wpAny (model X.prog X.w) A (delItem (.ref a) u) Q E s := by
  obtain ⟨z, hd, vs, rel, dd⟩ := dk_of I.hok e
  refine wpAny_delItem_slot dd.typeIs (by decide) PySem.F.slot_dict_delitem
    (call_meetsIn PySem.F.slot_dict_delitem dd.typeIs PySem.F.entry_dict_delitem (PySem.F.args_dict_delitem_2 _ _) (meets_dict_delitem_pairs (mixKind X.prog X.w) a (kV_is ry)) ⟨vs, dd, by rw [← rel.length]; exact z, by rw [← (rel.val k).isSome_eq]; exact l, fun h' dd' hs => h _ ?_⟩)
  have he : ∃ q, h'.get? a = some q := let ⟨q, _, _, hq, _⟩ := dd'; ⟨q, hq⟩
  exact d_write I (by rw [e]; exact True.intro) hs he (dk_new (Nat.le_trans (dropK_le kvs k) z) hd (rel.drop k) dd')
/-- d.pop(k[, x]), there -/
theorem d_pop {v : V} {more : List Value} {Q : Value → Shared → Prop} (I : Inv X pins σ H s) (e : H a = some (.dK kvs)) (ry : RelV (kV k) u) (l : valV kvs k = some v) (hm : more = [] ∨ ∃ x, more = [x])
    (h : ∀ w' s', Inv X pins σ (upd H a (.dK (dropK kvs k))) s' → RelV v w' → Q w' s') : wpAny (model X.prog X.w) A (call (.builtin "dict.pop") (.ref a :: u :: more)) Q E s := by
  obtain ⟨z, hd, vs, rel, dd⟩ := dk_of I.hok e
  obtain ⟨w', hw, rw'⟩ := RelO.some_of (v := v) (o := valueAt vs k) (by rw [← l]; exact rel.val k)
  have hp : (keyPart u).isSome = true := by
    cases k with
    | inl i => obtain ⟨t, q⟩ := (show ∃ t, u = Value.int i t from ry); subst q; rfl
    | inr x => obtain ⟨t, q⟩ := (show ∃ t, u = Value.str x t from ry); subst q; rfl
  have ha : argsOk "dict.pop" ⟨.ref a :: u :: more, []⟩ := by
    rcases hm with q | ⟨x, q⟩
    · subst q; exact PySem.F.args_dict_pop_2 _ _
    · subst q; exact PySem.F.args_dict_pop_3 _ _ _
  refine call_meetsIn PySem.F.slot_dict_pop dd.typeIs PySem.F.entry_dict_pop ha (meets_dict_pop_there (mixKind X.prog X.w) a (kV_is ry) more hm hp)
    ⟨vs, w', dd, by rw [← rel.length]; exact z, hw, fun h' dd' hs => h w' _ ?_ rw'⟩
  have he : ∃ q, h'.get? a = some q := let ⟨q, _, _, hq, _⟩ := dd'; ⟨q, hq⟩
  exact d_write I (by rw [e]; exact True.intro) hs he (dk_new (Nat.le_trans (dropK_le kvs k) z) hd (rel.drop k) dd')
/-- d.pop(k, x), not there -/
theorem d_popD {r : Value} {Q : Value → Shared → Prop} (I : Inv X pins σ H s) (e : H a = some (.dK kvs)) (ry : RelV (kV k) u) (l : valV kvs k = none) (h : ∀ s', Inv X pins σ H s' → Q r s') :
    wpAny (model X.prog X.w) A (call (.builtin "dict.pop") [.ref a, u, r]) Q E s := by
  obtain ⟨z, hd, vs, rel, dd⟩ := dk_of I.hok e
  have hn : valueAt vs k = none := RelO.none_of (by rw [← l]; exact rel.val k)
  have hp : (keyPart u).isSome = true := by
    cases k with
    | inl i => obtain ⟨t, q⟩ := (show ∃ t, u = Value.int i t from ry); subst q; rfl
    | inr x => obtain ⟨t, q⟩ := (show ∃ t, u = Value.str x t from ry); subst q; rfl
  exact call_meetsIn PySem.F.slot_dict_pop dd.typeIs PySem.F.entry_dict_pop (PySem.F.args_dict_pop_3 _ _ _) (meets_dict_pop_default (mixKind X.prog X.w) a (kV_is ry) hd hp r) ⟨vs, dd, hn, h _ (I.tok _)⟩
/-- d.clear() -/
theorem d_clear {Q : Value → Shared → Prop} (I : Inv X pins σ H s) (e : H a = some (.dK kvs)) (h : ∀ s', Inv X pins σ (upd H a (.dK [])) s' → Q .none s') : wpAny (model X.prog X.w) A (call (.builtin "dict.clear") [.ref a]) Q E s := by
  obtain ⟨z, hd, vs, rel, dd⟩ := dk_of I.hok e
  refine call_meetsIn PySem.F.slot_dict_clear dd.typeIs PySem.F.entry_dict_clear (PySem.F.args_dict_clear_1 _) (meets_dict_clear (mixKind X.prog X.w) a) ⟨vs, dd, by rw [← rel.length]; exact z, fun h' dd' hs => h _ ?_⟩
  have he : ∃ q, h'.get? a = some q := let ⟨q, _, _, hq, _⟩ := dd'; ⟨q, hq⟩
  exact d_write (t' := s.toks) I (by rw [e]; exact True.intro) hs he (dk_new (Nat.zero_le _) hd .nil dd')
/-- len(d) -/
theorem d_len {Q : Value → Shared → Prop} (I : Inv X pins σ H s) (e : Rd H a (.dK kvs)) (h : ∀ t s', Inv X pins σ H s' → Q (.int kvs.length t) s') : wpAny (model X.prog X.w) A (call (.builtin "len") [.ref a]) Q E s := by
  obtain ⟨z, hd, vs, rel, dd⟩ := dk_rd I.hok e
  refine call_len_dict hd dd (by rw [← rel.length]; rw [sizeLine_eq] at z; omega) ?_
  rw [← rel.length]
  exact h _ _ (I.tok _)
/-- if d -/
theorem d_truth {Q : Bool → Shared → Prop} (I : Inv X pins σ H s) (e : Rd H a (.dK kvs)) (h : ∀ s', Inv X pins σ H s' → Q (!kvs.isEmpty) s') : wpAny (model X.prog X.w) A (truthy (.ref a)) Q E s := by
  obtain ⟨z, hd, vs, rel, dd⟩ := dk_rd I.hok e
  refine wpAny_truthy_dict hd dd (by rw [← rel.length]; rw [sizeLine_eq] at z; omega) ?_
  have q : kvs.isEmpty = vs.isEmpty := by cases rel <;> rfl
  rw [← q]
  exact h _ (I.tok _)
end


/-! ### readings and rules -/
/-- the element of a subscription, not a slice -/
def NoSl (i : Expr) : Prop := ∀ ov iv, subscripted i false ov iv = operate [ov, iv] (getItem ov iv)
theorem subD_of {prog : Program} {w : World} {A : Around} {E : Value → Shared → Prop} {s : Shared} {env : Env} {value slice : Expr} {pos : Pos} {T id : String} {Q : Value → Shared → Prop}
    (hl : typeLookup (.type T) "__getitem__" = pure (some (.builtin id))) (hs : NoSl slice)
    (h : wpAny (model prog w) A (eval value env) (fun o s₁ => wpAny (model prog w) A (eval slice env) (fun i s₂ => s₂.TypeIs o T ∧ wpAny (model prog w) A (getItem o i) Q E s₂) E s₁) E s) :
    wpAny (model prog w) A (eval (.Subscript value slice pos) env) Q E s := by
  refine Subscript_ (wpAny_mono h (fun o s₁ h₁ => wpAny_mono h₁ (fun i s₂ h₂ => ?_) fun _ _ x => x) fun _ _ x => x)
  obtain ⟨hT, h₂⟩ := h₂
  unfold subscriptTail
  refine wpAny_bind ?_
  rw [getitemInPython_of_ne hT.not_modules]
  refine wpAny_bind (wpAny_specialOf hT hl ?_)
  have fin : wpAny (model prog w) A (subscripted slice false o i) (fun r s₃ => wpAny (model prog w) A (letTemporaryGo value o r >>= fun _ => pure r) Q E s₃) E s₂ := by
    rw [hs o i]
    exact wpAny_operating (wpAny_mono h₂ (fun r s₃ h₃ => wpAny_bind (wpAny_letTemporaryGo (wpAny_pure h₃))) fun _ _ x => x)
  first
    | exact wpAny_pure (wpAny_bind fin)
    | exact wpAny_bind (wpAny_pure (wpAny_bind fin))
    | exact wpAny_bind fin

theorem dict_typeIs {X : Cx} {pins : List (Addr × Obj)} {σ : St} {H : Hp} {s : Shared} {a : Addr} {y : V} {o : Option V} (I : Inv X pins σ H s) (g : DGet H a y o) : s.TypeIs (.ref a) "dict" := by
  rcases g with ⟨kvs, k, e, _, _⟩ | ⟨kvs, k, b, e, _, _, _⟩
  · obtain ⟨_, _, vs, _, dd⟩ := dk_rd I.hok e
    exact dd.typeIs
  · obtain ⟨_, _, xs, _, dd⟩ := dt_rd I.hok e
    exact dd.typeIs
theorem dict_noDict {X : Cx} {pins : List (Addr × Obj)} {σ : St} {H : Hp} {s : Shared} {a : Addr} {y : V} {o : Option V} (I : Inv X pins σ H s) (g : DGet H a y o) :
    ∀ b, Value.ref a = .ref b → ∃ ob, s.heap.get? b = some ob ∧ ob.dict = none := fun b q => by
  cases q
  rcases g with ⟨kvs, k, e, _, _⟩ | ⟨kvs, k, b, e, _, _, _⟩
  · obtain ⟨_, _, vs, _, ob, _, _, h1, h2, _⟩ := dk_rd I.hok e
    exact ⟨ob, h1, h2.2.1⟩
  · obtain ⟨_, _, xs, _, ob, _, _, h1, h2, _⟩ := dt_rd I.hok e
    exact ⟨ob, h1, h2.2.1⟩

/-- d[y] -/
def tDGet (td ty : TE) : TE := fun σ H Q => td σ H fun x H1 => ty σ H1 fun y H2 => ∃ a v, x = .ref a ∧ DGet H2 a y (some v) ∧ Q v H2
/-- y in d, y not in d -/
def tDIn (ty td : TE) : TE := fun σ H Q => ty σ H fun y H1 => td σ H1 fun x H2 => ∃ a o, x = .ref a ∧ DGet H2 a y o ∧ Q (.bl o.isSome) H2
def tDNotIn (ty td : TE) : TE := fun σ H Q => ty σ H fun y H1 => td σ H1 fun x H2 => ∃ a o, x = .ref a ∧ DGet H2 a y o ∧ Q (.bl (!o.isSome)) H2
/-- d[y] = v -/
def sDPut (td ty tv : TE) : TS := fun D σ H => tv σ H fun v H1 => td σ H1 fun x H2 => ty σ H2 fun y H3 => ∃ a H4, x = .ref a ∧ DPut H3 a y v H4 ∧ D.nx σ H4
/-- d[y] op= v -/
def sDAug (td ty tv : TE) (rd : V → V → Hp → VK → Prop) : TS := fun D σ H => td σ H fun x H1 => ty σ H1 fun y H2 => ∃ a v, x = .ref a ∧ DGet H2 a y (some v) ∧
  tv σ H2 fun y2 H3 => rd v y2 H3 fun z H4 => ∃ H5, DPut H4 a y z H5 ∧ D.nx σ H5
/-- del d[y] -/
def sDDel (td ty : TE) : TS := fun D σ H => td σ H fun x H1 => ty σ H1 fun y H2 => ∃ a kvs k, x = .ref a ∧ H2 a = some (.dK kvs) ∧ y = kV k ∧ (valV kvs k).isSome = true ∧ D.nx σ (upd H2 a (.dK (dropK kvs k)))

section
variable {X : Cx} {o i e value : Expr} {pos pos' tpos : Pos} {td ty tv : TE}
theorem pe_dget (hu : X.A.units + 1 < cLine) (ho : PE X o td) (hi : PE X i ty) (hs : NoSl i) : PE X (.Subscript o i pos) (tDGet td ty) := by
  intro pins s σ H Q I h
  refine subD_of PySem.F.slot_dict_getitem.lookup hs (thn (ho pins s σ H _ I h) fun u s1 ⟨x, H1, I1, rx, q1⟩ => thn (hi pins s1 σ H1 _ I1 q1) fun iv s2 ⟨y, H2, I2, ry, a, v, ex, g, q2⟩ => ?_)
  subst ex
  obtain rfl : u = Value.ref a := rx
  exact ⟨dict_typeIs I2 g, d_getItem hu I2 g ry fun w' s3 I3 rw' => ⟨v, H2, I3, rw', q2⟩⟩
theorem pc_din (hu : X.A.units + 1 < cLine) (hi : PE X i ty) (ho : PE X o td) : PC X .In i o (tDIn ty td) := by
  intro pins s σ H Q I h
  refine thn (hi pins s σ H _ I h) fun iv s1 ⟨y, H1, I1, ry, q1⟩ => thn (ho pins s1 σ H1 _ I1 q1) fun u s2 ⟨x, H2, I2, rx, a, ov, ex, g, q2⟩ => ?_
  subst ex
  obtain rfl : u = Value.ref a := rx
  exact d_in hu I2 g ry fun s3 I3 => ⟨.bl ov.isSome, H2, I3, rfl, q2⟩
theorem pc_dnotin (hu : X.A.units + 1 < cLine) (hi : PE X i ty) (ho : PE X o td) : PC X .NotIn i o (tDNotIn ty td) := by
  intro pins s σ H Q I h
  refine thn (hi pins s σ H _ I h) fun iv s1 ⟨y, H1, I1, ry, q1⟩ => thn (ho pins s1 σ H1 _ I1 q1) fun u s2 ⟨x, H2, I2, rx, a, ov, ex, g, q2⟩ => ?_
  subst ex
  obtain rfl : u = Value.ref a := rx
  exact d_notIn hu I2 g ry fun s3 I3 => ⟨.bl (!ov.isSome), H2, I3, rfl, q2⟩
theorem ps_dput (hu : X.A.units + 1 < cLine) (ho : PE X o td) (hi : PE X i ty) (hv : PE X value tv) (hs : swapsWith value (some (.Subscript o i pos')) pos.line X.env = pure false) :
    PS X (.Assign [.Subscript o i pos'] value pos) (sDPut td ty tv) := by
  intro pins s σ H D I h
  refine wpAny_Assign_Subscript (thn (hv pins s σ H _ I h) fun r s1 ⟨v, H1, I1, rv, q1⟩ => thn (ho pins s1 σ H1 _ I1 q1) fun u s2 ⟨x, H2, I2, rx, q2⟩ => thn (hi pins s2 σ H2 _ I2 q2) fun iv s3 ⟨y, H3, I3, ry, a, H4, ex, g, q3⟩ => ?_) hs
  subst ex
  obtain rfl : u = Value.ref a := rx
  exact d_setItem hu I3 g ry rv fun s4 I4 => ⟨σ, H4, I4, q3⟩
theorem ps_daug {op : Operator} {rd : V → V → Hp → VK → Prop} (hu : X.A.units + 1 < cLine) (ho : PE X o td) (hi : PE X i ty) (hv : PE X value tv) (hop : InOp X op rd)
    (ha : ∀ ov iv new, augStore i ov iv new = (do holding [new, ov, iv] (setItem ov iv new); release [new, ov, iv] []; pure .next)) : PS X (.AugAssign (.Subscript o i tpos) op value pos) (sDAug td ty tv rd) := by
  intro pins s σ H D I h
  refine wpAny_AugAssign_SubscriptAny (thn (ho pins s σ H _ I h) fun u s1 ⟨x, H1, I1, rx, q1⟩ => thn (hi pins s1 σ H1 _ I1 q1) fun iv s2 ⟨y, H2, I2, ry, a, v, ex, g, q2⟩ => ?_) ha
  subst ex
  obtain rfl : u = Value.ref a := rx
  refine d_getItem hu I2 g ry fun w' s3 I3 rw' => thn (hv pins s3 σ H2 _ I3 q2) fun w2 s4 ⟨y2, H3, I4, ry2, q3⟩ => thn (hop pins s4 σ H3 v y2 w' w2 _ I4 rw' ry2 q3) fun w3 s5 ⟨z, H4, I5, rz, H5, g5, q4⟩ => ?_
  exact d_setItem hu I5 g5 ry rz fun s6 I6 => ⟨σ, H5, I6, q4⟩
theorem ps_ddel (ho : PE X o td) (hi : PE X i ty) : PS X (.Delete [.Subscript o i tpos] pos) (sDDel td ty) := by
  intro pins s σ H D I h
  refine wpAny_Delete (wpAny_deleteEach_cons (wpAny_delete_Subscript (thn (ho pins s σ H _ I h) fun u s1 ⟨x, H1, I1, rx, q1⟩ => thn (hi pins s1 σ H1 _ I1 q1) fun iv s2 ⟨y, H2, I2, ry, a, kvs, k, ex, e, ey, l, q2⟩ => ?_)))
  subst ex ey
  obtain rfl : u = Value.ref a := rx
  exact d_delItem I2 e ry l fun s3 I3 => wpAny_deleteEach_nil ⟨σ, _, I3, q2⟩
end


/-! ### displays -/
theorem dk_empty {P : Program} {w : World} {H : Hp} (h : Heap) (hb : sysModules < h.objs.size) : ObjOk P w H (h.push { cls := .type "dict", data := .dict #[] }) h.objs.size (.dK []) :=
  ⟨Nat.zero_le _, beq_eq_false_iff_ne.mpr (Ne.symm (Nat.ne_of_lt hb)), [], .nil, Heap.DictOf.new h⟩
theorem dt_empty {P : Program} {w : World} {H : Hp} (h : Heap) (hb : sysModules < h.objs.size) : ObjOk P w H (h.push { cls := .type "dict", data := .dict #[] }) h.objs.size (.dT []) :=
  ⟨Nat.zero_le _, beq_eq_false_iff_ne.mpr (Ne.symm (Nat.ne_of_lt hb)), [], .nil, _, #[], 0, Heap.get?_push_size _ rfl, ⟨rfl, rfl, rfl⟩, rfl, rfl, List.nodup_nil⟩
/-- {}, to be a dict of the kind that is wanted -/
def tDNewK : TE := fun _ H Q => ∀ p, H p = none → Q (.ref p) (upd H p (.dK []))
def tDNewT : TE := fun _ H Q => ∀ p, H p = none → Q (.ref p) (upd H p (.dT []))
section
variable {X : Cx} {pos : Pos}
theorem pe_dnewK : PE X (.Dict [] [] pos) tDNewK := fun pins s σ H Q I h =>
  wpAny_Dict_empty ⟨.ref s.heap.objs.size, _, I.laid (a := s.heap.objs.size) (o := .dK []) (t' := s.toks) (fun _ _ q => Heap.get?_push_of_some _ q) (Nat.le_refl _) (dk_empty s.heap I.big), rfl, h _ (I.hok.fresh (Nat.le_refl _))⟩
theorem pe_dnewT : PE X (.Dict [] [] pos) tDNewT := fun pins s σ H Q I h =>
  wpAny_Dict_empty ⟨.ref s.heap.objs.size, _, I.laid (a := s.heap.objs.size) (o := .dT []) (t' := s.toks) (fun _ _ q => Heap.get?_push_of_some _ q) (Nat.le_refl _) (dt_empty s.heap I.big), rfl, h _ (I.hok.fresh (Nat.le_refl _))⟩
end

/-- the pairs of a display, from the left -/
def tPairs : List (TE × TE) → St → Hp → (List (V × V) → Hp → Prop) → Prop
  | [], _, H, Q => Q [] H
  | (tk, tv) :: r, σ, H, Q => tk σ H fun x H1 => tv σ H1 fun y H2 => tPairs r σ H2 fun ps H3 => Q ((x, y) :: ps) H3
abbrev VV : List (V × V) → List (Value × Value) → Prop := Paired fun p q => RelV p.1 q.1 ∧ RelV p.2 q.2
def PPs (X : Cx) (pos : Pos) (keys : List (Option Expr)) (values : List Expr) (trs : List (TE × TE)) : Prop :=
  ∀ (pins : List (Addr × Obj)) (s : Shared) (σ : St) (H : Hp) (Q : List (V × V) → Hp → Prop), Inv X pins σ H s → tPairs trs σ H Q →
    wpAny (model X.prog X.w) X.A (evalPairs (pairTrees keys values X.env pos)) (fun vs s' => ∃ ps H', Inv X pins σ H' s' ∧ VV ps vs ∧ Q ps H') X.xe s
theorem pps_nil {X : Cx} {pos : Pos} : PPs X pos [] [] [] := fun pins s σ H Q I h => pairTrees_nil_walk ⟨[], H, I, .nil, h⟩
theorem pps_cons {X : Cx} {pos : Pos} {k v : Expr} {ks : List (Option Expr)} {vs : List Expr} {tk tv : TE} {trs : List (TE × TE)} (hk : PE X k tk) (hv : PE X v tv) (hr : PPs X pos ks vs trs) :
    PPs X pos (some k :: ks) (v :: vs) ((tk, tv) :: trs) := fun pins s σ H Q I h =>
  pairTrees_cons_walk (thn (hk pins s σ H _ I h) fun u s1 ⟨x, H1, I1, rx, q1⟩ => thn (hv pins s1 σ H1 _ I1 q1) fun w2 s2 ⟨y, H2, I2, ry, q2⟩ =>
    thn (hr pins s2 σ H2 _ I2 q2) fun ws s3 ⟨ps, H3, I3, rel, q3⟩ => ⟨(x, y) :: ps, H3, I3, .cons ⟨rx, ry⟩ rel, q3⟩)

def mergeK (kvs more : List (Key × V)) : List (Key × V) := more.foldl (fun acc kv => putK acc kv.1 kv.2) kvs
theorem KV.merge : ∀ {more : List (Key × V)} {rs : List (Key × Value)} {kvs : List (Key × V)} {vs : List (Key × Value)}, KV more rs → KV kvs vs → KV (mergeK kvs more) (merged vs rs) := by
  intro more rs kvs vs r
  unfold KV at r
  induction r generalizing kvs vs with
  | nil => intro q; exact q
  | @cons p q ps qs h t ih =>
    intro r0
    have e : KV (putK kvs p.1 p.2) (stored vs q.1 q.2) := by
      have := r0.put p.1 h.2
      rw [← h.1]; exact this
    exact ih e
theorem length_mergeK : ∀ (more kvs : List (Key × V)), (mergeK kvs more).length ≤ kvs.length + more.length
  | [], kvs => by show kvs.length ≤ kvs.length + 0; omega
  | p :: r, kvs => by
    have h1 := length_mergeK r (putK kvs p.1 p.2)
    have h2 := length_putK kvs p.1 p.2
    show (mergeK (putK kvs p.1 p.2) r).length ≤ _
    rw [List.length_cons]; omega
theorem carries_of {P : Program} {w : World} : ∀ {kvs : List (Key × V)} {ws : List (Value × Value)}, VV (kvs.map fun kv => (kV kv.1, kv.2)) ws → ∃ rs, Carries (mixKind P w) ws rs ∧ KV kvs rs
  | [], _, r => by rw [List.map_nil] at r; cases r; exact ⟨[], True.intro, .nil⟩
  | p :: kvs, _, r => by
    rw [List.map_cons] at r
    cases r with
    | @cons a b as bs h t =>
      obtain ⟨rs, c, q⟩ := carries_of (P := P) (w := w) t
      obtain ⟨b1, b2⟩ := b
      exact ⟨(p.1, b2) :: rs, ⟨kV_is h.1, rfl, c⟩, .cons ⟨rfl, h.2⟩ q⟩
/-- {k: v, ..} with keys ints and texts; the new dict stands empty while the pairs are made -/
def tDisp (trs : List (TE × TE)) : TE := fun σ H Q => ∀ p, H p = none → tPairs trs σ (upd H p (.dK [])) fun ps H2 => H2 p = some (.dK []) ∧ ∃ kvs : List (Key × V), ps = kvs.map (fun kv => (kV kv.1, kv.2)) ∧ kvs.length ≤ 15 ∧ Q (.ref p) (upd H2 p (.dK (mergeK [] kvs)))
theorem pe_disp {X : Cx} {pos : Pos} {keys : List (Option Expr)} {values : List Expr} {trs : List (TE × TE)} (h : PPs X pos keys values trs) (hall : keys.all (·.isSome) = true) (hl : keys.length = values.length) (h0 : keys ≠ [])
    (h15 : keys.length ≤ 15) : PE X (.Dict keys values pos) (tDisp trs) := by
  intro pins s σ H Q I q
  have hn := I.hok.fresh (Nat.le_refl s.heap.objs.size)
  have I1 := I.laid (a := s.heap.objs.size) (o := .dK []) (h' := s.heap.push { cls := .type "dict", data := .dict #[] }) (t' := s.toks) (fun _ _ q => Heap.get?_push_of_some _ q) (Nat.le_refl _) (dk_empty s.heap I.big)
  refine wpAny_Dict_walk (knd := mixKind X.prog X.w) hall hl h0 h15 (thn (h pins _ σ _ _ I1 (q _ hn)) fun ws s2 ⟨ps, H2, I2, rel, e, kvs, ep, lk, q2⟩ => ?_)
  subst ep
  obtain ⟨rs, c, rk⟩ := carries_of (P := X.prog) (w := X.w) rel
  obtain ⟨z, hd, vs0, r0, dd⟩ := dk_of I2.hok e
  cases r0
  refine ⟨rs, c, dd, fun h' dd' hs => ⟨.ref s.heap.objs.size, _, ?_, rfl, q2⟩⟩
  have hz : (mergeK [] kvs).length ≤ sizeLine := by
    have h1 := length_mergeK kvs []
    rw [List.length_nil] at h1
    rw [sizeLine_eq]; omega
  have he : ∃ q, h'.get? s.heap.objs.size = some q := let ⟨q, _, _, hq, _⟩ := dd'; ⟨q, hq⟩
  exact d_write I2 (by rw [e]; exact True.intro) hs he (dk_new hz hd (rk.merge .nil) dd')


/-! ### methods -/
/-- a method call o.m(e) of a built-in, with one argument: what must be seen of the text -/
structure M1 (X : Cx) (o : Expr) (m : Str) (apos : Pos) (e : Expr) (cpos : Pos) : Prop where
  base : attributeBase o m X.env (eval o X.env) = eval o X.env
  few : ((backTo cpos (starEach [e] X.env)).all (fun x => !x.1) && (backToKw cpos (keywordEach [] X.env)).all (fun x => x.1.isSome)
    && decide (([e] : List Expr).length + ([] : List Keyword).length + (if ([] : List Keyword).isEmpty then 0 else 1) < 30)) = true
  line : (apos.endLine == cpos.line) = true
  trees : backTo cpos (starEach [e] X.env) = [(false, eval e X.env)]
structure M2 (X : Cx) (o : Expr) (m : Str) (apos : Pos) (e f : Expr) (cpos : Pos) : Prop where
  base : attributeBase o m X.env (eval o X.env) = eval o X.env
  few : ((backTo cpos (starEach [e, f] X.env)).all (fun x => !x.1) && (backToKw cpos (keywordEach [] X.env)).all (fun x => x.1.isSome)
    && decide (([e, f] : List Expr).length + ([] : List Keyword).length + (if ([] : List Keyword).isEmpty then 0 else 1) < 30)) = true
  line : (apos.endLine == cpos.line) = true
  trees : backTo cpos (starEach [e, f] X.env) = [(false, eval e X.env), (false, eval f X.env)]

/-- a is a dict, whatever its keys -/
def IsD (H : Hp) (a : Addr) : Prop := (∃ kvs, Rd H a (.dK kvs)) ∨ ∃ kvs, Rd H a (.dT kvs)
theorem isD_at {X : Cx} {pins : List (Addr × Obj)} {σ : St} {H : Hp} {s : Shared} {a : Addr} (I : Inv X pins σ H s) (d : IsD H a) :
    s.TypeIs (.ref a) "dict" ∧ (∀ b, Value.ref a = .ref b → ∃ ob, s.heap.get? b = some ob ∧ ob.dict = none) ∧ (a == sysModules) = false := by
  rcases d with ⟨kvs, e⟩ | ⟨kvs, e⟩
  · obtain ⟨_, hd, vs, _, dd⟩ := dk_rd I.hok e
    refine ⟨dd.typeIs, fun b q => ?_, hd⟩
    cases q
    obtain ⟨ob, _, _, h1, h2, _⟩ := dd
    exact ⟨ob, h1, h2.2.1⟩
  · obtain ⟨_, hd, xs, _, dd⟩ := dt_rd I.hok e
    refine ⟨dd.typeIs, fun b q => ?_, hd⟩
    cases q
    obtain ⟨ob, _, _, h1, h2, _⟩ := dd
    exact ⟨ob, h1, h2.2.1⟩

section
variable {X : Cx} {pins : List (Addr × Obj)} {σ : St} {H : Hp} {s : Shared} {a : Addr} {y d : V} {u r : Value} {o : Option V} {A : Around} {E : Value → Shared → Prop}
/-- d.get(y) -/
theorem d_get1 {Q : Value → Shared → Prop} (hu : A.units + 1 < cLine) (I : Inv X pins σ H s) (g : DGet H a y o) (ry : RelV y u) (h : ∀ w' s', Inv X pins σ H s' → RelV (o.getD .non) w' → Q w' s') :
    wpAny (model X.prog X.w) A (call (.builtin "dict.get") [.ref a, u]) Q E s := by
  rcases g with ⟨kvs, k, e, ey, l⟩ | ⟨kvs, k, b, e, ey, eb, l⟩
  · subst ey
    obtain ⟨z, hd, vs, rel, dd⟩ := dk_rd I.hok e
    refine call_meetsIn PySem.F.slot_dict_get dd.typeIs PySem.F.entry_dict_get (PySem.F.args_dict_get_2 _ _) (meets_dict_get (mixKind X.prog X.w) a (kV_is ry) hd) ⟨_, dd.mapOf, h _ _ (I.tok _) ?_⟩
    rw [l]
    exact (rel.val k).getD rfl
  · subst ey
    cases (show u = Value.ref b from ry)
    obtain ⟨z, hd, xs, rel, dd⟩ := dt_rd I.hok e
    refine call_meetsIn PySem.F.slot_dict_get dd.typeIs PySem.F.entry_dict_get (PySem.F.args_dict_get_2 _ _) (meetsH_dict_get (tupleKind (mixKind X.prog X.w)) a b hd) ⟨tupleKind_room_in1 hu, k, xs, key_of I.hok eb, dd, h _ _ (I.tok _) ?_⟩
    rw [l]
    exact (rel.val k).getD rfl
/-- d.get(y, x) -/
theorem d_get2 {Q : Value → Shared → Prop} (hu : A.units + 1 < cLine) (I : Inv X pins σ H s) (g : DGet H a y o) (ry : RelV y u) (rd : RelV d r) (h : ∀ w' s', Inv X pins σ H s' → RelV (o.getD d) w' → Q w' s') :
    wpAny (model X.prog X.w) A (call (.builtin "dict.get") [.ref a, u, r]) Q E s := by
  rcases g with ⟨kvs, k, e, ey, l⟩ | ⟨kvs, k, b, e, ey, eb, l⟩
  · subst ey
    obtain ⟨z, hd, vs, rel, dd⟩ := dk_rd I.hok e
    refine call_meetsIn PySem.F.slot_dict_get dd.typeIs PySem.F.entry_dict_get (PySem.F.args_dict_get_3 _ _ _) (meets_dict_get_default (mixKind X.prog X.w) a (kV_is ry) hd r) ⟨_, dd.mapOf, h _ _ (I.tok _) ?_⟩
    rw [l]
    exact (rel.val k).getD rd
  · subst ey
    cases (show u = Value.ref b from ry)
    obtain ⟨z, hd, xs, rel, dd⟩ := dt_rd I.hok e
    refine call_meetsIn PySem.F.slot_dict_get dd.typeIs PySem.F.entry_dict_get (PySem.F.args_dict_get_3 _ _ _) (meetsH_dict_get_default (tupleKind (mixKind X.prog X.w)) a b hd r) ⟨tupleKind_room_in1 hu, k, xs, key_of I.hok eb, dd, h _ _ (I.tok _) ?_⟩
    rw [l]
    exact (rel.val k).getD rd
end

def tDGet1 (td ty : TE) : TE := fun σ H Q => td σ H fun x H1 => ∃ a, x = .ref a ∧ IsD H1 a ∧ ty σ H1 fun y H2 => ∃ o, DGet H2 a y o ∧ Q (o.getD .non) H2
def tDGet2 (td ty tx : TE) : TE := fun σ H Q => td σ H fun x H1 => ∃ a, x = .ref a ∧ IsD H1 a ∧ ty σ H1 fun y H2 => tx σ H2 fun z H3 => ∃ o, DGet H3 a y o ∧ Q (o.getD z) H3
/-- d.pop(k): there; d.pop(k, x): there or not -/
def tDPop1 (td ty : TE) : TE := fun σ H Q => td σ H fun x H1 => ∃ a, x = .ref a ∧ IsD H1 a ∧ ty σ H1 fun y H2 => ∃ kvs k v, H2 a = some (.dK kvs) ∧ y = kV k ∧ valV kvs k = some v ∧ Q v (upd H2 a (.dK (dropK kvs k)))
def tDPop2 (td ty tx : TE) : TE := fun σ H Q => td σ H fun x H1 => ∃ a, x = .ref a ∧ IsD H1 a ∧ ty σ H1 fun y H2 => tx σ H2 fun z H3 => ∃ kvs k, H3 a = some (.dK kvs) ∧ y = kV k ∧
  (∀ v, valV kvs k = some v → Q v (upd H3 a (.dK (dropK kvs k)))) ∧ (valV kvs k = none → Q z H3)
section
variable {X : Cx} {o e f : Expr} {apos cpos : Pos} {td ty tx : TE}
theorem pe_dget1 (hu : X.A.units + 1 < cLine) (ho : PE X o td) (he : PE X e ty) (m : M1 X o "get" apos e cpos) : PE X (.Call (.Attribute o "get" apos) [e] [] cpos) (tDGet1 td ty) := by
  intro pins s σ H Q I h
  refine wpAny_Call_method m.base m.few m.line PySem.F.plainAttrs_dict PySem.F.slot_dict_get PySem.F.type_dict_get (thn (ho pins s σ H _ I h) fun u s1 ⟨x, H1, I1, rx, a, ex, d, q1⟩ => ?_)
  subst ex
  obtain rfl : u = Value.ref a := rx
  obtain ⟨t1, t2, _⟩ := isD_at I1 d
  refine ⟨t1, t2, ?_⟩
  rw [m.trees]
  refine Calls.callWith_builtin rfl (Calls.evalArgs_plain (Calls.spliced_cons (thn (he pins s1 σ H1 _ I1 q1) fun iv s2 ⟨y, H2, I2, ry, ov, g, q2⟩ => Calls.spliced_nil ?_)))
  exact d_get1 hu I2 g ry fun w' s3 I3 rw' => ⟨_, H2, I3, rw', q2⟩
theorem pe_dget2 (hu : X.A.units + 1 < cLine) (ho : PE X o td) (he : PE X e ty) (hf : PE X f tx) (m : M2 X o "get" apos e f cpos) : PE X (.Call (.Attribute o "get" apos) [e, f] [] cpos) (tDGet2 td ty tx) := by
  intro pins s σ H Q I h
  refine wpAny_Call_method m.base m.few m.line PySem.F.plainAttrs_dict PySem.F.slot_dict_get PySem.F.type_dict_get (thn (ho pins s σ H _ I h) fun u s1 ⟨x, H1, I1, rx, a, ex, d, q1⟩ => ?_)
  subst ex
  obtain rfl : u = Value.ref a := rx
  obtain ⟨t1, t2, _⟩ := isD_at I1 d
  refine ⟨t1, t2, ?_⟩
  rw [m.trees]
  refine Calls.callWith_builtin rfl (Calls.evalArgs_plain (Calls.spliced_cons (thn (he pins s1 σ H1 _ I1 q1) fun iv s2 ⟨y, H2, I2, ry, q2⟩ =>
    Calls.spliced_cons (thn (hf pins s2 σ H2 _ I2 q2) fun fv s3 ⟨z, H3, I3, rz, ov, g, q3⟩ => Calls.spliced_nil ?_))))
  exact d_get2 hu I3 g ry rz fun w' s4 I4 rw' => ⟨_, H3, I4, rw', q3⟩
theorem pe_dpop1 (ho : PE X o td) (he : PE X e ty) (m : M1 X o "pop" apos e cpos) : PE X (.Call (.Attribute o "pop" apos) [e] [] cpos) (tDPop1 td ty) := by
  intro pins s σ H Q I h
  refine wpAny_Call_method m.base m.few m.line PySem.F.plainAttrs_dict PySem.F.slot_dict_pop PySem.F.type_dict_pop (thn (ho pins s σ H _ I h) fun u s1 ⟨x, H1, I1, rx, a, ex, d, q1⟩ => ?_)
  subst ex
  obtain rfl : u = Value.ref a := rx
  obtain ⟨t1, t2, _⟩ := isD_at I1 d
  refine ⟨t1, t2, ?_⟩
  rw [m.trees]
  refine Calls.callWith_builtin rfl (Calls.evalArgs_plain (Calls.spliced_cons (thn (he pins s1 σ H1 _ I1 q1) fun iv s2 ⟨y, H2, I2, ry, kvs, k, v, ea, ey, l, q2⟩ => Calls.spliced_nil ?_)))
  subst ey
  exact d_pop I2 ea ry l (.inl rfl) fun w' s3 I3 rw' => ⟨v, _, I3, rw', q2⟩
theorem pe_dpop2 (ho : PE X o td) (he : PE X e ty) (hf : PE X f tx) (m : M2 X o "pop" apos e f cpos) : PE X (.Call (.Attribute o "pop" apos) [e, f] [] cpos) (tDPop2 td ty tx) := by
  intro pins s σ H Q I h
  refine wpAny_Call_method m.base m.few m.line PySem.F.plainAttrs_dict PySem.F.slot_dict_pop PySem.F.type_dict_pop (thn (ho pins s σ H _ I h) fun u s1 ⟨x, H1, I1, rx, a, ex, d, q1⟩ => ?_)
  subst ex
  obtain rfl : u = Value.ref a := rx
  obtain ⟨t1, t2, _⟩ := isD_at I1 d
  refine ⟨t1, t2, ?_⟩
  rw [m.trees]
  refine Calls.callWith_builtin rfl (Calls.evalArgs_plain (Calls.spliced_cons (thn (he pins s1 σ H1 _ I1 q1) fun iv s2 ⟨y, H2, I2, ry, q2⟩ =>
    Calls.spliced_cons (thn (hf pins s2 σ H2 _ I2 q2) fun fv s3 ⟨z, H3, I3, rz, kvs, k, ea, ey, q3, q4⟩ => Calls.spliced_nil ?_))))
  subst ey
  cases l : valV kvs k with
  | some v => exact d_pop I3 ea ry l (.inr ⟨fv, rfl⟩) fun w' s4 I4 rw' => ⟨v, _, I4, rw', q3 v l⟩
  | none => exact d_popD I3 ea ry l fun s4 I4 => ⟨z, H3, I4, rz, q4 l⟩
end

/-! ### dict(d): a copy -/
section
variable {X : Cx} {pins : List (Addr × Obj)} {σ : St} {H : Hp} {s : Shared} {a : Addr} {kvs : List (Key × V)} {A : Around} {E : Value → Shared → Prop}
theorem d_copyOf {Q : Value → Shared → Prop} (I : Inv X pins σ H s) (e : Rd H a (.dK kvs)) (h : ∀ p s', H p = none → Inv X pins σ (upd H p (.dK kvs)) s' → Q (.ref p) s') : wpAny (model X.prog X.w) A (call (.type "dict") [.ref a]) Q E s := by
  obtain ⟨z, hd, vs, rel, dd⟩ := dk_rd I.hok e
  refine kt_call_dict hd dd (by rw [← rel.length]; exact z) fun h' dd' hs => ?_
  refine h _ _ (I.hok.fresh (Nat.le_refl _)) (I.laid (a := s.heap.objs.size) (o := .dK kvs) (t' := s.toks) (fun b q hq => ?_) (Nat.le_refl _) (dk_new z (beq_eq_false_iff_ne.mpr (Ne.symm (Nat.ne_of_lt I.big))) rel dd'))
  exact (hs.2 b (Nat.ne_of_lt (Heap.lt_size hq))).trans (Heap.get?_push_of_some _ hq)
end


section
variable {X : Cx} {pins : List (Addr × Obj)} {σ : St} {H : Hp} {s : Shared} {a : Addr} {y : V} {u : Value} {A : Around} {E : Value → Shared → Prop}
/-- d[y], not there: a KeyError -/
theorem d_missing {Q : Value → Shared → Prop} (hu : A.units + 1 < cLine) (hh : A.handled = none) (I : Inv X pins σ H s) (g : DGet H a y none) (ry : RelV y u)
    (h : ∀ h' e t', Heap.NewExc s.heap h' e "KeyError" → E (.ref e) { s with heap := h', toks := t' }) : wpAny (model X.prog X.w) A (getItem (.ref a) u) Q E s := by
  rcases g with ⟨kvs, k, e, ey, l⟩ | ⟨kvs, k, b, e, ey, eb, l⟩
  · subst ey
    obtain ⟨z, hd, vs, rel, dd⟩ := dk_rd I.hok e
    have hn : valueAt vs k = none := RelO.none_of (by rw [l]; exact rel.val k)
    exact wpAny_getItem_missing_of (kV_is ry) hd hh dd.mapOf hn fun h' ex ne => h h' ex _ ne
  · subst ey
    cases (show u = Value.ref b from ry)
    obtain ⟨z, hd, xs, rel, dd⟩ := dt_rd I.hok e
    have hn : (atKey xs k).map (·.2) = none := RelO.none_of (by rw [l]; exact rel.val k)
    exact wpAny_getItem_missing_heap (tupleKind_room_in1 hu) (key_of I.hok eb) hd hh dd (Option.map_eq_none_iff.mp hn) fun h' ex ne => h h' ex _ ne
end
end L2

namespace Att
open PySem PySem.W PySem.Calls PyProof.Rows

/-! ### the script -/
theorem ints_of_wellAll {P : Params} {h : Heap} : ∀ (ns : List Int) (vs : List Value), WellAll P h vs (ns.map WData.int) → IntsAre vs ns := by
  intro ns
  induction ns with
  | nil =>
    intro vs w
    rw [List.map_nil] at w
    cases w
    exact .nil
  | cons n ns ih =>
    intro vs w
    rw [List.map_cons] at w
    cases w with
    | cons a b =>
      cases a
      exact .cons _ _ (ih _ b)

theorem script_of {l : OpenLaw} {n : Nat} (hn : l.most = some n) {P : Params} {h : Heap} {args : List WData} {vals : List Value}
    (hpre : l.row.toRowW.claim.pre args = true) (hwl : WellAll P h vals args) :
    ∃ a vs ns, vals = [Value.ref a] ∧ args = [WData.list (ns.map WData.int)] ∧ h.get? a = some { cls := .type "list", data := .seq vs.toArray } ∧ IntsAre vs ns ∧ ns.length ≤ n := by
  have hsh : WShape.hasAll [] args [.list .int] = true := (pre_splitW hpre).1
  have hc : l.pre.holds [] { args := args } = true := (pre_splitW hpre).2
  obtain ⟨d, r, rfl, h1, h2⟩ := hasAllW_cons hsh
  obtain rfl := hasAllW_nil h2
  obtain ⟨xs, rfl, h3⟩ := hasW_list h1
  obtain ⟨ns, rfl⟩ := items_int h3
  have hlen : ns.length ≤ n := by
    unfold OpenLaw.pre at hc
    have h4 : (WTm.not (.lt (.lit (.int (n : Int))) (.len (.arg 0)))).holds [] { args := [.list (ns.map .int)] } = true := by
      have h4 := (holds_andW hc).1
      rw [hn] at h4
      exact h4
    have h5 := condW_of h4 (w_not (w_lt w_lit (w_len_list (w_arg rfl))))
    rw [List.length_map] at h5
    refine Nat.le_of_not_lt fun q => ?_
    have q' : (n : Int) < ((ns.length : Nat) : Int) := by omega
    first
      | (rw [decide_eq_true q'] at h5; exact absurd h5 (by decide))
      | (simp at h5; omega)
  cases hwl with
  | cons w1 w2 =>
    cases w2
    cases w1 with
    | list ho hall => exact ⟨_, _, ns, rfl, rfl, ho, ints_of_wellAll ns _ hall, hlen⟩

theorem post_true (l : OpenLaw) (args : List WData) : l.row.toRowW.claim.post args (.bool true) args = true :=
  postW_of (r := l.row.toRowW) (X := (true == true))
    (show WShape.has [] (.bool true) .bool = true by first | rfl | decide | simp [WShape.has, WShape.arms, WShape.armsAll])
    (show (WTm.eq .res (.lit (.bool true))).value [] { args := args, res := some (.bool true), after := args } = some (.bool (true == true)) from w_eq_bool (w_res rfl) w_lit) rfl

/-! ### the attachment: holds_open's last premise (the goal 'hc' behind k_head) from a wpAny of the law's body -/
theorem attach {l : OpenLaw} {n : Nat} {q : Program} {loose : List Str} {XP : (Str → Option Value) → Heap → Prop} {YP : World → Heap → Prop} {d : DefRec} {x : Str}
    (hn : l.most = some n) (hdf : d.params.defaults = [])
    (hbind : ∀ pm cd doc v : Value, bindArgs (docDef d.name d.params d.body d.scope pm cd doc) ⟨[v], []⟩ = pure [(x, v)])
    (hx : d.scope.names.lookup x = some .local ∨ d.scope.names.lookup x = some .cell)
    (hk : d.scope.kind = .function) (hco : d.scope.isCoroutine = false) (hgen : d.scope.isGenerator = false)
    (body : ∀ (w : World) (s₀ s₁ s : Shared) (mg mb : Str → Option Value) (fa : Addr) (o : Obj) (pm cd doc : Value) (a : Addr) (vs : List Value) (ns : List Int),
      Ground q loose [] XP w s₀ mg mb s₁.heap → YP w s₁.heap →
      s₁.heap.get? fa = some o → o.data = .func (docDef d.name d.params d.body d.scope pm cd doc) → s₁.heap.CodeRec cd d.name → mg d.name = some (.ref fa) →
      s₁.heap.get? a = some { cls := .type "list", data := .seq vs.toArray } → IntsAre vs ns → ns.length ≤ n →
      s.gens = #[] → s.os = s₁.os →
      Fr s₁.heap s₁.heap.objs.size s.heap (bindL (envOfC d.name d.scope s₁.heap.objs.size fa cd).kindOf [(x, .ref a)] fun _ => none) →
      Cl s₁.heap.objs.size (cellsFrom (s₁.heap.objs.size + 1) d.scope.names []) s.heap (bindC (envOfC d.name d.scope s₁.heap.objs.size fa cd).kindOf [(x, .ref a)] fun _ => none) →
      wpAny (model l.prog w) (callerA.deeper (envOfC d.name d.scope s₁.heap.objs.size fa cd)) (execs d.body (envOfC d.name d.scope s₁.heap.objs.size fa cd))
        (fun f s' => f = .ret (.bool true) ∧ OldK s₁.heap s'.heap ∧ s'.os = s₁.os ∧ AllBare s'.gens) (fun _ _ => False) s) :
    WalkO q loose XP YP l.row.toRowW d [] (fun f vs => PySem.call f vs) := by
  intro w s₀ s₁ mg mb G Y fa o pm cd doc dV kV ho hd hcd hD hmg hg args vals as hpre hlay hrd hwl hlo
  obtain rfl : dV = .none := Dflts.none hD hdf
  obtain rfl : kV = .none := Dflts.noKw hD
  obtain ⟨a, vs, ns, rfl, rfl, hobj, hints, hlen⟩ := script_of hn hpre hwl
  refine enter_call ?_
  refine call_cells_ret (o := o) (by rw [depth_caller]; decide) ho (fd_plain hd) G.T.nolimit hcd (hbind pm cd doc (.ref a)) (fun y hy => ?_) (fun h₁ tk F X => ?_) hco hgen hk
  · obtain rfl : y = (x, Value.ref a) := List.mem_singleton.mp hy
    rcases hx with e | e
    · exact .inl e
    · exact .inr ⟨e, cellsFrom_some _ _ _ (.inl e)⟩
  · refine wpAny_mono (body w s₀ s₁ { s₁ with heap := h₁, toks := tk } mg mb fa o pm cd doc a vs ns G Y ho (fd_plain hd) hcd hmg hobj hints hlen hg rfl F X) (fun f s' hq => ?_) (fun _ _ hq => hq)
    obtain ⟨rfl, h2, h3, h4⟩ := hq
    exact ⟨.inl ⟨.bool true, .bool true, [], rfl, fun _ => rfl, .bool true, post_true l _, fun _ => ⟨List.Pairwise.nil, fun _ hm => (nomatch hm)⟩⟩, h2, h3, h4⟩

/-- the same from a codeAny of the CALL (for a layer whose function contracts speak of calls) -/
theorem attach_call {l : OpenLaw} {n : Nat} {q : Program} {loose : List Str} {XP : (Str → Option Value) → Heap → Prop} {YP : World → Heap → Prop} {d : DefRec}
    (hn : l.most = some n) (hdf : d.params.defaults = [])
    (call : ∀ (w : World) (s₀ s₁ : Shared) (mg mb : Str → Option Value) (fa : Addr) (o : Obj) (pm cd doc : Value) (a : Addr) (vs : List Value) (ns : List Int),
      Ground q loose [] XP w s₀ mg mb s₁.heap → YP w s₁.heap →
      s₁.heap.get? fa = some o → o.data = .func (docDef d.name d.params d.body d.scope pm cd doc) → s₁.heap.CodeRec cd d.name → mg d.name = some (.ref fa) →
      s₁.heap.get? a = some { cls := .type "list", data := .seq vs.toArray } → IntsAre vs ns → ns.length ≤ n → s₁.gens = #[] →
      codeAny (model l.prog w) callerA (.call (.ref fa) ⟨[.ref a], []⟩) (fun r s' => r = .ok (.ret (.bool true)) ∧ OldK s₁.heap s'.heap ∧ s'.os = s₁.os ∧ AllBare s'.gens) s₁) :
    WalkO q loose XP YP l.row.toRowW d [] (fun f vs => PySem.call f vs) := by
  intro w s₀ s₁ mg mb G Y fa o pm cd doc dV kV ho hd hcd hD hmg hg args vals as hpre hlay hrd hwl hlo
  obtain rfl : dV = .none := Dflts.none hD hdf
  obtain rfl : kV = .none := Dflts.noKw hD
  obtain ⟨a, vs, ns, rfl, rfl, hobj, hints, hlen⟩ := script_of hn hpre hwl
  refine enter_call (codeAny_mono (call w s₀ s₁ mg mb fa o pm cd doc a vs ns G Y ho (fd_plain hd) hcd hmg hobj hints hlen hg) fun r s' hq => ?_)
  obtain ⟨rfl, h2, h3, h4⟩ := hq
  exact ⟨.inl ⟨.bool true, .bool true, [], rfl, fun _ => rfl, .bool true, post_true l _, fun _ => ⟨List.Pairwise.nil, fun _ hm => (nomatch hm)⟩⟩, h2, h3, h4⟩

/-- the same where the top left finished generators (o_head chose holds_openN): nothing may have changed at all and no generator may be left -/
theorem attachN {l : OpenLaw} {n : Nat} {q : Program} {loose : List Str} {XP : (Str → Option Value) → Heap → Prop} {YP : World → Heap → Prop} {d : DefRec} {x : Str}
    (hn : l.most = some n) (hdf : d.params.defaults = [])
    (hbind : ∀ pm cd doc v : Value, bindArgs (docDef d.name d.params d.body d.scope pm cd doc) ⟨[v], []⟩ = pure [(x, v)])
    (hx : d.scope.names.lookup x = some .local ∨ d.scope.names.lookup x = some .cell)
    (hk : d.scope.kind = .function) (hco : d.scope.isCoroutine = false) (hgen : d.scope.isGenerator = false)
    (body : ∀ (w : World) (s₀ s₁ s : Shared) (mg mb : Str → Option Value) (fa : Addr) (o : Obj) (pm cd doc : Value) (a : Addr) (vs : List Value) (ns : List Int),
      Ground q loose [] XP w s₀ mg mb s₁.heap → YP w s₁.heap →
      s₁.heap.get? fa = some o → o.data = .func (docDef d.name d.params d.body d.scope pm cd doc) → s₁.heap.CodeRec cd d.name → mg d.name = some (.ref fa) →
      s₁.heap.get? a = some { cls := .type "list", data := .seq vs.toArray } → IntsAre vs ns → ns.length ≤ n →
      s.gens = #[] → s.os = s₁.os →
      Fr s₁.heap s₁.heap.objs.size s.heap (bindL (envOfC d.name d.scope s₁.heap.objs.size fa cd).kindOf [(x, .ref a)] fun _ => none) →
      Cl s₁.heap.objs.size (cellsFrom (s₁.heap.objs.size + 1) d.scope.names []) s.heap (bindC (envOfC d.name d.scope s₁.heap.objs.size fa cd).kindOf [(x, .ref a)] fun _ => none) →
      wpAny (model l.prog w) (callerA.deeper (envOfC d.name d.scope s₁.heap.objs.size fa cd)) (execs d.body (envOfC d.name d.scope s₁.heap.objs.size fa cd))
        (fun f s' => f = .ret (.bool true) ∧ (∀ b o, s₁.heap.get? b = some o → s'.heap.get? b = some o) ∧ s'.os = s₁.os ∧ s'.gens = #[]) (fun _ _ => False) s) :
    WalkN q loose XP YP l.row.toRowW d [] (fun f vs => PySem.call f vs) := by
  intro w s₀ s₁ mg mb G Y fa o pm cd doc dV kV ho hd hcd hD hmg hg args vals as hpre hlay hrd hwl hlo
  obtain rfl : dV = .none := Dflts.none hD hdf
  obtain rfl : kV = .none := Dflts.noKw hD
  obtain ⟨a, vs, ns, rfl, rfl, hobj, hints, hlen⟩ := script_of hn hpre hwl
  refine enter_callW ?_
  refine call_cells_ret (o := o) (by rw [depth_caller]; decide) ho (fd_plain hd) G.T.nolimit hcd (hbind pm cd doc (.ref a)) (fun y hy => ?_) (fun h₁ tk F X => ?_) hco hgen hk
  · obtain rfl : y = (x, Value.ref a) := List.mem_singleton.mp hy
    rcases hx with e | e
    · exact .inl e
    · exact .inr ⟨e, cellsFrom_some _ _ _ (.inl e)⟩
  · refine wpAny_mono (body w s₀ s₁ { s₁ with heap := h₁, toks := tk } mg mb fa o pm cd doc a vs ns G Y ho (fd_plain hd) hcd hmg hobj hints hlen hg rfl F X) (fun f s' hq => ?_) (fun _ _ hq => hq)
    obtain ⟨rfl, h2, h3, h4⟩ := hq
    exact ⟨.inl ⟨.bool true, .bool true, [], rfl, fun _ => rfl, .bool true, post_true l _, fun _ => ⟨List.Pairwise.nil, fun _ hm => (nomatch hm)⟩⟩, h2, h3, h4⟩

/-! ### rules over ANY heap (no ledger) from facts about the written part K: the library's own take a ledger (News) for what they write -/
section
variable {prog : Program} {w : World} {A : Around} {E : Value → Shared → Prop} {s : Shared} {K : Frag}

/-- a def of the module, or a method (qual 'C.m'), entered: the frame is the next address; cells behind it -/
theorem call_fn {R : Result → Shared → Prop} {name qual : Str} {params : Arguments} {body : List Stmt} {scope : Scope} {dV kV doc pm cdv ct oc : Value} {an od : Option Addr} {osl : Array (Option Value)} {f : Addr} {args : Args} {binds : List (Str × Value)}
    (X : K.In s.heap) (hlim : s.heap.NoLimit) (ho : K.lookup f = some ⟨oc, od, .func (fnOf name qual params body scope dV kV doc pm an cdv ct), osl⟩) (hcd : codeIn K cdv qual = true) (hroom : A.depth < recursionLimit)
    (hbind : BindsTo s (fnOf name qual params body scope dV kV doc pm an cdv ct) args binds)
    (hkind : (binds.all fun y => scope.names.lookup y.1 == some .local || scope.names.lookup y.1 == some .cell) = true)
    (h : ∀ s₁, InCallC s s.heap.objs.size (bindL (envOfC qual scope s.heap.objs.size f cdv).kindOf binds fun _ => none) (cellsFrom (s.heap.objs.size + 1) scope.names [])
        (bindC (envOfC qual scope s.heap.objs.size f cdv).kindOf binds fun _ => none) s₁ →
      wpAny (model prog w) (A.deeper (envOfC qual scope s.heap.objs.size f cdv)) (execs body (envOfC qual scope s.heap.objs.size f cdv))
        (fun fl s' => R (.ok (.ret (match fl with | .ret v => v | _ => .none))) s')
        (fun e s' => wpAny (model prog w) (A.deeper (envOfC qual scope s.heap.objs.size f cdv)) (leaving (envOfC qual scope s.heap.objs.size f cdv) e) (fun _ s'' => R (.error e) s'') (fun e' s'' => R (.error e') s'') s') s₁)
    (hco : scope.isCoroutine = false) (hgen : scope.isGenerator = false) (hk : scope.kind = .function) : codeAny (model prog w) A (.call (.ref f) args) R s := by
  refine codeAny_call_function hroom (X _ _ ho) rfl hco hgen rfl (codeRec_of X hcd) (hbind _ _ _ _ ?_)
  refine wpAny_newFunctionEnv_cells hk (kindsX hkind _) fun env he s₁ x => ?_
  subst he
  exact ⟨hlim.keeps x.toInCall.keep, codeAny_func (h s₁ x)⟩

/-- C(..): dict at size, instance at size + 1, then __init__ -/
theorem make_obj {R : Result → Shared → Prop} {C fI : Addr} {rest : List Value} {kw : List (Str × Value)}
    (X : K.In s.heap) (hm : makesIn K C = true) (hi : findIn K (.ref C) "__init__" = some (some (.ref fI))) (hf : isFn K (.ref fI) = true)
    (h : codeAny (model prog w) (A.under (.builtin "type.__call__" ⟨.ref C :: rest, kw⟩)) (.call (.ref fI) ⟨.ref (s.heap.objs.size + 1) :: rest, kw⟩) (InitBack (s.heap.objs.size + 1) R)
      { s with heap := (s.heap.push emptyDict).push (instObj C s.heap.objs.size) }) : codeAny (model prog w) A (.call (.ref C) ⟨rest, kw⟩) R s := by
  obtain ⟨hh, g, d, t, os⟩ := s
  exact make_core (makes_of X hm) (looks_findIn X hi) (fun self => bind_fn X self (beq_iff_eq.mp hf)) (.inl rfl) h

/-- x.name where the instance's dict holds the name and the class does not -/
theorem get_field {x C : Addr} {ox : Obj} {es : List DictEntry} {n : Nat} {name : Str} {expr : Bool} {v : Value} {Q : Value → Shared → Prop}
    (X : K.In s.heap) (I : PySem.W.InstAt s.heap x ox C (some (dictOf es n))) (hg : plainGet K C name = true) (hh : hasDictIn K C = true) (ha : findIn K (.ref C) name = some none)
    (hl : getL name es = some (some v)) (hv : handedIn v = true) (h : Q v { s with toks := s.toks + 1 }) : wpAny (model prog w) A (getAttr (.ref x) name expr) Q E s :=
  get_value X I (plainGet_of hg).1 (findObj_own hh ha rfl hl) hv h

/-- x.m(..): the method found in the class -/
theorem get_method {x C f : Addr} {ox : Obj} {es : List DictEntry} {n : Nat} {name : Str} {pl : Sem Bool} {Q : Value × List Value → Shared → Prop}
    (X : K.In s.heap) (I : PySem.W.InstAt s.heap x ox C (some (dictOf es n))) (hg : plainGet K C name = true) (hf : findIn K (.ref C) name = some (some (.ref f))) (ht : isFn K (.ref f) = true)
    (hl : getL name es = some none) (h : Q (.ref f, [.ref x]) s) : wpAny (model prog w) A (getMethod (.ref x) name pl) Q E s :=
  method_fn X I (plainGet_of hg).1 (plainGet_of hg).2 hf (beq_iff_eq.mp ht) (by show (lookIn name (dictOf es n)).map _ = _; rw [lookIn_dict, hl]; rfl) h

/-! the whole heap as the ledger: makes every rule that writes through a ledger a rule over any heap -/
def noObjs (h : Heap) : Heap := { h with objs := #[] }
theorem noObjs_get (h : Heap) (b : Addr) : (noObjs h).get? b = none := by
  cases e : (noObjs h).get? b with
  | none => rfl
  | some o => exact absurd (Heap.lt_size e) (Nat.not_lt_zero _)
def ledger (h : Heap) (L d : Addr) : List (Addr × Obj) := (List.range h.objs.size).filterMap fun a => if a = L ∨ a = d then none else (h.get? a).map fun o => (a, o)
theorem mem_ledger {h : Heap} {L d a : Addr} {o : Obj} : (a, o) ∈ ledger h L d ↔ a ≠ L ∧ a ≠ d ∧ h.get? a = some o := by
  unfold ledger
  rw [List.mem_filterMap]
  constructor
  · rintro ⟨b, _, e⟩
    split at e
    · cases e
    · rename_i hb
      obtain ⟨o', ho, e'⟩ := Option.map_eq_some_iff.mp e
      cases e'
      exact ⟨fun q => hb (.inl q), fun q => hb (.inr q), ho⟩
  · rintro ⟨n1, n2, ho⟩
    refine ⟨a, List.mem_range.mpr (Heap.lt_size ho), ?_⟩
    rw [if_neg (show ¬ (a = L ∨ a = d) from fun q => q.elim n1 n2), ho] <;> rfl
theorem news_ledger {h : Heap} {L d : Addr} {od : Obj} (hne : d ≠ L) (ho : h.get? d = some od) : News (noObjs h) L h ([] ++ (d, od) :: ledger h L d) := by
  rintro ⟨a, o⟩ hp
  rcases List.mem_cons.mp hp with e | hp
  · cases e
    exact ⟨ho, hne, noObjs_get _ _⟩
  · obtain ⟨n1, n2, e⟩ := mem_ledger.mp hp
    exact ⟨e, n1, noObjs_get _ _⟩
theorem fr_all {h : Heap} {L : Addr} {m : Str → Option Value} (n : h.Ns L m) : Fr (noObjs h) L h m :=
  ⟨n, fun b o e => (by rw [noObjs_get] at e; cases e), Nat.zero_le _⟩
/-- Upd of the head entry (for append_K, setItem_K ..) -/
theorem upd_ledger {h : Heap} {L d : Addr} {o o' : Obj} : Upd d o o' ((d, o) :: ledger h L d) ((d, o') :: ledger h L d) :=
  .head fun ⟨_, _⟩ hp => (mem_ledger.mp hp).2.1

/-- x.name = v over any heap: L is any namespace of the heap (the frame's, say): its map stays, its object is not told; all else but the dict stays -/
theorem set_field {x C dx L : Addr} {ox : Obj} {m : Str → Option Value} {es es' : List DictEntry} {n n' : Nat} {name : Str} {v : Value} {Q : Unit → Shared → Prop}
    (X : K.In s.heap) (I : PySem.W.InstAt s.heap x ox C (some (dictOf es n))) (hd : ox.dict = some dx) (hL : s.heap.Ns L m) (hne : dx ≠ L)
    (hs : findIn K (.ref C) "__setattr__" = some (some (.builtin "object.__setattr__"))) (hp : plainOver K C = true) (ht : takerIn K C name = some none) (hh : hasDictIn K C = true) (hl : (getL name es).isSome = true)
    (e : (putL name (PyData.keyHash w.params name) (.str name (s.toks + 1)) v es, putN name es n) = (es', n')) (hz : es'.length ≤ 1000)
    (h : ∀ h' : Heap, h'.Ns L m → h'.get? dx = some (dictOf es' n') → (∀ b o, b ≠ dx → b ≠ L → s.heap.get? b = some o → h'.get? b = some o) → Q () { s with heap := h', toks := s.toks + 2 }) :
    wpAny (model prog w) A (setAttr (.ref x) name v) Q E s := by
  obtain ⟨e1, e2⟩ := Prod.mk.inj e
  have hdx : s.heap.get? dx = some (dictOf es n) := by
    have := I.dict
    rw [hd] at this
    exact this
  refine set_plain X I hs (osa_dict (s := { s with toks := s.toks + 1 }) (h₀ := noObjs s.heap) (L := L) (m := m) (od := dictOf es n) (od' := dictOf es' n') (es := es') (n := n') (pre := []) (post := ledger s.heap L dx)
    (fr_all hL) (news_ledger hne hdx) X I hd hp ht hh hl (fun _ q => nomatch q) (fun ⟨_, _⟩ q => (mem_ledger.mp q).2.1) (by rw [putName_dict, e1, e2]) rfl hz fun h' F' N' => ?_)
  exact h h' F'.ns (N'.get (List.Mem.head _)) fun b o n1 n2 ho => N'.get (List.Mem.tail _ (mem_ledger.mpr ⟨n2, n1, ho⟩))
end
end Att

namespace L2
open PySem PySem.Spec PyProof.Rows

theorem vals_ints : ∀ {vs : List Value} {ns : List Int}, IntsAre vs ns → Vals (ns.map V.int) vs
  | _, _, .nil => .nil
  | _, _, .cons n t h => .cons ⟨t, rfl⟩ (vals_ints h)

/-- nothing is tracked but the script, known to the object (or it is an object of the module) -/
def Only (H : Hp) : Prop := ∀ b, H b = none ∨ ∃ o xs, H b = some (.frz o (.lst xs))

/-- THE HEAD: the law's promise, at the heap behind the top. F, the promise of the law's def, may use that base is part of the heap (so K.In base, base.Ns mainGlobals mg stand in Mod) -/
theorem law_call {P : Program} {w : World} {K : PySem.W.Frag} {mg mb : Str → Option Value} {CX : CXT} {k : Nat} {fa a : Addr} {fd : FuncData} {x : Str} {sp : Sp} {s₁ : Shared} {vs : List Value} {ns : List Int}
    (KX : K.In s₁.heap) (hns : s₁.heap.Ns mainGlobals mg) (hb : s₁.heap.Ns builtinsNs mb) (hbb : ∀ x : Str, x ≠ "__name__" → mb x = bootBuiltins x) (hlim : s₁.heap.NoLimit) (hg : s₁.gens = #[])
    (ha : s₁.heap.get? a = some { cls := .type "list", data := .seq vs.toArray }) (hi : IntsAre vs ns) (hl : ns.length ≤ sizeLine) (hr : Room k callerA)
    (F : ∀ base : Heap, K.In base → base.Ns mainGlobals mg → FnOk P w K mg base CX k fa fd [x] sp) (hbind : ∀ (s : Shared) (u : Value), BindsTo s fd ⟨[u], []⟩ [(x, u)])
    (hsp : ∀ H : Hp, Only H → SqL K H a (ns.map V.int) → sp [.ref a] H (fun v _ => v = .bl true) fun _ _ _ => False)
    (hCX : ∀ H e s', CX [] H s₁ (fun _ _ _ => False) e s' → False) :
    codeAny (model P w) callerA (.call (.ref fa) ⟨[.ref a], []⟩) (fun r s' => r = .ok (.ret (.bool true)) ∧ OldK s₁.heap s'.heap ∧ s'.os = s₁.os ∧ AllBare s'.gens) s₁ := by
  have rv := vals_ints hi
  have lenV := hi.length
  -- from an abstract heap in which nothing but the script may be tracked
  have core : ∀ H : Hp, Only H → SqL K H a (ns.map V.int) → HOk P w H s₁.heap → (∀ b, H b ≠ none → b = a) → (H a ≠ none → K.lookup a = none) →
      codeAny (model P w) callerA (.call (.ref fa) ⟨[.ref a], []⟩) (fun r s' => r = .ok (.ret (.bool true)) ∧ OldK s₁.heap s'.heap ∧ s'.os = s₁.os ∧ AllBare s'.gens) s₁ := by
    intro H hO hS hok hA hK
    have base_of : ∀ {b : Addr} {o : Obj}, s₁.heap.get? b = some o → H b = none → (hidT s₁.heap H).get? b = some o := fun e n => hidT_get e n
    have noA : ∀ {b : Addr} {o : Obj} {es : Array DictEntry} {ep : Nat}, s₁.heap.get? b = some o → o.data = .dict es ep → H b = none := fun {b o es ep} e d => by
      cases q : H b with
      | none => rfl
      | some u =>
        have e' : b = a := hA b (by rw [q]; simp)
        subst e'
        rw [ha] at e; cases e
        have d' : Data.seq vs.toArray _ = Data.dict es ep := d
        cases d'
    have nsK : ∀ {b : Addr} {m : Str → Option Value}, s₁.heap.Ns b m → (hidT s₁.heap H).Ns b m := fun {b m} ⟨o, es, ep, e, d, r⟩ => ⟨o, es, ep, base_of e (noA e d), d, r⟩
    have hKb : K.In (hidT s₁.heap H) := fun b o e => base_of (KX b o e) (by
      cases q : H b with
      | none => rfl
      | some u =>
        have e' : b = a := hA b (by rw [q]; simp)
        subst e'
        rw [hK (by rw [q]; simp)] at e; cases e)
    have hM : Mod K mg (hidT s₁.heap H) := ⟨hKb, nsK hns, ⟨mb, nsK hb, hbb⟩, let ⟨mc, h1, h2⟩ := hlim; ⟨mc, nsK h1, h2⟩⟩
    have e0 : Env0 P w K mg (hidT s₁.heap H) callerA [] s₁ H := ⟨rfl, hM, fun b o e => of_hidT e, Nat.le_of_eq (hidT_size _ _), trivial, fun b hb => absurd (show b ∈ ([] : List Addr) from hb) (by simp), hok, .of_eq hg⟩
    refine codeAny_mono ((F _ hKb (nsK hns)).run callerA [] s₁ H ⟨[.ref a], []⟩ [.ref a] [.ref a] _ _ hr e0 (hbind s₁ (.ref a)) (.cons rfl .nil) (hsp H hO hS)) fun r s' h => ?_
    cases r with
    | error e => exact (hCX H e s' h).elim
    | ok fl =>
      cases fl with
      | next => exact False.elim h
      | brk => exact False.elim h
      | cont => exact False.elim h
      | ret u =>
        obtain ⟨v, H', os, bare, un, hok', r', q⟩ := h
        have q' : v = .bl true := q
        subst q'
        obtain rfl : u = Value.bool true := r'
        refine ⟨rfl, OldK.of_keep fun b o e => ?_, os, bare⟩
        cases q : H b with
        | none => exact un.keep b o e q (by intro z; exact absurd (show b ∈ ([] : List Addr) from z) (by simp)) (by simp)
        | some u =>
          rcases hO b with z | ⟨ob, xs, z⟩
          · rw [q] at z; cases z
          · have z2 := un.frzs b ob _ z
            obtain ⟨e1, _⟩ := hok b _ z
            obtain ⟨e2, _⟩ := hok' b _ z2
            rw [e] at e1; cases e1
            exact e2
  cases hk : K.lookup a with
  | some o =>
    -- the script is one of the module's own objects
    have e := KX a o hk
    rw [ha] at e
    cases e
    refine core (fun _ => none) (fun _ => .inl rfl) (.inr ⟨_, vs.toArray, _, hk, rfl, rfl, rfl, by rw [List.size_toArray, lenV]; exact hl, by simpa using rv⟩) (fun b u z => by have z' : (none : Option HO) = some u := z; cases z') (fun b z => absurd rfl z) fun z => absurd rfl z
  | none =>
    refine core (fun b => if b = a then some (.frz { cls := .type "list", data := .seq vs.toArray } (.lst (ns.map V.int))) else none) (fun b => ?_) (.inl (.inr ⟨{ cls := .type "list", data := .seq vs.toArray }, if_pos rfl⟩)) (fun b u z => ?_) (fun b z => ?_) fun _ => hk
    · by_cases hb : b = a
      · exact .inr ⟨_, _, if_pos hb⟩
      · exact .inl (if_neg hb)
    · by_cases hb : b = a
      · have z' := (if_pos hb).symm.trans z
        cases z'
        subst hb
        exact ⟨ha, by rw [List.length_map]; exact hl, vs, _, rv, ha⟩
      · have z' := (if_neg hb).symm.trans z
        cases z'
    · by_cases hb : b = a
      · exact hb
      · exact absurd (if_neg hb) z
end L2

namespace L2
open PySem PySem.Spec PyProof.Rows

abbrev KOf {K : PySem.W.Frag} {h : Heap} (_ : K.In h) : PySem.W.Frag := K

/-- the goal that k_head leaves (case hc), from the law's promise. F gives the function object fd (K's own) once, then the promise over every base -/
theorem walk_of {l : PySem.W.OpenLaw} {n k : Nat} {q : Program} {loose : List Str} {XP : (Str → Option Value) → Heap → Prop} {YP : World → Heap → Prop} {d : DefRec} {K : Params → PySem.W.Frag} {CX : World → CXT} {sp : World → Sp} {x : Str}
    (hn : l.most = some n) (hn2 : n ≤ sizeLine) (hdf : d.params.defaults = []) (hr : Room k callerA)
    (hY : ∀ (w : World) (h : Heap), YP w h → (K w.params).In h)
    (F : ∀ (w : World) (mg : Str → Option Value) (fa : Addr) (h : Heap), (K w.params).In h → h.Ns mainGlobals mg → mg d.name = some (.ref fa) →
      ∃ fd : FuncData, (∀ (s : Shared) (u : Value), BindsTo s fd ⟨[u], []⟩ [(x, u)]) ∧
        ∀ base : Heap, (K w.params).In base → base.Ns mainGlobals mg → FnOk l.prog w (K w.params) mg base (CX w) k fa fd [x] (sp w))
    (hsp : ∀ (w : World) (H : Hp) (a : Addr) (ns : List Int), ns.length ≤ n → Only H → SqL (K w.params) H a (ns.map V.int) → sp w [.ref a] H (fun v _ => v = .bl true) fun _ _ _ => False)
    (hCX : ∀ (w : World) (H : Hp) (s : Shared) (e : Value) (s' : Shared), CX w [] H s (fun _ _ _ => False) e s' → False) :
    PySem.W.WalkO q loose XP YP l.row.toRowW d [] (fun f vs => PySem.call f vs) := by
  refine Att.attach_call hn hdf fun w s₀ s₁ mg mb fa o pm cd doc a vs ns G Y ho hd hcd hmg hobj hints hlen hg => ?_
  have KX := hY w _ Y
  obtain ⟨fd, hb, hF⟩ := F w mg fa _ KX G.T.g hmg
  exact law_call KX G.T.g G.T.b G.T.builtins G.T.nolimit hg hobj hints (Nat.le_trans hlen hn2) hr hF hb (fun H hO hS => hsp w H a ns hlen hO hS) fun H e s' => hCX w H s₁ e s'
/-- the same where the promise hangs on the written part alone: (sp := My.sp_law), no hole under a binder -/
theorem walk_ofK {l : PySem.W.OpenLaw} {n k : Nat} {q : Program} {loose : List Str} {XP : (Str → Option Value) → Heap → Prop} {YP : World → Heap → Prop} {d : DefRec} {K : Params → PySem.W.Frag} {CX : CXT} {sp : PySem.W.Frag → Sp} {x : Str}
    (hn : l.most = some n) (hn2 : n ≤ sizeLine) (hdf : d.params.defaults = []) (hr : Room k callerA)
    (hY : ∀ (w : World) (h : Heap), YP w h → (K w.params).In h)
    (F : ∀ (w : World) (mg : Str → Option Value) (fa : Addr) (h : Heap), (K w.params).In h → h.Ns mainGlobals mg → mg d.name = some (.ref fa) →
      ∃ fd : FuncData, (∀ (s : Shared) (u : Value), BindsTo s fd ⟨[u], []⟩ [(x, u)]) ∧
        ∀ base : Heap, (K w.params).In base → base.Ns mainGlobals mg → FnOk l.prog w (K w.params) mg base CX k fa fd [x] (sp (K w.params)))
    (hsp : ∀ (K : PySem.W.Frag) (H : Hp) (a : Addr) (ns : List Int), ns.length ≤ n → Only H → SqL K H a (ns.map V.int) → sp K [.ref a] H (fun v _ => v = .bl true) fun _ _ _ => False)
    (hCX : ∀ (H : Hp) (s : Shared) (e : Value) (s' : Shared), CX [] H s (fun _ _ _ => False) e s' → False) :
    PySem.W.WalkO q loose XP YP l.row.toRowW d [] (fun f vs => PySem.call f vs) :=
  walk_of (K := K) (CX := fun _ => CX) (sp := fun w => sp (K w.params)) hn hn2 hdf hr hY F (fun w H a ns h1 h2 h3 => hsp (K w.params) H a ns h1 h2 h3) fun _ H s e s' => hCX H s e s'
end L2

/- THE LAST THEOREM (shape; LID, My.* are yours):
   My.Adr: a structure of the addresses that your layer names (classes, functions); My.Txt K t: a structure (Prop) of the equations over K;
   My.txt_mk : {K} {implicit addresses ..} (e1 : nsIn K mainGlobals "law" = some (some (.ref f))) (e2 : K.lookup f = some ⟨oc, od, .func (fnOf "law" "law" params body scope dV kV doc pm an cdv ct), sl⟩) (e3 : codeIn K cdv "law" = true) .. : ∃ t, My.Txt K t

set_option maxRecDepth 100000 in
set_option maxHeartbeats 0 in
theorem PySem.Challenge.cw_LID_holds : PySem.Challenge.rw_LID.Holds := by
  w_on; o_law; k_head; (case hw => w_witness2)
  k_fill
  refine L2.walk_of (l := PySem.Challenge.rw_LID) (n := 63) (k := 40) (x := "script") (CX := fun w => ..) (sp := fun _ => My.sp_law) rfl (by decide) rfl ⟨rfl, by decide, by decide⟩ (fun w h Y => PySem.W.kIn_of Y) ?F ?S ?C
  case F =>
    intro w mg fa h KX G hmg
    have T : ∃ t, My.Txt (L2.KOf KX) t := by
      dsimp only [L2.KOf]                          -- K must stand as «<heap const> w.params» for k_is
      refine' My.txt_mk ?e1 ?e2 ?e3 ..
      (case e1 => PySem.W.k_is)                    -- in the order: a name -> its address -> its object -> its parts
      (case e2 => PySem.W.k_is)
      ..
    obtain ⟨t, T⟩ := T
    have e0 := hmg.symm.trans (PySem.W.mg_of KX G T.law)
    cases e0                                       -- fa is the law's own address
    exact ⟨_, fun s u => .of_eq rfl, fun base kb nb => My.law_fn T kb nb⟩     -- if «.of_eq rfl» comes too early: refine' ⟨_, ?b, fun base kb nb => My.law_fn T kb nb⟩; exact fun s u => .of_eq rfl
  case S => exact fun w H a ns hl hO hS => ..
  case C => exact ..
(the tactic k_is has no namespace: write k_is) -/

/-! SHORT WORDS over the layer: a def of the text, its body, what a loop and a test want. -/
namespace L2
open PySem PySem.Spec PyProof.Rows

/-! ### the text by places -/
/-- the j-th statement of a class's body -/
def inClass (s : Stmt) (j : Nat) : Stmt := match s with
  | .ClassDef _ _ _ body _ _ _ _ _ _ _ => body.getD j (.Pass ⟨0, 0, 0, 0⟩)
  | _ => .Pass ⟨0, 0, 0, 0⟩
def defArgs (s : Stmt) : Arguments := match s with
  | .FunctionDef _ a _ _ _ _ _ _ _ _ => a
  | _ => { posonlyargs := [], args := [], vararg := none, kwonlyargs := [], kw_defaults := [], kwarg := none, defaults := [] }
def defBody (s : Stmt) : List Stmt := match s with
  | .FunctionDef _ _ b _ _ _ _ _ _ _ => b
  | _ => []
def defScope (s : Stmt) : Scope := match s with
  | .FunctionDef _ _ _ _ _ _ sc _ _ _ => sc
  | _ => { kind := .function, names := [], isGenerator := false, isCoroutine := false }

/-! ### no exception leaves a def -/
abbrev CX0 : CXT := fun _ _ _ _ _ _ => False
abbrev E0 : XK := fun _ _ _ => False
theorem pass0 {X : Cx} : Passes CX0 X E0 := fun _ _ _ _ _ _ _ h => h.elim

/-! ### a def (or method) of the text as it stands behind the top -/
structure Fun (K : PySem.W.Frag) (x qual : Str) (st : Stmt) (f : Addr) (fd : FuncData) : Prop where
  ex : ∃ (oc : Value) (od : Option Addr) (kV doc pm : Value) (an : Option Addr) (cdv ct : Value) (osl : Array (Option Value)),
    fd = PySem.W.fnOf x qual (defArgs st) (defBody st) (defScope st) .none kV doc pm an cdv ct ∧ K.lookup f = some ⟨oc, od, .func fd, osl⟩ ∧ PySem.W.codeIn K cdv qual = true
  kp : PySem.W.keepIn K (.ref f) = true
section
variable {P : Program} {w : World} {K : PySem.W.Frag} {mg : Str → Option Value} {base : Heap}
/-- THE RULE for a def: its body as a term of rules, and the reading of that term -/
theorem Fun.ok {x qual : Str} {st : Stmt} {f : Addr} {fd : FuncData} {N ps : List Str} {k : Nat} {sp : Sp} (F : Fun K x qual st f fd) (S : FnScope N ps (defScope st)) (len : ∀ vs H Q E, sp vs H Q E → vs.length = ps.length)
    (hbody : ∀ (cdv : Value) (A : Around) (outer : List Env) (s : Shared) (H : Hp) (vs : List V) (Q : VK) (E : XK), Room k (A.deeper (envOfC qual (defScope st) s.heap.objs.size f cdv)) → sp vs H Q E →
      ∃ t, PSs (cxOf CX0 P w K mg base N qual (defScope st) f cdv A outer s H E).nox (defBody st) t ∧ t { nx := fun _ H' => Q .non H', rt := Q } (start N vs) H) : FnOk P w K mg base CX0 (k + 1) f fd ps sp := by
  obtain ⟨oc, od, kV, doc, pm, an, cdv, ct, osl, rfl, lk, hcd⟩ := F.ex
  refine fn_of lk hcd S len fun A outer s H vs Q E hr hsp => ?_
  obtain ⟨t, h, q⟩ := hbody cdv A outer s H vs Q E hr hsp
  exact ⟨t, h.nox, q⟩
/-- how its arguments bind (no defaults): h is «fun _ _ _ _ _ _ us hl => match us, hl with | [_, _], _ => rfl», one _ a parameter -/
theorem Fun.binds {x qual : Str} {st : Stmt} {f : Addr} {fd : FuncData} {ps : List Str} (F : Fun K x qual st f fd)
    (h : ∀ (kV doc pm : Value) (an : Option Addr) (cdv ct : Value) (us : List Value), us.length = ps.length → bindArgs (PySem.W.fnOf x qual (defArgs st) (defBody st) (defScope st) .none kV doc pm an cdv ct) ⟨us, []⟩ = pure (ps.zip us)) : Binds K fd ps [] := by
  obtain ⟨oc, od, kV, doc, pm, an, cdv, ct, osl, rfl, lk, hcd⟩ := F.ex
  exact .all (h kV doc pm an cdv ct)
theorem fun_mk {x qual : Str} {st : Stmt} {f : Addr} {oc : Value} {od an : Option Addr} {osl : Array (Option Value)} {kV doc pm cdv ct : Value} (l : K.lookup f = some ⟨oc, od, .func (PySem.W.fnOf x qual (defArgs st) (defBody st) (defScope st) .none kV doc pm an cdv ct), osl⟩)
    (c : PySem.W.codeIn K cdv qual = true) (k : PySem.W.keepIn K (.ref f) = true) : Fun K x qual st f (PySem.W.fnOf x qual (defArgs st) (defBody st) (defScope st) .none kV doc pm an cdv ct) := ⟨⟨oc, od, kV, doc, pm, an, cdv, ct, osl, rfl, l, c⟩, k⟩
end
theorem hu_of {A : Around} {k : Nat} (hr : Room k A) : A.units + 1 < cLine := Nat.lt_of_le_of_lt (Nat.add_le_add_left (by decide : 1 ≤ 64) _) hr.units
theorem small1000 {n : Nat} (h : n ≤ 1000) : n < sizeLine := Nat.lt_of_le_of_lt h (by decide)

/-! ### expressions in short: the name that stands in the i-th slot -/
section
variable {X : Cx}
theorem pv (i : Nat) {x : Str} {pos : Pos} (hN : X.N[i]? = some x := by rfl) (hv : Vis X.env.scope x := by first | exact Or.inl rfl | exact Or.inr (Or.inl rfl) | exact Or.inr (Or.inr rfl)) (hd : (x == ("__debug__" : Str)) = false := by decide)
    (hcd : (x == ("__classdict__" : Str)) = false := by decide) : PE X (.Name x pos) (tVar i) := pe_var hN hv hd hcd
/-- len of a dict -/
theorem call_lenD : CallR X (.builtin "len") (fun xs H Q => ∃ a kvs, xs = [V.ref a] ∧ H a = some (.dK kvs) ∧ Q (.int kvs.length) H) := by
  intro pins s σ H xs us Q I r h
  obtain ⟨a, kvs, rfl, ha, q⟩ := h
  obtain ⟨u, rfl, ru⟩ := vals1 r
  cases ru
  exact d_len I (.inl ha) fun t s' I' => ⟨.int kvs.length, H, I', ⟨t, rfl⟩, q⟩
end

/-! ### tests -/
theorem iteF {A B : Prop} (h : B) : if false = true then A else B := by
  rw [if_neg Bool.false_ne_true]
  exact h
theorem iteT {A B : Prop} (h : A) : if true = true then A else B := by
  rw [if_pos rfl]
  exact h
theorem ite2 {c A B : Prop} [Decidable c] (h1 : c → A) (h2 : ¬ c → B) : if c then A else B := by
  by_cases h : c
  · rw [if_pos h]
    exact h1 h
  · rw [if_neg h]
    exact h2 h
theorem iteNS {c A B : Prop} [Decidable c] (hc : c) (h : B) : if (!decide c) = true then A else B := by
  rw [decide_eq_true hc]
  exact iteF h

/-! ### heaps -/
/-- all that was tracked is as it was -/
def Same (H H' : Hp) : Prop := ∀ b o, H b = some o → H' b = some o
theorem Same.refl (H : Hp) : Same H H := fun _ _ h => h
theorem Same.trans {H H1 H2 : Hp} (a : Same H H1) (b : Same H1 H2) : Same H H2 := fun c o h => b c o (a c o h)
theorem Same.free {H H' : Hp} (e : Same H H') {l : Addr} (h : H' l = Option.none) : H l = Option.none := by
  cases q : H l with
  | none => rfl
  | some o =>
    rw [e l o q] at h
    cases h
theorem Same.seq {K : PySem.W.Frag} {H H' : Hp} {a : Addr} {xs : List V} (e : Same H H') (h : SqL K H a xs) : SqL K H' a xs := by
  rcases h with (h | ⟨o, h⟩) | h
  · exact .inl (.inl (e _ _ h))
  · exact .inl (.inr ⟨o, e _ _ h⟩)
  · exact .inr h

/-! ### a dict's pairs: keys that differ -/
section
variable {κ : Type} [DecidableEq κ]
theorem valV_not {kvs : List (κ × V)} {k : κ} (h : valV kvs k = none) : ¬ k ∈ kvs.map (·.1) := by
  intro m
  obtain ⟨p, hp, e⟩ := List.mem_map.mp m
  have q : (kvs.any fun kv => decide (kv.1 = k)) = true := List.any_eq_true.mpr ⟨p, hp, decide_eq_true e⟩
  rw [valV_any, h] at q
  exact absurd q (by simp)
theorem valV_in {kvs : List (κ × V)} {k : κ} {v : V} (h : valV kvs k = some v) : k ∈ kvs.map (·.1) := by
  have q : (kvs.any fun kv => decide (kv.1 = k)) = true := by
    rw [valV_any, h]
    all_goals rfl
  obtain ⟨p, hp, e⟩ := List.any_eq_true.mp q
  exact List.mem_map.mpr ⟨p, hp, of_decide_eq_true e⟩
theorem nd_snoc : ∀ {l : List κ} {k : κ}, l.Nodup → ¬ k ∈ l → (l ++ [k]).Nodup
  | [], k, _, _ => by simp
  | a :: r, k, h, hk => by
    obtain ⟨h1, h2⟩ := List.nodup_cons.mp h
    show (a :: (r ++ [k])).Nodup
    refine List.nodup_cons.mpr ⟨fun m => ?_, nd_snoc h2 fun m => hk (List.mem_cons.mpr (Or.inr m))⟩
    rcases List.mem_append.mp m with q | q
    · exact h1 q
    · exact hk (List.mem_cons.mpr (Or.inl (List.mem_singleton.mp q).symm))
theorem nd_putK {kvs : List (κ × V)} {k : κ} (v : V) (hn : (kvs.map (·.1)).Nodup) (h : valV kvs k = none) : ((putK kvs k v).map (·.1)).Nodup := by
  rw [putK_new v h, List.map_append]
  exact nd_snoc hn (valV_not h)
theorem dropK_pos {p : κ × V} {r : List (κ × V)} {k : κ} (e : p.1 = k) : dropK (p :: r) k = dropK r k := by
  unfold dropK
  rw [List.filter_cons, if_neg (by simp [e])]
theorem dropK_neg {p : κ × V} {r : List (κ × V)} {k : κ} (e : ¬ p.1 = k) : dropK (p :: r) k = p :: dropK r k := by
  unfold dropK
  rw [List.filter_cons, if_pos (by simp [e])]
theorem dropK_no : ∀ {kvs : List (κ × V)} {k : κ}, ¬ k ∈ kvs.map (·.1) → dropK kvs k = kvs
  | [], _, _ => rfl
  | p :: r, k, h => by
    have h' : ¬ k ∈ r.map (·.1) := fun m => by
      obtain ⟨q, hq, e⟩ := List.mem_map.mp m
      exact h (List.mem_map.mpr ⟨q, List.mem_cons.mpr (Or.inr hq), e⟩)
    rw [dropK_neg fun e => h (List.mem_map.mpr ⟨p, List.mem_cons.mpr (Or.inl rfl), e⟩), dropK_no h']
theorem dropK_mem {kvs : List (κ × V)} {k : κ} {p : κ × V} (h : p ∈ dropK kvs k) : p ∈ kvs := (List.mem_filter.mp h).1
theorem nd_dropK : ∀ {kvs : List (κ × V)} {k : κ}, (kvs.map (·.1)).Nodup → ((dropK kvs k).map (·.1)).Nodup
  | [], _, _ => List.nodup_nil
  | p :: r, k, h => by
    have h : (p.1 :: r.map (·.1)).Nodup := h
    obtain ⟨h1, h2⟩ := List.nodup_cons.mp h
    by_cases e : p.1 = k
    · rw [dropK_pos e]
      exact nd_dropK h2
    · rw [dropK_neg e]
      show (p.1 :: (dropK r k).map (·.1)).Nodup
      refine List.nodup_cons.mpr ⟨fun m => h1 ?_, nd_dropK h2⟩
      obtain ⟨q, hq, eq⟩ := List.mem_map.mp m
      exact List.mem_map.mpr ⟨q, dropK_mem hq, eq⟩
theorem dropK_len : ∀ {kvs : List (κ × V)} {k : κ}, (kvs.map (·.1)).Nodup → k ∈ kvs.map (·.1) → (dropK kvs k).length + 1 = kvs.length
  | [], _, _, m => by simp at m
  | p :: r, k, h, m => by
    have h : (p.1 :: r.map (·.1)).Nodup := h
    have m : k = p.1 ∨ k ∈ r.map (·.1) := List.mem_cons.mp m
    obtain ⟨h1, h2⟩ := List.nodup_cons.mp h
    by_cases e : p.1 = k
    · subst e
      rw [dropK_pos rfl, dropK_no h1]
      all_goals rfl
    · have m' : k ∈ r.map (·.1) := m.resolve_left fun z => e z.symm
      have q := dropK_len h2 m'
      rw [dropK_neg e, List.length_cons, List.length_cons]
      omega
end
end L2

/-! Comprehensions over the hand layer: [elt for tg in iter if test], from which no exception leaves. -/
set_option Elab.async false
set_option linter.all false
set_option maxRecDepth 100000
set_option maxHeartbeats 4000000
namespace L2
open PySem PySem.Spec PyProof.Rows

/-! ### the cells that a block closes over -/
def closOf (env : Env) : List (Str × NameKind) → List (Str × Addr) → List (Str × Addr)
  | [], acc => acc
  | (n, k) :: r, acc => closOf env r (if k == .free then (n, (env.cells.lookup n).getD 0) :: acc else acc)
theorem clos_for {env : Env} (f : Str × NameKind → List (Str × Addr) → Sem (ForInStep (List (Str × Addr))))
    (hf : ∀ n k cs, f (n, k) cs = if k == .free then (do let a ← cellOf env n; pure (.yield ((n, a) :: cs))) else pure (.yield cs)) :
    ∀ (l : List (Str × NameKind)) (acc : List (Str × Addr)), (∀ n, (n, NameKind.free) ∈ l → ∃ c, env.cells.lookup n = some c) → forIn l acc f = pure (closOf env l acc)
  | [], acc, _ => by rw [List.forIn_nil]; rfl
  | (n, k) :: r, acc, h => by
    have ih := clos_for f hf r
    have hr : ∀ m, (m, NameKind.free) ∈ r → ∃ c, env.cells.lookup m = some c := fun m hm => h m (List.mem_cons_of_mem _ hm)
    rw [List.forIn_cons, hf]
    unfold closOf
    by_cases hk : (k == NameKind.free) = true
    · have hk' : k = NameKind.free := by simpa using hk
      subst hk'
      obtain ⟨c, hc⟩ := h n List.mem_cons_self
      have e : cellOf env n = pure c := by unfold cellOf; rw [hc]
      rw [if_pos hk, if_pos hk, e, hc]
      simp only [pure_bind, Option.getD_some]
      exact ih _ hr
    · rw [if_neg hk, if_neg hk]
      simp only [pure_bind]
      exact ih _ hr
theorem clos_eq {scope : Scope} {env : Env} (h : ∀ n, (n, NameKind.free) ∈ scope.names → ∃ c, env.cells.lookup n = some c) : closureFor scope env = pure (closOf env scope.names []) := by
  simp only [closureFor]
  rw [clos_for (env := env) _ (fun n k cs => by cases hk : (k == NameKind.free) <;> simp [hk]) scope.names [] h]
  simp
theorem closOf_sub {env : Env} : ∀ (l : List (Str × NameKind)) (acc : List (Str × Addr)), (∀ n, (n, NameKind.free) ∈ l → ∃ c, env.cells.lookup n = some c) → (∀ n c, (n, c) ∈ acc → env.cells.lookup n = some c) →
    ∀ n c, (n, c) ∈ closOf env l acc → env.cells.lookup n = some c
  | [], _, _, ha, n, c, hm => ha n c hm
  | (x, k) :: r, acc, h, ha, n, c, hm => by
    have hr : ∀ m, (m, NameKind.free) ∈ r → ∃ c, env.cells.lookup m = some c := fun m hm => h m (List.mem_cons_of_mem _ hm)
    unfold closOf at hm
    refine closOf_sub r _ hr (fun m d hd => ?_) n c hm
    by_cases hk : (k == NameKind.free) = true
    · have hk' : k = NameKind.free := by simpa using hk
      subst hk'
      rw [if_pos hk] at hd
      rcases List.mem_cons.mp hd with e | hd
      · obtain ⟨c', hc'⟩ := h x List.mem_cons_self
        cases e
        rw [hc']; rfl
      · exact ha m d hd
    · rw [if_neg hk] at hd
      exact ha m d hd
theorem closOf_has {env : Env} : ∀ (l : List (Str × NameKind)) (acc : List (Str × Addr)) (n : Str), ((n, NameKind.free) ∈ l ∨ (acc.lookup n).isSome = true) → ((closOf env l acc).lookup n).isSome = true
  | [], _, _, h => h.elim (fun z => nomatch z) id
  | (x, k) :: r, acc, n, h => by
    unfold closOf
    refine closOf_has r _ n ?_
    have up : (acc.lookup n).isSome = true → ((if (k == NameKind.free) = true then (x, (env.cells.lookup x).getD 0) :: acc else acc).lookup n).isSome = true := fun z => by
      by_cases hk : (k == NameKind.free) = true
      · rw [if_pos hk, List.lookup_cons]
        cases n == x <;> simp [z]
      · rw [if_neg hk]; exact z
    rcases h with h | h
    · rcases List.mem_cons.mp h with e | h
      · right
        cases e
        rw [if_pos (by rfl), List.lookup_cons]
        simp
      · exact .inl h
    · exact .inr (up h)
theorem cellsFrom_app : ∀ (names : List (Str × NameKind)) (n : Nat) (acc : List (Str × Addr)), cellsFrom n names acc = cellsFrom n names [] ++ acc
  | [], _, _ => rfl
  | (x, k) :: r, n, acc => by
    unfold cellsFrom
    by_cases hk : (k == NameKind.cell) = true
    · rw [if_pos hk, if_pos hk, cellsFrom_app r (n + 1) ((x, n) :: acc), cellsFrom_app r (n + 1) [(x, n)], List.append_assoc]
      rfl
    · rw [if_neg hk, if_neg hk]
      exact cellsFrom_app r n acc
theorem cellsFrom_kind : ∀ (names : List (Str × NameKind)) (n : Nat) (acc : List (Str × Addr)) (x : Str) (c : Addr), (x, c) ∈ cellsFrom n names acc → (x, c) ∈ acc ∨ (x, NameKind.cell) ∈ names
  | [], _, _, _, _, h => .inl h
  | (y, k) :: r, n, acc, x, c, h => by
    unfold cellsFrom at h
    by_cases hk : (k == NameKind.cell) = true
    · have hk' : k = NameKind.cell := by simpa using hk
      subst hk'
      rw [if_pos hk] at h
      rcases cellsFrom_kind r _ _ x c h with h | h
      · rcases List.mem_cons.mp h with e | h
        · cases e; exact .inr List.mem_cons_self
        · exact .inl h
      · exact .inr (List.mem_cons_of_mem _ h)
    · rw [if_neg hk] at h
      rcases cellsFrom_kind r _ _ x c h with h | h
      · exact .inl h
      · exact .inr (List.mem_cons_of_mem _ h)

/-! ### a block's names -/
/-- names that are free here and cells of the function around are cells -/
def relabS (sc sup : Scope) : Scope :=
  { sc with names := sc.names.map fun (n, k) => if (k == .free && sup.kind == .function && sup.names.lookup n == some .cell) then (n, .cell) else (n, k) }
theorem relabel_eq (sc : Scope) (env : Env) : relabel sc env = relabS sc env.scope := rfl
/-- a block's own names come first (k of them), then the free ones, whose slots around are js -/
def cpOk (sup : Scope) (XN N : List Str) (k : Nat) (js : List Nat) (sc : Scope) : Bool :=
  sc.kind == .function && decide N.Nodup && decide (sc.names.map (·.1)).Nodup && (sc.names.all fun p => p.2 != .free || (sup.names.lookup p.1 == some .cell || sup.names.lookup p.1 == some .free)) &&
    N.length == k + js.length && ((N.drop k).zip js).all fun p => sc.names.lookup p.1 == some .free && XN[p.2]? == some p.1
structure CpScope (X : Cx) (N : List Str) (k : Nat) (js : List Nat) (sc : Scope) : Prop where
  kind : sc.kind = .function
  nd : N.Nodup
  nm : (sc.names.map (·.1)).Nodup
  fr : ∀ n, (n, NameKind.free) ∈ sc.names → X.env.kindOf n = some .cell ∨ X.env.kindOf n = some .free
  len : N.length = k + js.length
  at' : ∀ (i : Nat) (x : Str), N[k + i]? = some x → sc.names.lookup x = some .free ∧ ∃ j, js[i]? = some j ∧ X.N[j]? = some x
theorem cp_of {X : Cx} {sup : Scope} {XN N : List Str} {k : Nat} {js : List Nat} {sc : Scope} (hs : X.env.scope = sup) (hn : X.N = XN) (h : cpOk sup XN N k js sc = true) : CpScope X N k js sc := by
  subst hs hn
  unfold cpOk at h
  simp only [Bool.and_eq_true, decide_eq_true_eq, beq_iff_eq, List.all_eq_true] at h
  obtain ⟨⟨⟨⟨⟨h1, h2⟩, h3⟩, h4⟩, h5⟩, h6⟩ := h
  refine ⟨h1, h2, h3, fun n hn => ?_, h5, fun i x hi => ?_⟩
  · have q := h4 _ hn
    simp only [bne_self_eq_false, Bool.false_or, Bool.or_eq_true, beq_iff_eq] at q
    exact q
  · have hi' : (N.drop k)[i]? = some x := by rw [List.getElem?_drop]; exact hi
    have hl : k + i < N.length := (List.getElem?_eq_some_iff.mp hi).1
    have hj : i < js.length := by omega
    have hm : (x, js[i]) ∈ (N.drop k).zip js := by
      refine List.mem_iff_getElem?.mpr ⟨i, ?_⟩
      rw [List.getElem?_zip_eq_some]
      exact ⟨hi', by simp [hj]⟩
    have q := h6 _ hm
    exact ⟨q.1, js[i], by simp [hj], q.2⟩
theorem lookup_of_mem {α : Type} : ∀ {l : List (Str × α)} {x : Str} {v : α}, (l.map (·.1)).Nodup → (x, v) ∈ l → l.lookup x = some v
  | (y, u) :: r, x, v, nd, h => by
    rw [List.map_cons, List.nodup_cons] at nd
    rw [List.lookup_cons]
    rcases List.mem_cons.mp h with e | h
    · cases e; simp
    · have ne : x ≠ y := fun z => nd.1 (List.mem_map.mpr ⟨(x, v), h, z⟩)
      have hb : (x == y) = false := by simpa using ne
      rw [hb]
      exact lookup_of_mem nd.2 h
/-- the values of a block's names at its start -/
def blkSt (k : Nat) (js : List Nat) (σ : St) : St := List.replicate k none ++ js.map fun j => (σ[j]?).getD none

/-- the context of a block: frames, iterators and the acc are made ahead of it -/
def cxB (X : Cx) (N : List Str) (sc : Scope) (C : Addr) (cells : List (Str × Addr)) (fp : List Addr) (s : Shared) (H : Hp) : Cx where
  prog := X.prog
  w := X.w
  K := X.K
  mg := X.mg
  base := X.base
  A := X.A
  N := N
  s₀ := s
  H₀ := H
  env := { scope := relabS sc X.env.scope, locals := C, globals := X.env.globals, cells := cells, qual := X.env.qual, func := none, code := X.env.code, frame := X.env.frame, builtins := X.env.builtins }
  outer := X.stack
  stack := X.stack
  ex := fp
  fn := fun x => sc.names.lookup x == some .cell
  calm := X.calm
  pn := []
  xe := fun _ _ => False

section
variable {X : Cx} {pins : List (Addr × Obj)} {σ : St} {H : Hp} {s : Shared}

theorem lookup_relabS {sc sup : Scope} {x : Str} {k : NameKind} (h : (relabS sc sup).names.lookup x = some k) : sc.names.lookup x = some k ∨ (sc.names.lookup x = some .free ∧ k = .cell) := by
  unfold relabS at h
  dsimp only at h
  generalize sc.names = l at h ⊢
  induction l with
  | nil => simp at h
  | cons p r ih =>
    obtain ⟨n, kd⟩ := p
    rw [List.map_cons, List.lookup_cons] at h
    rw [List.lookup_cons]
    dsimp only at h
    by_cases hc : (kd == NameKind.free && sup.kind == ScopeKind.function && sup.names.lookup n == some NameKind.cell) = true
    · rw [if_pos hc] at h
      dsimp only at h
      cases hx : x == n with
      | true =>
        rw [hx] at h
        simp only [Bool.and_eq_true, beq_iff_eq] at hc
        right
        exact ⟨by rw [hc.1.1], (Option.some.inj h).symm⟩
      | false => rw [hx] at h; exact ih h
    · rw [if_neg hc] at h
      dsimp only at h
      cases hx : x == n with
      | true => rw [hx] at h; left; exact h
      | false => rw [hx] at h; exact ih h
theorem lookup_relabS_free {sc sup : Scope} {x : Str} (h : sc.names.lookup x = some .free) : (relabS sc sup).names.lookup x = some .cell ∨ (relabS sc sup).names.lookup x = some .free := by
  unfold relabS
  dsimp only
  generalize sc.names = l at h ⊢
  induction l with
  | nil => simp at h
  | cons p r ih =>
    obtain ⟨n, kd⟩ := p
    rw [List.lookup_cons] at h
    rw [List.map_cons]
    dsimp only
    by_cases hc : (kd == NameKind.free && sup.kind == ScopeKind.function && sup.names.lookup n == some NameKind.cell) = true
    · rw [if_pos hc, List.lookup_cons]
      cases hx : x == n with
      | true => left; rfl
      | false => rw [hx] at h; exact ih h
    · rw [if_neg hc, List.lookup_cons]
      cases hx : x == n with
      | true => rw [hx] at h; right; exact h
      | false => rw [hx] at h; exact ih h

/-- the block's start: the frame's dict and the own cells are laid -/
theorem Inv.block {N : List Str} {k : Nat} {js : List Nat} {sc : Scope} {fp : List Addr} (I : Inv X pins σ H s) (S : CpScope X N k js sc) (hf : ∀ b ∈ fp, FpOk X pins H b) (hfs : ∀ b ∈ fp, b < s.heap.objs.size) :
    Inv (cxB X N sc s.heap.objs.size (cellsFrom (s.heap.objs.size + 1) sc.names (closOf X.env sc.names [])) fp s H) [] (blkSt k js σ) H
      { s with heap := pushCells (s.heap.push { cls := .type "dict", data := .dict #[] }) sc.names } := by
  have hz : (s.heap.push { cls := .type "dict", data := .dict #[] }).objs.size = s.heap.objs.size + 1 := Heap.size_push ..
  have kp : ∀ b o, s.heap.get? b = some o → (pushCells (s.heap.push { cls := .type "dict", data := .dict #[] }) sc.names).get? b = some o := fun b o e => pushCells_keeps _ _ b o (Heap.get?_push_of_some _ e)
  have cok := cellsFrom_ok sc.names (s.heap.push { cls := .type "dict", data := .dict #[] }) (s.heap.objs.size + 1) [] ⟨fun _ _ hm => (nomatch hm), List.Pairwise.nil⟩ (by rw [hz]; exact Nat.le_refl _)
  rw [hz] at cok
  have frs' : ∀ n, (n, NameKind.free) ∈ sc.names → ∃ c, X.env.cells.lookup n = some c := fun n hn => I.ok.has n (S.fr n hn)
  have csub := closOf_sub (env := X.env) sc.names [] frs' (fun _ _ z => nomatch z)
  -- a cell of the block: its own, or one of those around
  have cases_ : ∀ x c, (cellsFrom (s.heap.objs.size + 1) sc.names (closOf X.env sc.names [])).lookup x = some c →
      ((cellsFrom (s.heap.objs.size + 1) sc.names []).lookup x = some c) ∨ ((cellsFrom (s.heap.objs.size + 1) sc.names []).lookup x = none ∧ (closOf X.env sc.names []).lookup x = some c) := fun x c h => by
    rw [cellsFrom_app, List.lookup_append] at h
    cases q : (cellsFrom (s.heap.objs.size + 1) sc.names []).lookup x with
    | some d => rw [q] at h; left; simpa using h
    | none => rw [q] at h; right; exact ⟨rfl, by simpa using h⟩
  have old : ∀ x c, (closOf X.env sc.names []).lookup x = some c → X.env.cells.lookup x = some c := fun x c h => csub x c (PySem.mem_of_lookup h)
  have oldlt : ∀ x c, X.env.cells.lookup x = some c → c < s.heap.objs.size := fun x c h => let ⟨_, q⟩ := I.cell x c h; q.lt
  have ownge : ∀ x c, (cellsFrom (s.heap.objs.size + 1) sc.names []).lookup x = some c → s.heap.objs.size + 1 ≤ c := fun x c h => (cok.empty x c (PySem.mem_of_lookup h)).2
  refine ⟨⟨I.ok.mod, S.kind, I.ok.glob, I.ok.blt, Nat.le_refl _, ?inj, ?has, ?cab, I.ok.hd, I.ok.frames, .inl rfl, ?exf, I.bs, Nat.le_trans I.ok.bsz I.sz, ?noex, ?exfs, I.stack, I.stkFree⟩, rfl, I.bare, Un.kept kp, ?loc, ?cell, I.hok.fresh (Nat.le_refl _), ?freeC, fun p hp => absurd (show p ∈ ([] : List (Addr × Obj)) from hp) (by simp), I.hok.kept kp, ?len⟩
  case inj =>
    intro x y c hx hy
    rcases cases_ x c hx with h1 | ⟨_, h1⟩ <;> rcases cases_ y c hy with h2 | ⟨_, h2⟩
    · exact name_of_addr cok.apart (PySem.mem_of_lookup h1) (PySem.mem_of_lookup h2)
    · exact absurd (Nat.lt_of_lt_of_le (oldlt y c (old y c h2)) (Nat.le_of_succ_le (ownge x c h1))) (Nat.lt_irrefl _)
    · exact absurd (Nat.lt_of_lt_of_le (oldlt x c (old x c h1)) (Nat.le_of_succ_le (ownge y c h2))) (Nat.lt_irrefl _)
    · exact I.ok.inj x y c (old x c h1) (old y c h2)
  case has =>
    intro x hx
    have hx' : (relabS sc X.env.scope).names.lookup x = some .cell ∨ (relabS sc X.env.scope).names.lookup x = some .free := hx
    have q : sc.names.lookup x = some .cell ∨ sc.names.lookup x = some .free := by
      rcases hx' with h | h
      · rcases lookup_relabS h with h | ⟨h, _⟩
        · exact .inl h
        · exact .inr h
      · rcases lookup_relabS h with h | ⟨h, _⟩
        · exact .inr h
        · exact .inr h
    refine Option.isSome_iff_exists.mp (PySem.W.cellsFrom_some sc.names _ _ ?_)
    rcases q with q | q
    · exact .inl q
    · exact .inr (closOf_has _ _ _ (.inl (PySem.mem_of_lookup q)))
  case cab =>
    intro x c hfn hx
    have hc : sc.names.lookup x = some .cell := by simpa [cxB] using hfn
    rcases cases_ x c hx with h | ⟨h, _⟩
    · have := ownge x c h
      show s.heap.objs.size ≤ c
      omega
    · have q := PySem.W.cellsFrom_some sc.names (s.heap.objs.size + 1) [] (.inl hc)
      rw [h] at q; cases q
  case exf =>
    intro b hb
    have hlt := hfs b hb
    refine ⟨Nat.ne_of_lt hlt, fun x c hx => ?_⟩
    rcases cases_ x c hx with h | ⟨_, h⟩
    · exact fun z => absurd (Nat.lt_of_lt_of_le (show c < s.heap.objs.size by rw [z]; exact hlt) (Nat.le_of_succ_le (ownge x c h))) (Nat.lt_irrefl _)
    · exact (hf b hb).2.2.2.2.1 x c (old x c h)
  case noex =>
    intro b o e hb
    rcases (hf b hb).2.2.2.1 with z | z
    · exact I.ok.noex b o e z
    · exact absurd (Nat.lt_of_lt_of_le (Heap.lt_size (I.ok.bs b o e).1) z) (Nat.lt_irrefl _)
  case exfs =>
    intro b hb hbf
    rcases List.mem_cons.mp (I.stkSub b hbf) with z | z
    · exact (hf b hb).2.1 z
    · exact (hf b hb).2.2.1 z
  case loc =>
    refine ⟨_, (Heap.Ns.new s.heap (.type "dict")).keeps (pushCells_keeps _ _), fun i x v e1 e2 e3 => ?_⟩
    have hik : k ≤ i := by
      unfold blkSt at e2
      by_cases hik : k ≤ i
      · exact hik
      · rw [List.getElem?_append_left (by simp; omega), List.getElem?_replicate] at e2
        split at e2 <;> cases e2
    obtain ⟨i', rfl⟩ : ∃ i', i = k + i' := ⟨i - k, by omega⟩
    obtain ⟨hfree, j, hj, hX⟩ := S.at' i' x e1
    have e2' : (σ[j]?).getD none = some v := by
      unfold blkSt at e2
      rw [List.getElem?_append_right (by simp)] at e2
      rw [List.length_replicate, show k + i' - k = i' by omega, List.getElem?_map, hj] at e2
      exact Option.some.inj e2
    have hσ : σ[j]? = some (some v) := by
      cases q : σ[j]? with
      | none => rw [q] at e2'; cases e2'
      | some o => rw [q] at e2'; exact congrArg some e2'
    have hk := S.fr x (PySem.mem_of_lookup hfree)
    obtain ⟨m, hn, hl⟩ := I.loc
    obtain ⟨u, r, l⟩ := hl j x v hX hσ (by rcases hk with h | h; exact .inr (.inl h); exact .inr (.inr h))
    rcases l with ⟨hloc, _⟩ | ⟨_, c, hc, hcell⟩
    · rcases hk with h | h <;> (rw [h] at hloc; cases hloc)
    · refine ⟨u, r, .inr ⟨lookup_relabS_free hfree, c, ?_, hcell.keeps kp⟩⟩
      show (cellsFrom (s.heap.objs.size + 1) sc.names (closOf X.env sc.names [])).lookup x = some c
      have hno : (cellsFrom (s.heap.objs.size + 1) sc.names []).lookup x = none := by
        cases q : (cellsFrom (s.heap.objs.size + 1) sc.names []).lookup x with
        | none => rfl
        | some d =>
          rcases cellsFrom_kind _ _ _ x d (PySem.mem_of_lookup q) with z | z
          · cases z
          · have := lookup_of_mem S.nm z
            rw [hfree] at this; cases this
      obtain ⟨d, hd⟩ := Option.isSome_iff_exists.mp (closOf_has (env := X.env) sc.names [] x (.inl (PySem.mem_of_lookup hfree)))
      have hdc : d = c := by
        have := old x d hd
        rw [hc] at this
        exact (Option.some.inj this).symm
      rw [cellsFrom_app, List.lookup_append, hno, hd, hdc]
      rfl
  case cell =>
    intro x c hx
    rcases cases_ x c hx with h | ⟨_, h⟩
    · exact ⟨none, (cok.empty x c (PySem.mem_of_lookup h)).1⟩
    · obtain ⟨v, q⟩ := I.cell x c (old x c h)
      exact ⟨v, q.keeps kp⟩
  case freeC =>
    intro x c hx
    rcases cases_ x c hx with h | ⟨_, h⟩
    · exact I.hok.fresh (by have := ownge x c h; omega)
    · exact I.freeC x c (old x c h)
  case len =>
    show (blkSt k js σ).length = N.length
    unfold blkSt
    rw [List.length_append, List.length_replicate, List.length_map]
    exact S.len.symm
end
end L2

set_option Elab.async false
set_option linter.all false
set_option maxRecDepth 100000
set_option maxHeartbeats 4000000
namespace L2
open PySem PySem.Spec PyProof.Rows

/-! ### a comprehension's turns, from which nothing is raised -/
theorem comp_loop {prog : Program} {w : World} {A : Around} {R : Result → Shared → Prop} {s : Shared} {elt tg iter : Expr} {ifs : List Expr} {scope : Scope} {pos : Pos} {it acc : Value} {env : Env} (J : Nat → Shared → Prop)
    (turn : ∀ n s, J n s → wpAny (model prog w) A (pyNext it) (fun r s1 => match r with
      | none => R (.ok .next) s1
      | some v => wpAny (model prog w) A (letOwnedTupleGo tg it v) (fun _ s2 => wpAny (model prog w) A (assign tg env v) (fun _ s3 =>
          wpAny (model prog w) A (forIn ifs true fun c r => if r = true then do let ok ← isTrue c env (eval c env); pure (ForInStep.yield ok) else pure (ForInStep.yield r)) (fun ok s4 =>
            if ok = true then wpAny (model prog w) A (eval elt env) (fun x s5 => wpAny (model prog w) A (call (.builtin "list.append") [acc, x]) (fun _ s6 => ∃ m, m < n ∧ J m s6) (fun _ _ => False) s5) (fun _ _ => False) s4
            else ∃ m, m < n ∧ J m s4) (fun _ _ => False) s3) (fun _ _ => False) s2) (fun _ _ => False) s1) (fun _ _ => False) s)
    (n : Nat) (h : J n s) : codeAny (model prog w) A (.compLoop (.ListComp elt [⟨tg, iter, ifs, 0⟩] scope pos) 0 it acc env) R s := by
  refine codeAny_loop rfl J (fun n s hI => wpAny_noted (wpAny_noRaise ?_)) n h
  rw [compTurn_list]
  refine wpAny_bind (wpAny_standAt (wpAny_bind (thn (turn n s hI) fun r s1 h1 => ?_)))
  cases r with
  | none => exact wpAny_pure h1
  | some v =>
    refine wpAny_bind (thn h1 fun _ s2 h2 => wpAny_bind (thn h2 fun _ s3 h3 => wpAny_bind (thn h3 fun ok s4 h4 => ?_)))
    cases ok with
    | false => exact wpAny_pure ⟨rfl, by simpa using h4⟩
    | true =>
      rw [if_pos rfl] at h4
      exact wpAny_bind (wpAny_bind (thn h4 fun x s5 h5 => wpAny_bind (thn h5 fun _ s6 h6 => wpAny_pure (wpAny_pure ⟨rfl, h6⟩))))
theorem block_env {M : Model} {A : Around} {E : Value → Shared → Prop} {s : Shared} {sc : Scope} {globals : Addr} {clo : List (Str × Addr)} {qual : Str} {out : Env} {Q : Env → Shared → Prop}
    (h : Q { scope := sc, locals := s.heap.objs.size, globals := globals, cells := cellsFrom (s.heap.objs.size + 1) sc.names clo, qual := qual, func := none, code := out.code, frame := out.frame, builtins := out.builtins }
      { s with heap := pushCells (s.heap.push { cls := .type "dict", data := .dict #[] }) sc.names }) :
    wpAny M A (newFunctionEnv sc globals clo [] qual none .none (some out)) Q E s := by
  unfold newFunctionEnv
  simp only [Option.isSome_some, if_true]
  refine wpAny_bind (wpAny_alloc (wpAny_bind (wpAny_layCells _ (fun name kind cells => by cases hkc : kind == NameKind.cell <;> simp [hkc]) _ _ _ _ ?_)))
  rw [show ({ s with heap := s.heap.push { cls := .type "dict", data := .dict #[] } } : Shared).heap.objs.size = s.heap.objs.size + 1 from Heap.size_push ..]
  simp only [List.forIn_nil]
  exact wpAny_bind (wpAny_pure (wpAny_pure h))

/-- the tests of a comprehension -/
def PTs (X : Cx) (ifs : List Expr) (t : TT) : Prop :=
  ∀ (pins : List (Addr × Obj)) (s : Shared) (σ : St) (H : Hp) (Q : Bool → Hp → Prop), Inv X pins σ H s → t σ H Q →
    wpAny (model X.prog X.w) X.A (forIn ifs true fun c r => if r = true then do let ok ← isTrue c X.env (eval c X.env); pure (ForInStep.yield ok) else pure (ForInStep.yield r)) (TP X pins σ Q) X.xe s
def tNoTest : TT := fun _ H Q => Q true H
theorem pts_nil {X : Cx} : PTs X [] tNoTest := fun pins s σ H Q I h => wpAny_tests_nil ⟨H, I, h⟩
theorem pts_one {X : Cx} {c : Expr} {t : TT} (h : PT X c t) : PTs X [c] t := fun pins s σ H Q I q => wpAny_tests_one (h pins s σ H Q I q)

/-- what the turns of a comprehension want: W by the turn and a measure; the new list stands at l -/
def tTurns (J : It) (g : TG) (tt : TT) (te : TE) (l : Addr) (σb : St) (H1 : Hp) (R : Hp → Prop) : Prop :=
  ∃ W : Nat → Nat → St → Hp → Prop, (∃ m, W 0 m σb (upd H1 l (.lst []))) ∧ ∀ i m σ' H', W i m σ' H' →
    (J.stop i H' ∧ R H') ∨ (J.go i H' ∧ ∀ x H2, J.yld i H' x H2 → g x σ' H2 fun σ2 H3 => tt σ2 H3 fun b H4 => if b = true
      then te σ2 H4 fun v H5 => ∃ ys, H5 l = some (.lst ys) ∧ ys.length < sizeLine ∧ ∃ m', m' < m ∧ W (i + 1) m' σ2 (upd H5 l (.lst (ys ++ [v])))
      else ∃ m', m' < m ∧ W (i + 1) m' σ2 H4)
def tComp (k : Nat) (js : List Nat) (wi : TI) (g : TG) (tt : TT) (te : TE) : TE := fun σ H Q => wi σ H fun J H1 => ∀ l, H1 l = none → tTurns J g tt te l (blkSt k js σ) H1 fun H' => Q (.ref l) H'

section
variable {X : Cx} {elt tg iter : Expr} {ifs : List Expr} {sc : Scope} {pos : Pos} {N : List Str} {k : Nat} {js : List Nat} {wi : TI} {g : TG} {tt : TT} {te : TE}

/-- what a block's parts promise, whatever the state at its entry -/
structure Blk (X : Cx) (N : List Str) (sc : Scope) (tg : Expr) (ifs : List Expr) (elt : Expr) (g : TG) (tt : TT) (te : TE) : Prop where
  tgt : ∀ C cells fp s H, PG (cxB X N sc C cells fp s H) tg g
  tst : ∀ C cells fp s H, PTs (cxB X N sc C cells fp s H) ifs tt
  val : ∀ C cells fp s H, PE (cxB X N sc C cells fp s H) elt te

/-- behind the block, ahead of the letting go of its names -/
def After (X : Cx) (pins : List (Addr × Obj)) (σ : St) (R : Addr → Hp → Prop) (acc : Value) (C : Addr) (s' : Shared) : Prop :=
  ∃ (l : Addr) (H' : Hp) (m : Str → Option Value), acc = .ref l ∧ Inv X pins σ H' s' ∧ s'.heap.Ns C m ∧ FpOk X pins H' C ∧ R l H'

theorem comp_run {pins : List (Addr × Obj)} {σ : St} {H : Hp} {s : Shared} {R : Addr → Hp → Prop} (hc : X.calm = true) (S : CpScope X N k js sc) (hi : PI X tg iter wi) (B : Blk X N sc tg ifs elt g tt te) (I : Inv X pins σ H s)
    (h : wi σ H fun J H1 => ∀ l, H1 l = none → tTurns J g tt te l (blkSt k js σ) H1 (R l)) :
    wpAny (model X.prog X.w) X.A (eval iter X.env) (fun x s1 => wpAny (model X.prog X.w) X.A (pyIter x) (fun it s2 => wpAny (model X.prog X.w) X.A (newList []) (fun acc s3 =>
      wpAny (model X.prog X.w) X.A (newFunctionEnv sc X.env.globals (closOf X.env sc.names []) [] X.env.qual none .none (some X.env)) (fun cenv s4 =>
        codeAny (model X.prog X.w) X.A (.compStart (.ListComp elt [⟨tg, iter, ifs, 0⟩] sc pos) 0 it acc { cenv with scope := relabel sc X.env })
          (fun r s' => match r with | .ok _ => After X pins σ R acc cenv.locals s' | .error _ => False) s4) X.xe s3) X.xe s2) X.xe s1) X.xe s := by
  refine thn (hi pins s σ H _ I h) fun v s1 h1 => thn h1 fun itv s2 h2 => ?_
  obtain ⟨it, fp, tn, J, H2, e, I2, T, st2, f2, hq⟩ := h2
  subst e
  have hl : H2 s2.heap.objs.size = none := I2.fresh
  have fplt : ∀ b ∈ fp, b < s2.heap.objs.size := fun b hb => by
    obtain ⟨o, e, _⟩ := T.obj 0 _ st2 b hb
    exact Heap.lt_size e
  obtain ⟨W, ⟨m0, w0⟩, turn⟩ := hq _ hl
  refine wpAny_newList ?_
  have I3 : Inv X pins σ (upd H2 s2.heap.objs.size (.lst [])) { s2 with heap := s2.heap.push { cls := .type "list", data := .seq ([] : List Value).toArray } } := I2.lnew (its := []) (t' := s2.toks) .nil (Nat.zero_le _)
  have u3 : Un (frs X.stack) fp H2 (upd H2 s2.heap.objs.size (.lst [])) s2.heap (s2.heap.push { cls := .type "list", data := .seq ([] : List Value).toArray }) := Un.laid (fun b o e => Heap.get?_push_of_some _ e) (Nat.le_refl _) hl
  have hz3 : (s2.heap.push { cls := .type "list", data := .seq ([] : List Value).toArray }).objs.size = s2.heap.objs.size + 1 := Heap.size_push ..
  have kp3 : ∀ b o, s2.heap.get? b = some o → (s2.heap.push { cls := .type "list", data := .seq ([] : List Value).toArray }).get? b = some o := fun b o e => Heap.get?_push_of_some _ e
  have fpn : ∀ b ∈ fp, upd H2 s2.heap.objs.size (.lst []) b = none := fun b hb => by
    rw [upd_ne (Nat.ne_of_lt (fplt b hb))]; exact (f2 b hb).1
  generalize hl0 : s2.heap.objs.size = l at hl I3 u3 hz3 kp3 fpn w0 turn ⊢
  rw [hl0] at fplt
  generalize s2.heap.push { cls := .type "list", data := .seq ([] : List Value).toArray } = h3 at I3 u3 hz3 kp3 ⊢
  generalize upd H2 l (.lst []) = H3 at I3 u3 fpn w0
  have f3 : ∀ b ∈ fp, FpOk X pins H3 b := fun b hb => ⟨fpn b hb, (f2 b hb).2⟩
  have I4 := I3.block S f3 (fun b hb => by show b < h3.objs.size; rw [hz3]; exact Nat.lt_succ_of_lt (fplt b hb))
  have kp4 : ∀ b o, s2.heap.get? b = some o → (pushCells (h3.push { cls := .type "dict", data := .dict #[] }) sc.names).get? b = some o := fun b o e => pushCells_keeps _ _ b o (Heap.get?_push_of_some _ (kp3 b o e))
  refine block_env ?_
  have st4 : tn 0 (pushCells (h3.push { cls := .type "dict", data := .dict #[] }) sc.names) := T.keep 0 _ _ st2 fun b _ o e => kp4 b o e
  have stat : ∀ {H' : Hp}, (∀ b ∈ fp, H' b = none) → ∀ b ∈ fp, FpOk (cxB X N sc h3.objs.size (cellsFrom (h3.objs.size + 1) sc.names (closOf X.env sc.names [])) fp { s2 with heap := h3 } H3) [] H' b := fun hn b hb =>
    ⟨hn b hb, (I4.ok.exf b hb).1, I4.ok.exfs b hb, .inl hb, (I4.ok.exf b hb).2, fun p hp => absurd (show p ∈ ([] : List (Addr × Obj)) from hp) (by simp)⟩
  generalize hY : cxB X N sc h3.objs.size (cellsFrom (h3.objs.size + 1) sc.names (closOf X.env sc.names [])) fp { s2 with heap := h3 } H3 = Y at I4 stat
  have loop : codeAny (model X.prog X.w) X.A (.compLoop (.ListComp elt [⟨tg, iter, ifs, 0⟩] sc pos) 0 (.ref it) (.ref l) Y.env)
      (fun r s' => match r with | .ok _ => After X pins σ R (.ref l) h3.objs.size s' | .error _ => False) { s2 with heap := pushCells (h3.push { cls := .type "dict", data := .dict #[] }) sc.names } := by
    subst hY
    refine comp_loop (fun n s' => ∃ i σ' H', Inv (cxB X N sc h3.objs.size (cellsFrom (h3.objs.size + 1) sc.names (closOf X.env sc.names [])) fp { s2 with heap := h3 } H3) [] σ' H' s' ∧ tn i s'.heap ∧ (∀ b ∈ fp, H' b = none) ∧ W i n σ' H') ?_ m0
      ⟨0, blkSt k js σ, H3, I4, st4, fpn, w0⟩
    rintro n s5 ⟨i, σ5, H5, I5, st5, fr5, w5⟩
    rcases turn i n σ5 H5 w5 with ⟨stop, qn⟩ | ⟨go, step⟩
    · refine thn (T.done (cxB X N sc h3.objs.size (cellsFrom (h3.objs.size + 1) sc.names (closOf X.env sc.names [])) fp { s2 with heap := h3 } H3) rfl rfl rfl hc i [] s5 σ5 H5 (fun _ _ => False) I5 (stat fr5) st5 stop) fun r s6 ⟨hr, I6⟩ => ?_
      subst hr
      obtain ⟨m6, hn6, _⟩ := id I6.loc
      have IX : Inv X pins σ H5 s6 := I2.call' (ch := fp) I6.os (u3.trans I6.base) I6.hok I6.bare fun b hb => ⟨(f2 b hb).2.2.2.1, (f2 b hb).2.1, (f2 b hb).2.2.2.2.1, (f2 b hb).2.2.2.2.2⟩
      exact ⟨l, H5, m6, rfl, IX, hn6, I2.fpOk (by show s2.heap.objs.size ≤ h3.objs.size; rw [hz3, hl0]; exact Nat.le_succ _) I6.free, qn⟩
    · refine thn (T.item (cxB X N sc h3.objs.size (cellsFrom (h3.objs.size + 1) sc.names (closOf X.env sc.names [])) fp { s2 with heap := h3 } H3) rfl rfl rfl hc i [] s5 σ5 H5 (fun _ _ => False) I5 (stat fr5) st5 go) fun r s6 ⟨u, hr, h6⟩ => ?_
      subst hr
      refine thn h6 fun _ s7 ⟨x, H7, I7, r7, y7, st7, fr7⟩ => ?_
      have I7' := I7.pinned (stat fr7) (T.obj _ _ st7)
      refine thn (B.tgt _ _ _ _ _ _ s7 σ5 H7 x u _ I7' r7 (step x H7 y7)) fun _ s8 ⟨σ8, H8, I8, q8⟩ => ?_
      refine thn (B.tst _ _ _ _ _ _ s8 σ8 H8 _ I8 q8) fun ok s9 ⟨H9, I9, q9⟩ => ?_
      have kept : ∀ {σ' : St} {H' : Hp} {s' : Shared}, Inv (cxB X N sc h3.objs.size (cellsFrom (h3.objs.size + 1) sc.names (closOf X.env sc.names [])) fp { s2 with heap := h3 } H3) ([] ++ pinsAt fp s7.heap) σ' H' s' → tn (i + 1) s'.heap ∧ ∀ b ∈ fp, H' b = none := fun {σ' H' s'} I' =>
        ⟨T.keep _ _ _ st7 fun b hb o e => (I'.pin (b, o) (List.mem_append_right _ (List.mem_append_right _ (mem_pinsAt hb e)))).1, fun b hb => by
          obtain ⟨o, e, _⟩ := T.obj _ _ st7 b hb
          exact (I'.pin (b, o) (List.mem_append_right _ (List.mem_append_right _ (mem_pinsAt hb e)))).2.1⟩
      cases ok with
      | false =>
        rw [if_neg Bool.false_ne_true] at q9
        rw [if_neg Bool.false_ne_true]
        obtain ⟨m', hm, w9⟩ := q9
        exact ⟨m', hm, i + 1, σ8, H9, I9.unpinned, (kept I9).1, (kept I9).2, w9⟩
      | true =>
        rw [if_pos rfl] at q9
        rw [if_pos rfl]
        refine thn (B.val _ _ _ _ _ _ s9 σ8 H9 _ I9 q9) fun u10 s10 ⟨y, H10, I10, r10, ys, hys, hlen, m', hm, w10⟩ => ?_
        refine thn (mt_append _ s10 σ8 H10 (.ref l) [y] (.ref l) [u10] (fun _ H' => H' = upd H10 l (.lst (ys ++ [y]))) I10 rfl (.cons r10 .nil) ⟨l, ys, y, rfl, rfl, hys, hlen, rfl⟩) fun _ s11 ⟨_, H11, I11, _, e11⟩ => ?_
        subst e11
        exact ⟨m', hm, i + 1, σ8, _, I11.unpinned, (kept I11).1, (kept I11).2, w10⟩
  subst hY
  exact codeAny_compStart_list loop (T.self X.A 0 _ _ _ st4 loop)

theorem comp_names {X : Cx} (S : CpScope X N k js sc) : ∀ x ∈ sc.names, x.2 = .local → sc.names.lookup x.1 = some .local := fun x hx hl => lookup_of_mem S.nm (by rw [← hl]; exact hx)
/-- [elt for tg in iter if ..] -/
theorem pe_comp (hc : X.calm = true) (S : CpScope X N k js sc) (hi : PI X tg iter wi) (B : Blk X N sc tg ifs elt g tt te) (hs : ∀ x, foldedSetIterable iter X.env x = pure x := by intro _; rfl) :
    PE X (.ListComp elt [⟨tg, iter, ifs, 0⟩] sc pos) (tComp k js wi g tt te) := by
  intro pins s σ H Q I h
  rw [eval_ListComp]
  refine wpAny_comprehension_free (use := none) rfl hs (clos_eq fun n hn => I.ok.has n (S.fr n hn)) S.kind (comp_names S) ?_
  refine thn (comp_run (pos := pos) (R := fun l H' => Q (.ref l) H') hc S hi B I h) fun x s1 h1 => thn h1 fun it s2 h2 => thn h2 fun acc s3 h3 => thn h3 fun cenv s4 h4 => codeAny_mono h4 fun r s' hr => ?_
  cases r with
  | error e => exact False.elim hr
  | ok f =>
    obtain ⟨l, H', m, rfl, I', hn, ⟨f0, f1, f2, f3, f4, f5⟩, q⟩ := hr
    exact ⟨m, hn, fun h' sb => ⟨.ref l, H', I'.turned (t' := s'.toks) (fun b o hb e => sb.extBut b o hb e) f0 f1 f3 f4 f5, rfl, q⟩⟩
/-- name = [elt for tg in iter if ..], the name a local one (the value is stored ahead of the letting go) -/
theorem ps_comp {i : Nat} {x : Str} {pos' pos2 : Pos} (hc : X.calm = true) (S : CpScope X N k js sc) (hi : PI X tg iter wi) (B : Blk X N sc tg ifs elt g tt te) (hN : X.N.Nodup) (hx : X.N[i]? = some x) (hk : X.env.scope.names.lookup x = some .local)
    (hsw : swapsWith (.ListComp elt [⟨tg, iter, ifs, 0⟩] sc pos) (some (.Name x pos')) pos2.line X.env = pure true := by rfl) (hs : ∀ x, foldedSetIterable iter X.env x = pure x := by intro _; rfl) :
    PS X (.Assign [.Name x pos'] (.ListComp elt [⟨tg, iter, ifs, 0⟩] sc pos) pos2) (tAsg (tComp k js wi g tt te) (gName i)) := by
  intro pins s σ H D I h
  rw [exec_Assign_Name_used _ _ _ _ hsw]
  refine wpAny_bind (wpAny_standAt (wpAny_bind ?_))
  show wpAny _ X.A (do let _ ← comprehension (.ListComp elt [⟨tg, iter, ifs, 0⟩] sc pos) sc X.env _ (newList []) false (eval iter X.env) (some (assign (.Name x pos') X.env))) _ _ s
  refine wpAny_bind (thn (wpAny_comprehension_free (use := some (assign (.Name x pos') X.env)) (Q := fun _ s' => SP X pins D .next s') rfl hs (clos_eq fun n hn => I.ok.has n (S.fr n hn)) S.kind (comp_names S) ?_) fun _ s' hq => wpAny_pure (wpAny_pure hq))
  refine thn (comp_run (pos := pos) (R := fun l H' => D.nx (σ.set i (some (.ref l))) H') hc S hi B I h) fun y s1 h1 => thn h1 fun it s2 h2 => thn h2 fun acc s3 h3 => thn h3 fun cenv s4 h4 => codeAny_mono h4 fun r s' hr => ?_
  cases r with
  | error e => exact False.elim hr
  | ok f =>
    obtain ⟨l, H', m, rfl, I', hn, ⟨f0, f1, f2, f3, f4, f5⟩, q⟩ := hr
    refine wpAny_assign_Name (store_ok2 I' hN hx (.inl hk) (show RelV (.ref l) (.ref l) from rfl) (fun s'' I'' ⟨a, sb, ha⟩ => ?_) (.inr hk))
    have ne : cenv.locals ≠ a := by
      rcases ha with z | z
      · rw [z]; exact f1
      · exact fun w => f4 x a z w.symm
    exact ⟨m, hn.sameBut sb ne, fun h' sb' => ⟨_, H', I''.turned (t' := s''.toks) (fun b o hb e => sb'.extBut b o hb e) f0 f1 f3 f4 f5, q⟩⟩
end

/-! ### the forms one uses: over a list, a tuple, a range that stays as it is -/
/-- a turn's end: an item more, none more; Pv: the turn, what has been told so far, the block's names, the heap -/
def leafT (xs : List V) (l : Addr) (Pv : Nat → List V → St → Hp → Prop) (i : Nat) (σ2 : St) (v : V) (H5 : Hp) : Prop :=
  ∃ ys, H5 l = some (.lst ys) ∧ ys.length < sizeLine ∧ ∃ m', m' < xs.length - i ∧ m' = xs.length - (i + 1) ∧ i + 1 ≤ xs.length ∧ ∃ zs, Pv (i + 1) zs σ2 (upd H5 l (.lst (ys ++ [v])))
def leafF (xs : List V) (Pv : Nat → List V → St → Hp → Prop) (i : Nat) (σ2 : St) (H4 : Hp) : Prop := ∃ m', m' < xs.length - i ∧ m' = xs.length - (i + 1) ∧ i + 1 ≤ xs.length ∧ ∃ zs, Pv (i + 1) zs σ2 H4
theorem leafT_mk {xs : List V} {l : Addr} {Pv : Nat → List V → St → Hp → Prop} {i : Nat} {σ2 : St} {v x : V} {H5 : Hp} {ys : List V} (hx : xs[i]? = some x) (hz : xs.length ≤ sizeLine) (hy : ys.length ≤ i) (h1 : H5 l = some (.lst ys)) (h2 : Pv (i + 1) (ys ++ [v]) σ2 (upd H5 l (.lst (ys ++ [v])))) : leafT xs l Pv i σ2 v H5 := by
  have hlt : i < xs.length := (List.getElem?_eq_some_iff.mp hx).1
  exact ⟨ys, h1, by omega, xs.length - (i + 1), by omega, rfl, hlt, _, h2⟩
theorem leafF_mk {xs : List V} {Pv : Nat → List V → St → Hp → Prop} {i : Nat} {σ2 : St} {x : V} {H4 : Hp} {ys : List V} (hx : xs[i]? = some x) (h2 : Pv (i + 1) ys σ2 H4) : leafF xs Pv i σ2 H4 := by
  have hlt : i < xs.length := (List.getElem?_eq_some_iff.mp hx).1
  exact ⟨xs.length - (i + 1), by omega, rfl, hlt, ys, h2⟩
theorem comp_by {J : It} {g : TG} {tt : TT} {te : TE} {l : Addr} {σb : St} {H1 : Hp} {R : Hp → Prop} (xs : List V) (Pv : Nat → List V → St → Hp → Prop) (h0 : Pv 0 [] σb (upd H1 l (.lst [])))
    (hJ : ∀ i ys σ H, Pv i ys σ H → (i < xs.length → J.go i H ∧ ∀ x H2, J.yld i H x H2 → H2 = H ∧ xs[i]? = some x) ∧ (i = xs.length → J.stop i H))
    (hs : ∀ i x ys σ H, xs[i]? = some x → Pv i ys σ H → g x σ H fun σ2 H3 => tt σ2 H3 fun b H4 => if b = true then te σ2 H4 fun v H5 => leafT xs l Pv i σ2 v H5 else leafF xs Pv i σ2 H4)
    (hd : ∀ ys σ H, Pv xs.length ys σ H → R H) : tTurns J g tt te l σb H1 R := by
  refine ⟨fun i m σ H => m = xs.length - i ∧ i ≤ xs.length ∧ ∃ ys, Pv i ys σ H, ⟨xs.length, by simp, Nat.zero_le _, [], h0⟩, ?_⟩
  rintro i m σ H ⟨rfl, hi, ys, p⟩
  obtain ⟨j1, j2⟩ := hJ i ys σ H p
  by_cases hlt : i < xs.length
  · refine .inr ⟨(j1 hlt).1, fun x H2 y => ?_⟩
    obtain ⟨e, hx⟩ := (j1 hlt).2 x H2 y
    subst e
    exact hs i x ys σ _ hx p
  · have e : i = xs.length := by omega
    subst e
    exact .inl ⟨j2 rfl, hd ys σ H p⟩
/-- .. where there is no test -/
theorem comp_by0 {J : It} {g : TG} {te : TE} {l : Addr} {σb : St} {H1 : Hp} {R : Hp → Prop} (xs : List V) (Pv : Nat → List V → St → Hp → Prop) (h0 : Pv 0 [] σb (upd H1 l (.lst [])))
    (hJ : ∀ i ys σ H, Pv i ys σ H → (i < xs.length → J.go i H ∧ ∀ x H2, J.yld i H x H2 → H2 = H ∧ xs[i]? = some x) ∧ (i = xs.length → J.stop i H))
    (hs : ∀ i x ys σ H, xs[i]? = some x → Pv i ys σ H → g x σ H fun σ2 H3 => te σ2 H3 fun v H5 => leafT xs l Pv i σ2 v H5) (hd : ∀ ys σ H, Pv xs.length ys σ H → R H) : tTurns J g tNoTest te l σb H1 R :=
  comp_by xs Pv h0 hJ (fun i x ys σ H hx p => hs i x ys σ H hx p) hd
theorem J_list {K : PySem.W.Frag} {a : Addr} {xs : List V} {i : Nat} {H : Hp} (h : SqL K H a xs) : (i < xs.length → (Itl K a).go i H ∧ ∀ x H2, (Itl K a).yld i H x H2 → H2 = H ∧ xs[i]? = some x) ∧ (i = xs.length → (Itl K a).stop i H) :=
  ⟨fun hlt => ⟨⟨xs, xs[i], h, by simp [hlt]⟩, fun x H2 ⟨e, y⟩ => ⟨e, y xs h⟩⟩, fun e => ⟨xs, h, by omega⟩⟩
theorem J_tup {K : PySem.W.Frag} {a : Addr} {xs : List V} {i : Nat} {H : Hp} (h : SqT K H a xs) : (i < xs.length → (Itt K a).go i H ∧ ∀ x H2, (Itt K a).yld i H x H2 → H2 = H ∧ xs[i]? = some x) ∧ (i = xs.length → (Itt K a).stop i H) :=
  ⟨fun hlt => ⟨⟨xs, xs[i], h, by simp [hlt]⟩, fun x H2 ⟨e, y⟩ => ⟨e, y xs h⟩⟩, fun e => ⟨xs, h, by omega⟩⟩
def rngV (lo : Int) (n : Nat) : List V := (List.range n).map fun (i : Nat) => V.int (lo + i)
theorem rngV_len (lo : Int) (n : Nat) : (rngV lo n).length = n := by simp [rngV]
theorem J_rng {lo : Int} {n i : Nat} {H : Hp} : (i < (rngV lo n).length → (Itr lo n).go i H ∧ ∀ x H2, (Itr lo n).yld i H x H2 → H2 = H ∧ (rngV lo n)[i]? = some x) ∧ (i = (rngV lo n).length → (Itr lo n).stop i H) := by
  rw [rngV_len]
  exact ⟨fun hlt => ⟨hlt, fun x H2 ⟨e, y⟩ => ⟨e, by subst y; simp [rngV, hlt]⟩⟩, fun e => Nat.le_of_eq e.symm⟩
end L2

/-! Sets of texts, low down: how one is filled, how one is walked. -/
set_option Elab.async false
set_option linter.all false
set_option maxRecDepth 100000
set_option maxHeartbeats 4000000
namespace JS
open PySem

theorem erase_perm {α : Type} : ∀ {l : List α} {i : Nat} (h : i < l.length), (l[i] :: l.eraseIdx i).Perm l
  | _ :: _, 0, _ => List.Perm.refl _
  | x :: r, i + 1, h => by
    have ih := erase_perm (l := r) (i := i) (by simpa using h)
    rw [List.eraseIdx_cons_succ]
    exact (List.Perm.swap x _ _).trans (ih.cons x)
section
variable {M : Model} {A : Around} {E : Value → Shared → Prop} {s : Shared}
theorem choose_any {src : Source} {n : Nat} {Q : Nat → Shared → Prop} (hn : n ≠ 0) (h : ∀ i, i < n → Q i { s with drawn := s.drawn.bump src }) : wpAny M A (choose src n) Q E s :=
  fun _ _ _ => ⟨hn, h _ (Nat.mod_lt _ (Nat.pos_of_ne_zero hn))⟩
theorem draw_any {α : Type} : ∀ (n : Nat) (xs : List α) (s : Shared) (Q : List α → Shared → Prop), xs.length ≤ n → (∀ ys d, ys.Perm xs → Q ys { s with drawn := d }) → wpAny M A (drawOrder n xs) Q E s
  | 0, xs, s, Q, h, hq => by
    have e : xs = [] := List.length_eq_zero_iff.mp (by omega)
    subst e
    exact wpAny_pure (hq [] s.drawn (List.Perm.refl _))
  | n + 1, [], s, Q, _, hq => wpAny_pure (hq [] s.drawn (List.Perm.refl _))
  | n + 1, x :: r, s, Q, h, hq => by
    show wpAny M A (choose .order (x :: r).length >>= fun i => match (x :: r)[i]? with
      | some y => drawOrder n ((x :: r).eraseIdx i) >>= fun ys => pure (y :: ys)
      | none => unsupported "internal:drawOrder") Q E s
    refine wpAny_bind (choose_any (by simp) fun i hi => ?_)
    have e : (x :: r)[i]? = some (x :: r)[i] := by simp [hi]
    rw [e]
    refine wpAny_bind (draw_any n ((x :: r).eraseIdx i) _ _ (by rw [List.length_eraseIdx_of_lt hi]; simp at h ⊢; omega) fun ys d hp => wpAny_pure (hq _ d ?_))
    exact (hp.cons _).trans (erase_perm hi)
end

theorem pick_go {α : Type} (next : Nat → Nat) : ∀ (fuel k : Nat) (left : List α) (out : Array α), left.length = fuel → (pickOrder.go next fuel k left out).toList.Perm (out.toList ++ left)
  | 0, k, left, out, h => by
    have e : left = [] := List.length_eq_zero_iff.mp h
    subst e
    simp [pickOrder.go]
  | fuel + 1, k, left, out, h => by
    unfold pickOrder.go
    have hi : next k % left.length < left.length := Nat.mod_lt _ (by omega)
    have e : left[next k % left.length]? = some left[next k % left.length] := by simp [hi]
    rw [e]
    dsimp only
    refine (pick_go next fuel (k + 1) _ _ (by rw [List.length_eraseIdx_of_lt hi]; omega)).trans ?_
    rw [Array.toList_push, List.append_assoc]
    exact List.Perm.append_left _ (erase_perm hi)
theorem pick_perm {α : Type} (next : Nat → Nat) (xs : Array α) : (pickOrder next xs).toList.Perm xs.toList := by
  unfold pickOrder
  have h := pick_go next xs.size 0 xs.toList #[] (by simp)
  simpa using h

/-- a set's object: its entries, and what its walk leans on -/
structure Rec (w : World) (h : Heap) (a : Addr) (es : Array (Int × Value)) (ep : Nat) (t : SetTable) : Prop where
  obj : ∃ o, h.get? a = some o ∧ o.ExactSet ∧ o.data = .set es ep t
  fits : t.fits es.size = true
  led : t.led = true ∨ w.params.followText "set-order" = true
  pl : es.size = 0 ∨ t.plain = false
  sz : es.size < scanBound
theorem Rec.keep {w : World} {h h' : Heap} {a : Addr} {es : Array (Int × Value)} {ep : Nat} {t : SetTable} (r : Rec w h a es ep t) (k : ∀ o, h.get? a = some o → h'.get? a = some o) : Rec w h' a es ep t :=
  ⟨let ⟨o, e, x⟩ := r.obj; ⟨o, k o e, x⟩, r.fits, r.led, r.pl, r.sz⟩
theorem Rec.type {w : World} {s : Shared} {a : Addr} {es : Array (Int × Value)} {ep : Nat} {t : SetTable} (r : Rec w s.heap a es ep t) : s.TypeIs (.ref a) "set" :=
  let ⟨o, e, x, _⟩ := r.obj; ⟨o, e, x.1⟩

namespace F
theorem slot_next : Slot "set_iterator" "__next__" "set_iterator.__next__" := .of (owner := "set_iterator") (n := "__next__") (by rw [typeLookup_type, builtinLookup_eq_fast]; kernel_rfl) (by decide +kernel) (by decide +kernel) (by decide +kernel) (by first | exact .inl (by decide +kernel) | exact .inr (by decide +kernel)) (by rw [isSubtype_type]; kernel_rfl)
theorem entry_next : entryFor table "set_iterator.__next__" = some Builtin.«set_iterator.__next__» := entryFor_of_tree (by kernel_rfl)
theorem args_next (a : Value) : argsOk "set_iterator.__next__" ⟨[a], []⟩ := by unfold argsOk; kernel_rfl
theorem slot_iter : Slot "set_iterator" "__iter__" "set_iterator.__iter__" := .of (owner := "set_iterator") (n := "__iter__") (by rw [typeLookup_type, builtinLookup_eq_fast]; kernel_rfl) (by decide +kernel) (by decide +kernel) (by decide +kernel) (by first | exact .inl (by decide +kernel) | exact .inr (by decide +kernel)) (by rw [isSubtype_type]; kernel_rfl)
theorem entry_iter : entryFor table "set_iterator.__iter__" = some Builtin.«dict_keyiterator.__iter__» := entryFor_alias (id' := "dict_keyiterator.__iter__") (by kernel_rfl) rfl (by decide +kernel) (by kernel_rfl)
theorem args_iter (a : Value) : argsOk "set_iterator.__iter__" ⟨[a], []⟩ := by unfold argsOk; kernel_rfl
theorem entry_set_iter : entryFor table "set.__iter__" = some Builtin.«frozenset.__iter__» := entryFor_alias (id' := "frozenset.__iter__") (by kernel_rfl) rfl (by decide +kernel) (by kernel_rfl)
end F

abbrev byText (w : World) : Bool := w.params.followText "set-order"
abbrev itObj (first : Value) (i n ep : Nat) (a : Addr) : Obj := { cls := .type "set_iterator", data := .fields #[first, .int i 0, .ref a, .int n 0, .int ep 0] }
/-- the walk of a set, at its i-th turn, and the order in which it goes -/
inductive At (w : World) (h : Heap) (it a : Addr) (es : Array (Int × Value)) (ep : Nat) (t : SetTable) : List Addr → List Value → Nat → Prop where
  | drawn (tp : Addr) (ps : List Nat) (i : Nat) : (tp ≠ it) → h.get? it = some (itObj (.ref tp) i es.size ep a) → h.IsTuple tp (ps.map fun (p : Nat) => Value.int (p : Int) 0).toArray → ps.Perm (List.range es.size) → At w h it a es ep t [tp] (ps.map fun p => (es.getD p (0, .none)).2) i
  | text (slot i : Nat) : byText w = true → h.get? it = some (itObj (.int slot 0) i es.size ep a) → At w h it a es ep t [] ((pickOrder (w.params.setOrder a ep) es).toList.map (·.2)) i
  | one (slot i : Nat) : byText w = false → t.led = true → es.size ≤ 1 → h.get? it = some (itObj (.int slot 0) i es.size ep a) → (i = 0 → slot = 0) → (i = 1 → slot = t.place.getD 0 0 + 1) → At w h it a es ep t [] (es.toList.map (·.2)) i

section
variable {prog : Program} {w : World} {A : Around} {E : Value → Shared → Prop} {s : Shared} {a it : Addr} {es : Array (Int × Value)} {ep : Nat} {t : SetTable}
theorem state_of {Q : (Array (Int × Value) × Nat × SetTable) → Shared → Prop} (r : Rec w s.heap a es ep t) (h : Q (es, ep, t) s) : wpAny (model prog w) A (setState a) Q E s := by
  obtain ⟨o, e, _, d⟩ := r.obj
  exact wpAny_setState_of e d r.fits h
theorem below_one (j p : Nat) : SetTable.below #[p] j = if p < j then 1 else 0 := by
  unfold SetTable.below
  show SetTable.below.go #[p] j 1 0 1 = _
  unfold SetTable.below.go
  rw [if_pos (by decide)]
  show (if (#[p] : Array Nat).getD 0 j < j then SetTable.below.go #[p] j 0 1 1 else SetTable.below.go #[p] j 0 0 0) = _
  by_cases h : p < j
  · rw [if_pos h, if_pos (by simpa using h)]; rfl
  · rw [if_neg h, if_neg (by simpa using h)]; rfl
theorem next_int {slot i n : Nat} {P : PySem.Fin → Shared → Prop} {F : Value → Shared → Prop} (r : Rec w s.heap a es ep t) (ho : s.heap.get? it = some (itObj (.int slot 0) i es.size ep a))
    (h : wpAny (model prog w) A (setNext a slot i ep >>= fun m => match m with
          | some (x, next) => setField (.ref it) 0 (rawInt next) >>= fun _ => setField (.ref it) 1 (rawInt ((i : Int) + 1)) >>= fun _ => ret x
          | none => setField (.ref it) 2 .none >>= fun _ => newExc (.type "StopIteration") [] >>= fun e => raiseNew e) P F s) :
    wpAny (model prog w) A (Builtin.«set_iterator.__next__» ⟨[.ref it], []⟩) P F s := by
  unfold Builtin.«set_iterator.__next__» slotArgs
  simp only [List.isEmpty_nil, Bool.not_true, Bool.false_eq_true, if_false, List.length_nil, bne_self_eq_false]
  refine wpAny_bind (wpAny_pure (wpAny_bind (wpAny_fieldsOf ho rfl ?_)))
  dsimp only
  unfold setEntries
  refine wpAny_bind (wpAny_bind (state_of r (wpAny_pure ?_)))
  simp only [bne_self_eq_false, Bool.false_eq_true, if_false, Int.toNat_natCast]
  exact h
theorem next_ref {tp i n : Nat} {items : Array Value} {P : PySem.Fin → Shared → Prop} {F : Value → Shared → Prop} (r : Rec w s.heap a es ep t) (ho : s.heap.get? it = some (itObj (.ref tp) i es.size ep a)) (ht : s.heap.IsTuple tp items)
    (h : wpAny (model prog w) A (match items[i]? with
            | some (.int place _) => setNextDrawn a place.toNat ep >>= fun x => setField (.ref it) 1 (rawInt ((i : Int) + 1)) >>= fun _ => ret x
            | some _ => unsupported "internal:set_iterator"
            | none => setField (.ref it) 0 (rawInt 0) >>= fun _ => setField (.ref it) 2 .none >>= fun _ => newExc (.type "StopIteration") [] >>= fun e => raiseNew e) P F s) :
    wpAny (model prog w) A (Builtin.«set_iterator.__next__» ⟨[.ref it], []⟩) P F s := by
  unfold Builtin.«set_iterator.__next__» slotArgs
  simp only [List.isEmpty_nil, Bool.not_true, Bool.false_eq_true, if_false, List.length_nil, bne_self_eq_false]
  refine wpAny_bind (wpAny_pure (wpAny_bind (wpAny_fieldsOf ho rfl ?_)))
  dsimp only
  unfold setEntries
  refine wpAny_bind (wpAny_bind (state_of r (wpAny_pure ?_)))
  simp only [bne_self_eq_false, Bool.false_eq_true, if_false, Int.toNat_natCast]
  obtain ⟨o, ho', _, n', hd⟩ := ht
  exact wpAny_bind (wpAny_seqItems ho' hd h)
theorem set_fields {h : Heap} {first : Value} {i n ep : Nat} (ho : h.get? it = some (itObj first i n ep a)) (k : Nat) (x : Value) (vs : Array Value)
    (e : (#[first, .int i 0, .ref a, .int n 0, .int ep 0] : Array Value).setIfInBounds k x = vs) : (h.update it (Obj.mapFields (·.setIfInBounds k x))).get? it = some { cls := .type "set_iterator", data := .fields vs } := by
  subst e
  exact Heap.get?_update_self _ ho rfl
/-- what the walk gives by a number: the place's entry -/
theorem setNext_text {i : Nat} {slot : Nat} {Q : Option (Value × Nat) → Shared → Prop} (r : Rec w s.heap a es ep t) (hb : byText w = true)
    (h : Q (((pickOrder (w.params.setOrder a ep) es)[i]?).map fun e => (e.2, slot)) s) : wpAny (model prog w) A (setNext a slot i ep) Q E s := by
  have hb' : w.params.followText "set-order" = true := hb
  unfold setNext setsByText
  refine wpAny_bind (state_of r ?_)
  refine wpAny_bind (wpAny_bind (wpAny_askSetting (wpAny_pure ?_)))
  simp only [model, hb', if_true, bne_self_eq_false, Bool.false_eq_true, if_false]
  unfold setWalk setsByText
  refine wpAny_bind (wpAny_bind (state_of r ?_))
  refine wpAny_bind (wpAny_bind (wpAny_askSetting (wpAny_pure ?_)))
  simp only [model, hb', if_true]
  exact wpAny_bind (wpAny_askSetting (wpAny_pure (wpAny_pure h)))
theorem setNext_one {i : Nat} {slot : Nat} {Q : Option (Value × Nat) → Shared → Prop} (r : Rec w s.heap a es ep t) (hb : byText w = false) (hl : t.led = true) (h1 : es.size ≤ 1)
    (h : Q (match es[SetTable.below t.place slot]?, t.place[SetTable.below t.place slot]? with | some (_, x), some j => some (x, j + 1) | _, _ => none) s) : wpAny (model prog w) A (setNext a slot i ep) Q E s := by
  have hb' : w.params.followText "set-order" = false := hb
  unfold setNext setsByText
  refine wpAny_bind (state_of r ?_)
  refine wpAny_bind (wpAny_bind (wpAny_askSetting (wpAny_pure ?_)))
  simp only [model, hb', Bool.false_eq_true, if_false]
  have hd : (!t.plain && decide (es.size > 1)) = false := by rw [decide_eq_false (by omega), Bool.and_false]
  have hm : (!t.led && !es.isEmpty) = false := by rw [hl]; rfl
  show wpAny (model prog w) A (if (!t.plain && decide (es.size > 1)) = true then _ else ((if (!t.led && !es.isEmpty) = true then unsupported "set:maker-not-led" else pure ()) >>= fun _ => pure _)) Q E s
  rw [hd, hm]
  exact wpAny_bind (wpAny_pure (wpAny_pure h))
theorem drawn_next {p : Nat} {x : Value} {hx : Int} {Q : Value → Shared → Prop} (r : Rec w s.heap a es ep t) (hp : es[p]? = some (hx, x)) (h : Q x s) : wpAny (model prog w) A (setNextDrawn a p ep) Q E s := by
  unfold setNextDrawn
  refine wpAny_bind (state_of r ?_)
  simp only [bne_self_eq_false, Bool.false_eq_true, if_false, hp]
  exact wpAny_pure h
/-- the walk is at its end: StopIteration -/
theorem stop_it (hh : A.handled = none) {R : Option Value → Shared → Prop} (hR : ∀ h', (∀ b o, s.heap.get? b = some o → h'.get? b = some o) → R none { s with heap := h' }) :
    wpAny (model prog w) A.in1 (newExc (.type "StopIteration") [] >>= fun e => (raiseNew e : Sem PySem.Fin)) (fun _ _ => False)
      (fun e s' => wpAny (model prog w) A (isInstance e (.type "StopIteration") >>= fun b => if b = true then pure none else throw e) R E s') s := by
  refine wpAny_bind ?_
  simp only [newExc, newTuple]
  refine wpAny_bind (wpAny_newObj_type (wpAny_bind (m := firstArgMember _ _) (wpAny_of_eq (a := Value.none) (by first | rfl | (simp only [firstArgMember]; rfl)) (wpAny_newObj_type ?_ (by size_fits)))) (by size_fits))
  simp only [raiseNew]; refine wpAny_bind (wpAny_handled ?_); rw [show A.in1.handled = none from hh]
  refine wpAny_bind (wpAny_pure (wpAny_throw ?_)); refine wpAny_bind (wpAny_isInstance (T := "StopIteration") (b := true) ⟨_, Heap.get?_push_size _ rfl, rfl⟩ isSubtype_stop ?_)
  exact wpAny_pure (hR _ fun b o e => Heap.get?_push_of_some _ (Heap.get?_push_of_some _ e))

theorem call_next {first : Value} {i n : Nat} {Q : Option Value → Shared → Prop} (ho : s.heap.get? it = some (itObj first i n ep a))
    (h : wpAny (model prog w) A.in1 (Builtin.«set_iterator.__next__» ⟨[.ref it], []⟩) (fun fin s' => ∃ u, fin = .done (.ret u) ∧ Q (some u) s')
      (fun e s' => wpAny (model prog w) A (isInstance e (.type "StopIteration") >>= fun b => if b = true then pure none else throw e) Q E s') s) : wpAny (model prog w) A (pyNext (.ref it)) Q E s := by
  have hT : s.TypeIs (.ref it) "set_iterator" := ⟨_, ho, rfl⟩
  unfold pyNext
  refine wpAny_bind (wpAny_attempt (wpAny_callSpecial?_slot (name := Str.ofString "__next__") hT F.slot_next (wpAny_call_entry F.slot_next hT F.entry_next ?_ (F.args_next _))))
  exact wpAny_mono h (fun fin s' ⟨u, e, q⟩ => ⟨u, e, wpAny_pure q⟩) fun _ _ z => z

theorem next_item {tq : List Addr} {order : List Value} {i : Nat} {v : Value} {Q : Option Value → Shared → Prop} (r : Rec w s.heap a es ep t) (x : At w s.heap it a es ep t tq order i) (hv : order[i]? = some v)
    (hQ : ∀ h', At w h' it a es ep t tq order (i + 1) → Heap.SameBut it s.heap h' → Q (some v) { s with heap := h' }) : wpAny (model prog w) A (pyNext (.ref it)) Q E s := by
  have hc : ((i : Int) + 1) = ((i + 1 : Nat) : Int) := by omega
  cases x with
  | drawn tp ps _ hne ho ht hp =>
    refine call_next ho (next_ref (n := 0) r ho ht ?_)
    rw [List.getElem?_map] at hv
    cases hpi : ps[i]? with
    | none => rw [hpi] at hv; cases hv
    | some p =>
      rw [hpi] at hv
      have hlt : p < es.size := List.mem_range.mp (hp.mem_iff.mp (List.mem_of_getElem? hpi))
      have e1 : (ps.map fun (p : Nat) => Value.int (p : Int) 0).toArray[i]? = some (Value.int (p : Int) 0) := by simp [hpi]
      rw [e1]
      dsimp only
      have e2 : es[p]? = some (es[p].1, es[p].2) := by simp [hlt]
      have e3 : v = es[p].2 := by
        have q := Option.some.inj hv
        rw [← q]; simp [Array.getD, hlt]
      rw [Int.toNat_natCast]
      refine wpAny_bind (drawn_next r e2 (wpAny_bind (wpAny_setField ho rfl (by show 1 < 5; decide) (wpAny_pure ⟨_, rfl, ?_⟩))))
      rw [← e3]
      refine hQ _ (.drawn tp ps (i + 1) hne ?_ ?_ hp) (Heap.SameBut.update ..)
      · rw [hc]
        exact Heap.get?_update_self _ ho rfl
      · obtain ⟨o, q, c⟩ := ht
        exact ⟨o, (Heap.get?_update_other _ _ (Ne.symm hne)).trans q, c⟩
  | text slot _ hb ho =>
    refine call_next ho (next_int (n := 0) r ho (wpAny_bind (setNext_text r hb ?_)))
    rw [List.getElem?_map] at hv
    cases hpi : (pickOrder (w.params.setOrder a ep) es).toList[i]? with
    | none => rw [hpi] at hv; cases hv
    | some p =>
      rw [hpi] at hv
      have e1 : (pickOrder (w.params.setOrder a ep) es)[i]? = some p := by rw [← Array.getElem?_toList]; exact hpi
      have e3 : p.2 = v := Option.some.inj hv
      rw [e1]
      dsimp only [Option.map]
      rw [e3]
      have ho1 : (s.heap.update it (Obj.mapFields (·.setIfInBounds 0 (rawInt slot)))).get? it = some (itObj (.int slot 0) i es.size ep a) := Heap.get?_update_self _ ho rfl
      refine wpAny_bind (wpAny_setField ho rfl (by show 0 < 5; decide) (wpAny_bind (wpAny_setField ho1 rfl (by show 1 < 5; decide) (wpAny_pure ⟨_, rfl, ?_⟩))))
      refine hQ _ (.text slot (i + 1) hb ?_) ((Heap.SameBut.update ..).trans (Heap.SameBut.update ..))
      rw [hc]
      exact Heap.get?_update_self _ ho1 rfl
  | one slot _ hb hl h1 ho h0 h1' =>
    refine call_next ho (next_int (n := 0) r ho (wpAny_bind (setNext_one r hb hl h1 ?_)))
    have hi : i < es.size := by
      have q := (List.getElem?_eq_some_iff.mp hv).1
      simpa using q
    have hi0 : i = 0 := by omega
    subst hi0
    have hs0 := h0 rfl
    subst hs0
    have hsz : es.size = 1 := by omega
    have hps : t.place.size = 1 := by
      have q := r.fits
      simp only [SetTable.fits, Bool.and_eq_true, beq_iff_eq] at q
      omega
    obtain ⟨pl, hpl⟩ : ∃ pl, t.place = #[pl] := by
      rcases hq : t.place with ⟨l⟩
      rw [hq] at hps
      match l, hps with
      | [y], _ => exact ⟨y, rfl⟩
    have e0 : SetTable.below t.place 0 = 0 := by rw [hpl, below_one]; simp
    have e1 : es[0]? = some (es[0].1, es[0].2) := by simp [hi]
    have e3 : es[0].2 = v := by
      rw [List.getElem?_map] at hv
      have q : es.toList[0]? = some es[0] := by simp [hi]
      rw [q] at hv
      exact Option.some.inj hv
    have e2 : t.place[0]? = some pl := by rw [hpl]; rfl
    rw [e0, e1, e2]
    dsimp only
    rw [e3]
    have ho1 : (s.heap.update it (Obj.mapFields (·.setIfInBounds 0 (rawInt ((pl + 1 : Nat) : Int))))).get? it = some (itObj (.int ((pl + 1 : Nat) : Int) 0) 0 es.size ep a) := Heap.get?_update_self _ ho rfl
    refine wpAny_bind (wpAny_setField ho rfl (by show 0 < 5; decide) (wpAny_bind (wpAny_setField ho1 rfl (by show 1 < 5; decide) (wpAny_pure ⟨_, rfl, ?_⟩))))
    refine hQ _ (.one (pl + 1) 1 hb hl h1 ?_ (fun z => by cases z) fun _ => by rw [hpl]; rfl) ((Heap.SameBut.update ..).trans (Heap.SameBut.update ..))
    exact Heap.get?_update_self _ ho1 rfl

theorem next_done {tq : List Addr} {order : List Value} {Q : Option Value → Shared → Prop} (hh : A.handled = none) (r : Rec w s.heap a es ep t) (x : At w s.heap it a es ep t tq order es.size)
    (hQ : ∀ h', (∀ b o, b ≠ it → s.heap.get? b = some o → h'.get? b = some o) → Q none { s with heap := h' }) : wpAny (model prog w) A (pyNext (.ref it)) Q E s := by
  have up : ∀ (k : Nat) (y : Value) (h : Heap) (b : Addr) (o : Obj), b ≠ it → h.get? b = some o → (h.update it (Obj.mapFields (·.setIfInBounds k y))).get? b = some o := fun k y h b o hb e => (Heap.get?_update_other _ _ (Ne.symm hb)).trans e
  have two : ∀ (slot i : Nat), s.heap.get? it = some (itObj (.int slot 0) i es.size ep a) → wpAny (model prog w) A.in1 (setField (.ref it) 2 .none >>= fun _ => newExc (.type "StopIteration") [] >>= fun e => (raiseNew e : Sem PySem.Fin))
      (fun fin s' => ∃ u, fin = .done (.ret u) ∧ Q (some u) s') (fun e s' => wpAny (model prog w) A (isInstance e (.type "StopIteration") >>= fun b => if b = true then pure none else throw e) Q E s') s := fun slot i ho => by
    refine wpAny_bind (wpAny_setField ho rfl (by show 2 < 5; decide) ?_)
    exact wpAny_mono (stop_it (E := E) (R := Q) hh fun h' k => hQ h' fun b o hb e => k b o (up _ _ _ b o hb e)) (fun _ _ z => z.elim) fun _ _ z => z
  cases x with
  | drawn tp ps _ hne ho ht hp =>
    refine call_next ho (next_ref (n := 0) r ho ht ?_)
    have e1 : (ps.map fun (p : Nat) => Value.int (p : Int) 0).toArray[es.size]? = none := by
      have q := hp.length_eq
      rw [List.length_range] at q
      simp [q]
    rw [e1]
    dsimp only
    have ho1 : (s.heap.update it (Obj.mapFields (·.setIfInBounds 0 (rawInt 0)))).get? it = some (itObj (.int ((0 : Nat) : Int) 0) es.size es.size ep a) := Heap.get?_update_self _ ho rfl
    refine wpAny_bind (wpAny_setField ho rfl (by show 0 < 5; decide) (wpAny_bind (wpAny_setField ho1 rfl (by show 2 < 5; decide) ?_)))
    exact wpAny_mono (stop_it (E := E) (R := Q) hh fun h' k => hQ h' fun b o hb e => k b o (up _ _ _ b o hb (up _ _ _ b o hb e))) (fun _ _ z => z.elim) fun _ _ z => z
  | text slot _ hb ho =>
    refine call_next ho (next_int (n := 0) r ho (wpAny_bind (setNext_text r hb ?_)))
    have q := (pick_perm (w.params.setOrder a ep) es).length_eq
    have e1 : (pickOrder (w.params.setOrder a ep) es)[es.size]? = none := by
      simp only [Array.length_toList] at q
      simp [q]
    rw [e1]
    dsimp only [Option.map]
    exact two slot _ ho
  | one slot _ hb hl h1 ho h0 h1' =>
    refine call_next ho (next_int (n := 0) r ho (wpAny_bind (setNext_one r hb hl h1 ?_)))
    have hps : t.place.size = es.size := by
      have q := r.fits
      simp only [SetTable.fits, Bool.and_eq_true, beq_iff_eq] at q
      exact q.1
    have e0 : es[SetTable.below t.place slot]? = none := by
      by_cases hz : es.size = 0
      · simp [hz]
      · have hsz : es.size = 1 := by omega
        obtain ⟨pl, hpl⟩ : ∃ pl, t.place = #[pl] := by
          rcases hq : t.place with ⟨l⟩
          rw [hq] at hps
          match l, (by simpa [hsz] using hps : l.length = 1) with
          | [y], _ => exact ⟨y, rfl⟩
        have hs1 := h1' hsz
        rw [hpl] at hs1
        have hs2 : slot = pl + 1 := hs1
        rw [hpl, below_one, hs2, if_pos (by omega)]
        simp [hsz]
    rw [e0]
    dsimp only
    exact two slot _ ho

theorem drawnB_of {Q : Bool → Shared → Prop} (r : Rec w s.heap a es ep t) (h : Q (!byText w && (!t.plain && decide (es.size > 1))) s) : wpAny (model prog w) A (setDrawn a) Q E s := by
  unfold setDrawn setsByText
  refine wpAny_bind (state_of r ?_)
  exact wpAny_bind (wpAny_bind (wpAny_askSetting (wpAny_pure (wpAny_pure h))))
theorem At.keep {h h' : Heap} {tq : List Addr} {order : List Value} {i : Nat} (x : At w h it a es ep t tq order i) (k : ∀ b ∈ it :: tq, ∀ o, h.get? b = some o → h'.get? b = some o) : At w h' it a es ep t tq order i := by
  cases x with
  | drawn tp ps _ hne ho ht hp =>
    obtain ⟨o, q, c⟩ := ht
    exact .drawn tp ps i hne (k it (by simp) _ ho) ⟨o, k tp (by simp) o q, c⟩ hp
  | text slot _ hb ho => exact .text slot i hb (k it (by simp) _ ho)
  | one slot _ hb hl h1 ho h0 h1' => exact .one slot i hb hl h1 (k it (by simp) _ ho) h0 h1'
theorem At.len {h : Heap} {tq : List Addr} {order : List Value} {i : Nat} (x : At w h it a es ep t tq order i) : order.Perm (es.toList.map (·.2)) := by
  cases x with
  | drawn tp ps _ hne ho ht hp =>
    have e : (List.range es.size).map (fun p => (es.getD p (0, Value.none)).2) = es.toList.map (·.2) := by
      apply List.ext_getElem
      · simp
      · intro j h1 h2
        simp at h1
        simp [Array.getD, h1]
    rw [← e]
    exact hp.map _
  | text slot _ hb ho => exact (pick_perm _ _).map _
  | one slot _ hb hl h1 ho h0 h1' => exact List.Perm.refl _
/-- iter(a set) -/
theorem iter_set {Q : Value → Shared → Prop} (r : Rec w s.heap a es ep t)
    (h : ∀ (h' : Heap) (d : Drawn) (it : Addr) (tq : List Addr) (order : List Value), (∀ b o, s.heap.get? b = some o → h'.get? b = some o) → s.heap.objs.size ≤ it → (∀ b ∈ it :: tq, s.heap.objs.size ≤ b ∧ b < h'.objs.size) → At w h' it a es ep t tq order 0 →
      Q (.ref it) { s with heap := h', drawn := d }) : wpAny (model prog w) A (pyIter (.ref a)) Q E s := by
  refine wpAny_pyIter_slot r.type PySem.F.slot_set_iter (wpAny_call_entry PySem.F.slot_set_iter r.type F.entry_set_iter ?_ (PySem.F.args_set_iter_1 _))
  unfold Builtin.«frozenset.__iter__» Builtin.Frozenset.slot0 slotArgs
  simp only [List.isEmpty_nil, Bool.not_true, Bool.false_eq_true, if_false, List.length_nil, bne_self_eq_false, bind_assoc]
  unfold Builtin.Frozenset.addrOf Builtin.Frozenset.sizeOf setEntries setEpoch
  refine wpAny_bind (wpAny_pure ?_)
  dsimp only
  refine wpAny_bind (wpAny_pure ?_)
  simp only [bind_assoc]
  refine wpAny_bind (state_of r (wpAny_bind (wpAny_pure (wpAny_bind (wpAny_pure (wpAny_bind (drawnB_of r ?_)))))))
  cases hd : (!byText w && (!t.plain && decide (es.size > 1))) with
  | true =>
    simp only [Bool.and_eq_true, Bool.not_eq_true', decide_eq_true_eq] at hd
    simp only [if_true, bind_assoc]
    refine wpAny_bind (draw_any es.size (List.range es.size) _ _ (by simp) fun ps d hp => ?_)
    refine wpAny_bind (wpAny_newTuple ?_ (by rw [List.length_map, hp.length_eq, List.length_range]; exact fits_of_scanBound r.sz))
    dsimp only
    have hz : (s.heap.push { cls := .type "tuple", data := .seq (ps.map fun (i : Nat) => rawInt (i : Int)).toArray }).objs.size = s.heap.objs.size + 1 := Heap.size_push ..
    have r1 : Rec w (s.heap.push { cls := .type "tuple", data := .seq (ps.map fun (i : Nat) => rawInt (i : Int)).toArray }) a es ep t := r.keep fun o e => Heap.get?_push_of_some _ e
    refine wpAny_bind (state_of (s := { s with heap := s.heap.push { cls := .type "tuple", data := .seq (ps.map fun (i : Nat) => rawInt (i : Int)).toArray }, drawn := d }) r1 (wpAny_bind (wpAny_pure (wpAny_bind (wpAny_newObj_type (wpAny_pure ?_))))))
    refine ⟨_, rfl, "set_iterator", _, ⟨_, Heap.get?_push_size _ rfl, rfl⟩, F.slot_next.lookup, ?_⟩
    refine h _ d _ [s.heap.objs.size] _ (fun b o e => Heap.get?_push_of_some _ (Heap.get?_push_of_some _ e)) (by rw [hz]; exact Nat.le_succ _) (fun b hb => ?_)
      (.drawn s.heap.objs.size ps 0 (by rw [hz]; exact Nat.ne_of_lt (Nat.lt_succ_self _)) (Heap.get?_push_size _ rfl) ⟨_, Heap.get?_push_of_some _ (Heap.get?_push_size _ rfl), rfl, _, rfl⟩ hp)
    rw [Heap.size_push, hz]
    rcases List.mem_cons.mp hb with e | hb
    · rw [hz] at e
      rw [e]
      exact ⟨Nat.le_succ _, Nat.lt_succ_self _⟩
    · have e := List.mem_singleton.mp hb
      rw [e]
      exact ⟨Nat.le_refl _, Nat.lt_succ_of_lt (Nat.lt_succ_self _)⟩
  | false =>
    simp only [Bool.false_eq_true, if_false]
    refine wpAny_bind (wpAny_pure (wpAny_bind (state_of r (wpAny_bind (wpAny_pure (wpAny_bind (wpAny_newObj_type (wpAny_pure ?_))))))))
    refine ⟨_, rfl, "set_iterator", _, ⟨_, Heap.get?_push_size _ rfl, rfl⟩, F.slot_next.lookup, ?_⟩
    have fin : ∀ order, At w (s.heap.push (itObj (.int ((0 : Nat) : Int) 0) 0 es.size ep a)) s.heap.objs.size a es ep t [] order 0 → Q (.ref s.heap.objs.size) { s with heap := s.heap.push (itObj (.int ((0 : Nat) : Int) 0) 0 es.size ep a) } := fun order x =>
      h _ s.drawn _ [] order (fun b o e => Heap.get?_push_of_some _ e) (Nat.le_refl _) (fun b hb => by
        have e : b = s.heap.objs.size := by simpa using hb
        subst e
        rw [Heap.size_push]
        exact ⟨Nat.le_refl _, Nat.lt_succ_self _⟩) x
    cases hb : byText w with
    | true => exact fin _ (.text 0 0 hb (Heap.get?_push_size _ rfl))
    | false =>
      rw [hb] at hd
      have hl : t.led = true := by
        rcases r.led with z | z
        · exact z
        · have z' : byText w = true := z
          rw [hb] at z'; cases z'
      have h1 : es.size ≤ 1 := by
        rcases r.pl with z | z
        · omega
        · rw [z] at hd
          simp only [Bool.not_false, Bool.true_and, decide_eq_false_iff_not] at hd
          omega
      exact fin _ (.one 0 0 hb hl h1 (Heap.get?_push_size _ rfl) (fun _ => rfl) fun z => by cases z)

/-- the walk of a set, for the loops of the library -/
theorem walks {tq : List Addr} {order : List Value} (hh : A.handled = none) (hta : a ∉ it :: tq) (h0 : order.length = es.size) :
    WalksS prog w A it (it :: a :: tq) [it] (fun x y => y = x) es.size (fun i v => order[i]? = some v) (fun i s => Rec w s.heap a es ep t ∧ At w s.heap it a es ep t tq order i) where
  sub := fun b hb => by
    have e : b = it := by simpa using hb
    subst e
    exact List.mem_cons_self
  grefl := fun _ => rfl
  gtrans := fun _ _ _ h1 h2 => h2.trans h1
  frame := fun i s h' tk st _ k => ⟨st.1.keep fun o e => k a (by simp) o e, st.2.keep fun b hb o e => k b (by
    rcases List.mem_cons.mp hb with z | z
    · subst z; exact List.mem_cons_self
    · exact List.mem_cons_of_mem _ (List.mem_cons_of_mem _ z)) o e⟩
  item := fun i s Q E hi st hQ => by
    have hv : order[i]? = some (order[i]'(by omega)) := by simp
    refine next_item st.1 st.2 hv fun h' x sb => ?_
    have ne : a ≠ it := fun z => hta (by rw [z]; exact List.mem_cons_self)
    exact hQ _ _ hv ⟨st.1.keep fun o e => (sb.2 a ne).trans e, x⟩ ⟨fun b o hb e => (sb.2 b (fun z => hb (by simp [z]))).trans e, rfl, rfl, rfl, Nat.le_refl _⟩
  done := fun s Q E st hQ => next_done hh st.1 st.2 fun h' k => hQ _ ⟨fun b o hb e => k b o (fun z => hb (by simp [z])) e, rfl, rfl, rfl, Nat.le_refl _⟩
  self := fun i s Q E st hQ => by
    have hT : s.TypeIs (.ref it) "set_iterator" := by
      rcases st.2 with ⟨tp, ps, _, _, ho, _⟩ | ⟨slot, _, _, ho⟩ | ⟨slot, _, _, _, _, ho, _⟩
      · exact ⟨_, ho, rfl⟩
      · exact ⟨_, ho, rfl⟩
      · exact ⟨_, ho, rfl⟩
    refine wpAny_pyIter_slot hT F.slot_iter (wpAny_call_entry F.slot_iter hT F.entry_iter ?_ (F.args_iter _))
    show wpAny _ _ (ret (.ref it)) _ _ s
    exact wpAny_pure ⟨_, rfl, "set_iterator", _, hT, F.slot_next.lookup, hQ⟩

/-- the items of a set, in some order: what sorted and list begin with -/
theorem collect_set {Q : List Value → Shared → Prop} (hh : A.handled = none) (r : Rec w s.heap a es ep t)
    (h : ∀ (h' : Heap) (d : Drawn) (tk : Nat) (order : List Value), order.Perm (es.toList.map (·.2)) → (∀ b o, s.heap.get? b = some o → h'.get? b = some o) → Q order { s with heap := h', drawn := d, toks := tk }) : wpAny (model prog w) A (collect (.ref a)) Q E s := by
  unfold collect
  refine wpAny_bind (wpAny_runValue (codeAny_builtin PySem.F.entry_proto_collect ?_)); rw [Around.under_plainId PySem.F.plain_proto_collect _]
  show wpAny _ A.in1 (newList [] >>= fun l => again (.builtin "list.__iadd__" ⟨[l, .ref a], []⟩)) _ _ s
  refine wpAny_bind (wpAny_newList (wpAny_pure ⟨plainId_quiet PySem.F.plain_list_iadd _, codeAny_builtin PySem.F.entry_list_iadd ?_⟩)); rw [Around.under_plainId PySem.F.plain_list_iadd _]
  have hS0 : (s.heap.push { cls := .type "list", data := .seq ([] : List Value).toArray }).get? s.heap.objs.size = some { cls := .type "list", data := .seq ([] : List Value).toArray } := Heap.get?_push_size _ rfl
  have hz0 : (s.heap.push { cls := .type "list", data := .seq ([] : List Value).toArray }).objs.size = s.heap.objs.size + 1 := Heap.size_push ..
  have r0 : Rec w (s.heap.push { cls := .type "list", data := .seq ([] : List Value).toArray }) a es ep t := r.keep fun o e => Heap.get?_push_of_some _ e
  have haS : a < s.heap.objs.size := by obtain ⟨o, e, _⟩ := r.obj; exact Heap.lt_size e
  show wpAny _ A.in1 (Builtin.List.listExtendWith (.ref s.heap.objs.size) (.ref a) (.ref s.heap.objs.size)) _ _ { s with heap := s.heap.push { cls := .type "list", data := .seq ([] : List Value).toArray } }
  unfold Builtin.List.listExtendWith
  refine wpAny_bind (wpAny_typeOf (T := "set") r0.type ?_)
  have h1 : Builtin.List.listSameRef (.ref s.heap.objs.size) (.ref a) = false := by simp [Builtin.List.listSameRef, Nat.ne_of_gt haS]
  have h2 : (Value.type "set" == Value.type "list") = false := by decide
  have h3 : (Value.type "set" == Value.type "tuple") = false := by decide
  simp only [h1, h2, h3, Bool.or_false, Bool.false_eq_true, if_false]
  refine wpAny_bind (iter_set (s := { s with heap := s.heap.push { cls := .type "list", data := .seq ([] : List Value).toArray } }) r0 fun h' d it tq order kp hit hfp x => ?_)
  have rT : Shared.TypeIs { s with heap := h', drawn := d } (.ref a) "set" := (r0.keep fun o e => kp a o e).type
  have room : ∀ {Q' : Bool → Shared → Prop} {A' : Around} {E' : Value → Shared → Prop}, Q' false { s with heap := h', drawn := d } → wpAny (model prog w) A' (Builtin.List.listLengthHint (.ref a)) Q' E' { s with heap := h', drawn := d } := fun {Q' A' E'} hq => by
    unfold Builtin.List.listLengthHint
    refine wpAny_bind (wpAny_specialOf rT PySem.F.slot_set_len.lookup ?_); generalize hid : ("set.__len__" : String) = id0; wp_delta
    rw [show splitId id0 = some ("set", "__len__") from by subst hid; decide +kernel]
    subst hid; refine wpAny_bind (wpAny_isInstance (T := "set") (b := true) rT (by rw [isSubtype_type]; kernel_rfl) ?_)
    refine wpAny_ite_split (fun hab => absurd hab (by decide)) (fun _ => wpAny_ite_split (fun _ => ?_) (fun hab => absurd (by decide +kernel) hab))
    exact wpAny_bind (wpAny_typeOf rT (wpAny_pure hq))
  refine wpAny_bind (wpAny_holding (room ?_))
  show wpAny _ A.in1 (rule "list.extend.makes-room" >>= fun _ => Builtin.List.listTouch (.ref s.heap.objs.size) >>= fun _ => again (.builtin "list.extend.loop" ⟨[.ref s.heap.objs.size, .ref it, .ref s.heap.objs.size], []⟩)) _ _ { s with heap := h', drawn := d }
  refine wpAny_bind (wpAny_rule ?_)
  have hS1 : h'.get? s.heap.objs.size = some { cls := .type "list", data := .seq ([] : List Value).toArray } := kp _ _ hS0
  refine wpAny_bind ?_
  show wpAny _ A.in1 (updateSeq s.heap.objs.size (·.push .none) >>= fun _ => updateSeq s.heap.objs.size (·.pop)) _ _ { s with heap := h', drawn := d }
  refine wpAny_bind (wpAny_updateSeq hS1 rfl ?_)
  have hS2 := Heap.get?_update_self (Obj.mapSeq (·.push Value.none)) hS1 rfl
  refine wpAny_updateSeq hS2 rfl ?_
  have hS3 := Heap.get?_update_self (Obj.mapSeq (·.pop)) hS2 rfl
  have oth : ∀ b o, b ≠ s.heap.objs.size → h'.get? b = some o → ((h'.update s.heap.objs.size (Obj.mapSeq (·.push Value.none))).update s.heap.objs.size (Obj.mapSeq (·.pop))).get? b = some o :=
    fun b o hb e => (Heap.get?_update_other _ _ (Ne.symm hb)).trans ((Heap.get?_update_other _ _ (Ne.symm hb)).trans e)
  have hlow : ∀ b ∈ it :: tq, s.heap.objs.size < b := fun b hb => by
    have q := (hfp b hb).1
    dsimp only at q
    rw [hz0] at q
    exact q
  have hta : a ∉ it :: tq := fun z => Nat.lt_asymm haS (hlow a z)
  have hSf : s.heap.objs.size ∉ it :: a :: tq := fun z => by
    rcases List.mem_cons.mp z with e | z
    · exact absurd (hlow it List.mem_cons_self) (by rw [← e]; exact Nat.lt_irrefl _)
    · rcases List.mem_cons.mp z with e | z
      · exact absurd haS (by rw [← e]; exact Nat.lt_irrefl _)
      · exact absurd (hlow _ (List.mem_cons_of_mem _ z)) (Nat.lt_irrefl _)
  have W := walks (prog := prog) (w := w) (A := A.in1) (it := it) (a := a) (es := es) (ep := ep) (t := t) (tq := tq) (order := order) (by simpa using hh) hta (by rw [x.len.length_eq]; simp)
  refine wpAny_pure ⟨plainId_quiet PySem.F.plain_extend_loop _, codeAny_extend_loopS W (fits_of_scanBound r.sz) _ hSf _ es.size 0 _ _ _ rfl (Nat.zero_le _) ⟨(r0.keep fun o e => kp a o e).keep fun o e => oth a o (Nat.ne_of_lt haS) e, x.keep fun b hb o e => oth b o (Nat.ne_of_gt (hlow b hb)) e⟩ hS3 (ItemsOf.nil _) fun s' acc' c' hm hS' hacc => ?_⟩
  show wpAny _ A (load s.heap.objs.size >>= _) _ _ s'
  refine wpAny_bind (wpAny_load hS' (wpAny_pure ?_))
  have eacc : acc'.toList = order := by
    apply List.ext_getElem?
    intro j
    by_cases hj : j < es.size
    · have q1 : acc'[j]? = some (acc'[j]'(by rw [hacc.1]; exact hj)) := by simp [hacc.1, hj]
      have q2 := hacc.2 j _ q1
      rw [q2, ← q1]; simp
    · have q1 : acc'.toList[j]? = none := by simp [hacc.1]; omega
      have q3 : order.length = es.size := by rw [x.len.length_eq]; simp
      have q2 : order[j]? = none := by simp [q3]; omega
      rw [q1, q2]
  rw [eacc]
  obtain ⟨h2', g2, d2, t2, o2⟩ := s'
  have e1 : g2 = s.gens := hm.gens
  have e2 : d2 = d := hm.drawn
  have e3 : o2 = s.os := hm.os
  subst e1 e2 e3
  refine h h2' d2 t2 order x.len fun b o e => ?_
  have hb : b < s.heap.objs.size := Heap.lt_size e
  refine hm.heap b o (fun z => ?_) (oth b o (Nat.ne_of_lt hb) (kp b o (Heap.get?_push_of_some _ e)))
  rcases List.mem_cons.mp z with q | q
  · exact Nat.ne_of_lt hb q
  · have q' : b = it := by simpa using q
    exact absurd (hlow it List.mem_cons_self) (by rw [← q']; exact Nat.lt_asymm hb)
end
end JS

set_option Elab.async false
set_option linter.all false
set_option maxRecDepth 100000
set_option maxHeartbeats 4000000
namespace JS
open PySem PySem.Spec PyProof.Rows

def sOf : Value → Str
  | .str x _ => x
  | _ => Str.empty
theorem led_standIn (t : SetTable) (n : Nat) : (t.standIn n).led = t.led ∧ (t.standIn n).plain = false := ⟨rfl, rfl⟩
theorem led_relaid {t t' : SetTable} {hs : Array Int} {n : Nat} {o : Array Nat} (h : t.relaid hs n = some (t', o)) : t'.led = t.led ∧ t'.plain = t.plain := by
  unfold SetTable.relaid SetTable.laid at h
  cases e : SetTable.layClean (SetTable.sizeAbove n - 1) hs with
  | none => rw [e] at h; cases h
  | some ow =>
    rw [e] at h
    have q := Option.some.inj h
    rw [← (Prod.mk.inj q).1]
    exact ⟨rfl, rfl⟩
theorem led_layNew (t : SetTable) (es : Array (Int × Value)) (h : Int) (x : Value) : (layNew t es h x).2.1.led = t.led ∧ (t.plain = false → (layNew t es h x).2.1.plain = false) := by
  unfold layNew
  cases e : t.freeSlot h with
  | none => exact ⟨rfl, fun _ => rfl⟩
  | some p =>
    obtain ⟨slot, dm⟩ := p
    dsimp only
    unfold SetTable.orStandIn
    split
    · exact ⟨rfl, fun z => z⟩
    · exact ⟨rfl, fun _ => rfl⟩
theorem led_relay (t : SetTable) (es : Array (Int × Value)) (n : Nat) : (relayAll t es n).2.1.led = t.led ∧ (t.plain = false → (relayAll t es n).2.1.plain = false) := by
  unfold relayAll
  cases e : t.relaid (es.map (·.1)) n with
  | none => exact ⟨rfl, fun _ => rfl⟩
  | some p =>
    obtain ⟨t', o⟩ := p
    dsimp only
    split
    · exact ⟨(led_relaid e).1, fun z => (led_relaid e).2.trans z⟩
    · exact ⟨rfl, fun _ => rfl⟩

/-- a set of texts: xs are its members, each once -/
def StrSet (prog : Program) (w : World) (h : Heap) (a : Addr) (xs : List Str) : Prop :=
  ∃ es ep t, Rec w h a es ep t ∧ ElemsOf (PySem.strKind prog w) es.toList ∧ (es.toList.map fun e => sOf e.2).Perm xs ∧ xs.Nodup
def addS (xs : List Str) (y : Str) : List Str := if y ∈ xs then xs else y :: xs

section
variable {prog : Program} {w : World} {A : Around} {E : Value → Shared → Prop} {s : Shared} {a : Addr}
theorem StrSet.keep {h h' : Heap} {xs : List Str} (S : StrSet prog w h a xs) (k : ∀ o, h.get? a = some o → h'.get? a = some o) : StrSet prog w h' a xs :=
  let ⟨es, ep, t, r, q⟩ := S; ⟨es, ep, t, r.keep k, q⟩
theorem put_rec {h : Heap} {es es' : Array (Int × Value)} {ep : Nat} {t t' : SetTable} (r : Rec w h a es ep t) (hf : t'.fits es'.size = true) (hl : t'.led = t.led) (hp : t'.plain = false) (hz : es'.size < scanBound) :
    Rec w (h.update a (Obj.putSet es' t')) a es' (ep + 1) t' := by
  obtain ⟨o, ho, hex, hd⟩ := r.obj
  have hg : (h.update a (Obj.putSet es' t')).get? a = some { o with data := .set es' (ep + 1) t' } := by
    have q := Heap.get?_update_self (Obj.putSet es' t') ho (by rw [putSet_of es' t' hd]; rfl)
    rwa [putSet_of es' t' hd] at q
  exact ⟨⟨_, hg, hex, rfl⟩, hf, by rw [hl]; exact r.led, .inr hp, hz⟩
theorem store_any {es es' : Array (Int × Value)} {ep : Nat} {t t' : SetTable} {Q : Unit → Shared → Prop} (r : Rec w s.heap a es ep t) (hz : es'.size < scanBound) (h : Q () { s with heap := s.heap.update a (Obj.putSet es' t') }) : wpAny (model prog w) A (storeSet a es' t') Q E s := by
  obtain ⟨o, ho, _, hd⟩ := r.obj
  exact wpAny_storeSet_of ho hd h (fits_of_scanBound hz)
theorem sOf_mem {es : List (Int × Value)} {y : Str} (hel : ElemsOf (PySem.strKind prog w) es) : (∃ e ∈ es, (PySem.strKind prog w).is y e.2 = true) ↔ y ∈ es.map fun e => sOf e.2 := by
  constructor
  · rintro ⟨e, he, hi⟩
    obtain ⟨t, q⟩ := Value.isStrOf_shape (show Value.isStrOf y e.2 = true from hi)
    exact List.mem_map.mpr ⟨e, he, by rw [q]; rfl⟩
  · intro hm
    obtain ⟨e, he, q⟩ := List.mem_map.mp hm
    obtain ⟨⟨k, hk, _⟩, _⟩ := hel e he
    obtain ⟨t, q'⟩ := Value.isStrOf_shape (show Value.isStrOf k e.2 = true from hk)
    refine ⟨e, he, ?_⟩
    rw [q'] at q
    have q2 : k = y := q
    rw [← q2]
    exact hk
theorem add_str {xs : List Str} {y : Str} {tk : Tok} {Q : Bool → Shared → Prop} (S : StrSet prog w s.heap a xs) (hroom : xs.length + 1 < scanBound)
    (h : ∀ h' b, Heap.SameBut a s.heap h' → StrSet prog w h' a (addS xs y) → Q b { s with heap := h' }) : wpAny (model prog w) A (setAddHashed a (.str y tk) (hashStr w y)) Q E s := by
  obtain ⟨es, ep, t, r, hel, hp, nd⟩ := S
  obtain ⟨o, ho, hex, hd⟩ := r.obj
  have hsz : es.size = xs.length := by rw [← hp.length_eq]; simp
  have hkey : (PySem.strKind prog w).is y (.str y tk) = true := by simp [PySem.strKind, Value.isStrOf]
  have hmem : (∃ e ∈ es.toList, (PySem.strKind prog w).is y e.2 = true) ↔ y ∈ xs := (sOf_mem hel).trans hp.mem_iff
  unfold setAddHashed setAddHashedIn
  refine wpAny_holding (wpAny_bind (state_of r ?_)); dsimp only; rw [byScan_of rfl r.sz hel]; simp only [if_true]
  unfold setAddByScan
  refine wpAny_bind (wpAny_bind (wpAny_rule (wpAny_bind (wpAny_setScan_of (knd := PySem.strKind prog w) hkey ho hd r.fits hel ?_))))
  cases hr : List.findIdx? (fun e => (PySem.strKind prog w).is y e.2) es.toList with
  | some j =>
    obtain ⟨hj, hpj, _⟩ := List.findIdx?_eq_some_iff_getElem.mp hr
    have hy : y ∈ xs := hmem.mp ⟨_, List.getElem_mem hj, hpj⟩
    have q := h s.heap false (Heap.SameBut.refl a s.heap) (by unfold addS; rw [if_pos hy]; exact ⟨es, ep, t, r, hel, hp, nd⟩)
    exact wpAny_pure (wpAny_pure q)
  | none =>
    have hy : y ∉ xs := fun z => by
      obtain ⟨e, he, hpe⟩ := hmem.mpr z
      have q := List.findIdx?_eq_none_iff.mp hr e he
      rw [hpe] at q; cases q
    dsimp only
    have hgw : ∀ (b : Bool) {s₁ : Shared} {Q' : Unit → Shared → Prop}, Q' () s₁ → wpAny (model prog w) A (match b with | true => rule "set.scan.the-table-gave-way" | false => pure ()) Q' E s₁ := fun b s₁ Q' hq => by
      cases b
      · exact wpAny_pure hq
      · exact wpAny_rule hq
    have p1 := layNew_perm t es (hashStr w y) (.str y tk)
    have f1 := layNew_fits t es (hashStr w y) (.str y tk)
    have l1 := led_layNew t es (hashStr w y) (.str y tk)
    generalize hL : layNew t es (hashStr w y) (.str y tk) = L at p1 f1 l1 ⊢
    obtain ⟨es1, t1, dm, gave⟩ := L
    dsimp only at p1 f1 l1 ⊢
    rw [Array.toList_push] at p1
    have hel1 : ElemsOf (PySem.strKind prog w) es1.toList := (hel.push hkey rfl).perm p1
    have z1 : es1.size = xs.length + 1 := by rw [← Array.length_toList, p1.length_eq, List.length_append, Array.length_toList, hsz]; rfl
    have b1 : es1.size < scanBound := by rw [z1]; exact hroom
    have m1 : (es1.toList.map fun e => sOf e.2).Perm (y :: xs) := by
      refine (p1.map _).trans ?_
      rw [List.map_append]
      exact (List.perm_append_comm).trans (hp.cons y)
    have nd1 : (y :: xs).Nodup := List.nodup_cons.mpr ⟨hy, nd⟩
    have eadd : addS xs y = y :: xs := by unfold addS; rw [if_neg hy]
    rw [eadd] at h
    refine wpAny_bind (hgw gave ?_)
    -- behind the hash's look the table is not plain
    have tail : ∀ t2 : SetTable, t2.fits es1.size = true → t2.led = t.led → t2.plain = false → wpAny (model prog w) A (do
        storeSet a es1 t2
        if (!dm && t2.tooFull) = true then do
          (match (relayAll t2 es1 (SetTable.grown es1.size)).2.2 with | true => rule "set.scan.the-table-gave-way" | false => pure ())
          storeSet a (relayAll t2 es1 (SetTable.grown es1.size)).1 (relayAll t2 es1 (SetTable.grown es1.size)).2.1
          pure (some true)
        else pure (some true)) (fun r s' => wpAny (model prog w) A (match r with | some added => pure added | none => setAddHashedIn a (.str y tk) (hashStr w y) 99999) Q E s') E s := fun t2 f2 l2 p2 => by
      have r2 := put_rec (w := w) r f2 l2 p2 b1
      have sb1 := Heap.SameBut.update s.heap a (Obj.putSet es1 t2)
      refine wpAny_bind (store_any r b1 ?_)
      split
      · have p3 := relayAll_perm t2 es1 (SetTable.grown es1.size)
        have f3 := relayAll_fits t2 es1 (SetTable.grown es1.size)
        have l3 := led_relay t2 es1 (SetTable.grown es1.size)
        generalize hR : relayAll t2 es1 (SetTable.grown es1.size) = R at p3 f3 l3 ⊢
        obtain ⟨es2, t3, gave2⟩ := R
        dsimp only at p3 f3 l3 ⊢
        have z2 : es2.size = es1.size := by rw [← Array.length_toList, p3.length_eq, Array.length_toList]
        refine wpAny_bind (hgw gave2 (wpAny_bind (store_any (s := { s with heap := s.heap.update a (Obj.putSet es1 t2) }) r2 (by rw [z2]; exact b1) (wpAny_pure (wpAny_pure ?_)))))
        exact h _ true (sb1.trans (Heap.SameBut.update _ a _)) ⟨es2, _, t3, put_rec r2 f3 l3.1 (l3.2 p2) (by rw [z2]; exact b1), hel1.perm p3, (p3.map _).trans m1, nd1⟩
      · exact wpAny_pure (wpAny_pure (h _ true sb1 ⟨es1, _, t2, r2, hel1, m1, nd1⟩))
    cases hpl : t1.plain with
    | true =>
      simp only [if_true]
      rw [hashByValue_scannable 8 (x := Value.str y tk) rfl]
      refine wpAny_bind (wpAny_pure ?_)
      exact tail { t1 with plain := false } (SetTable.fits_plain_off f1) l1.1 rfl
    | false =>
      simp only [Bool.false_eq_true, if_false]
      refine wpAny_bind (wpAny_pure ?_)
      exact tail t1 f1 l1.1 hpl
end
end JS

set_option Elab.async false
set_option linter.all false
set_option maxRecDepth 100000
set_option maxHeartbeats 4000000
namespace JS
open PySem PySem.Spec PyProof.Rows

theorem mem_addS {xs : List Str} {y x : Str} : x ∈ addS xs y ↔ x = y ∨ x ∈ xs := by
  unfold addS
  split
  · rename_i h
    constructor
    · exact .inr
    · rintro (rfl | h')
      · exact h
      · exact h'
  · exact List.mem_cons
theorem len_addS (xs : List Str) (y : Str) : (addS xs y).length ≤ xs.length + 1 := by
  unfold addS
  split
  · omega
  · simp
theorem mem_foldS : ∀ (ys xs : List Str) (x : Str), x ∈ ys.foldl addS xs ↔ x ∈ xs ∨ x ∈ ys
  | [], xs, x => by simp
  | y :: ys, xs, x => by
    rw [List.foldl_cons, mem_foldS ys (addS xs y) x, mem_addS, List.mem_cons]
    constructor
    · rintro ((h | h) | h)
      · exact .inr (.inl h)
      · exact .inl h
      · exact .inr (.inr h)
    · rintro (h | h | h)
      · exact .inl (.inr h)
      · exact .inl (.inl h)
      · exact .inr h
theorem len_foldS : ∀ (ys xs : List Str), (ys.foldl addS xs).length ≤ xs.length + ys.length
  | [], xs => by simp
  | y :: ys, xs => by
    rw [List.foldl_cons]
    have h1 := len_foldS ys (addS xs y)
    have h2 := len_addS xs y
    rw [List.length_cons]
    omega
theorem StrSet.nodup {prog : Program} {w : World} {h : Heap} {a : Addr} {xs : List Str} (S : StrSet prog w h a xs) : xs.Nodup := let ⟨_, _, _, _, _, _, n⟩ := S; n

section
variable {prog : Program} {w : World} {A : Around} {R : Result → Shared → Prop} {I : Addr} {fp wr : List Addr} {G : Array GenState → Array GenState → Prop} {n : Nat} {P : Nat → Value → Prop} {St : Nat → Shared → Prop}
/-- set.update's turns over texts -/
theorem update_loop (W : WalksS prog w A.in1 I fp wr G n P St) (S : Addr) (hSf : S ∉ fp) (ys : List Str) (hn : ys.length = n) (hval : ∀ i v, P i v → ∃ y t, ys[i]? = some y ∧ v = .str y t) (hb : n + 1 < scanBound) :
    ∀ (k i : Nat) (s : Shared), n - i = k → i ≤ n → St i s → StrSet prog w s.heap S ((ys.take i).foldl addS []) →
      (∀ s', Moved (S :: wr) G s s' → StrSet prog w s'.heap S (ys.foldl addS []) → R (.ok (.ret .none)) s') →
      codeAny (model prog w) A (.builtin "set.update.loop" ⟨[.ref S, .ref I], []⟩) R s := by
  have hSw : S ∉ wr := fun h => hSf (W.sub _ h)
  intro k
  induction k with
  | zero =>
    intro i s hk hi hst hS hR
    have hin : i = n := by omega
    subst hin
    refine codeAny_builtin PyProof.Rows.F.entry_set_update_loop ?_; rw [Around.under_plainId PyProof.Rows.F.plain_set_update_loop _]
    show wpAny _ A.in1 (pyNext (.ref I) >>= _) _ _ s
    refine wpAny_bind (W.done s _ _ hst fun s' hm => wpAny_pure (hR s' (hm.mono fun b hb => List.mem_cons_of_mem _ hb) ?_))
    rw [List.take_of_length_le (by omega)] at hS
    exact hS.keep fun o e => hm.heap S o hSw e
  | succ k ih =>
    intro i s hk hi hst hS hR
    have hlt : i < n := by omega
    refine codeAny_builtin PyProof.Rows.F.entry_set_update_loop ?_; rw [Around.under_plainId PyProof.Rows.F.plain_set_update_loop _]
    show wpAny _ A.in1 (pyNext (.ref I) >>= _) _ _ s
    refine wpAny_bind (W.item i s _ _ hlt hst fun v s' hP hst' hm => ?_)
    obtain ⟨y, t, hy, rfl⟩ := hval i v hP
    have hS' := hS.keep fun o e => hm.heap S o hSw e
    show wpAny _ A.in1 (holding [Value.str y t] (setAdd S (.str y t)) >>= _) _ _ s'
    refine wpAny_bind (wpAny_holding ?_)
    unfold setAdd
    refine wpAny_holding (wpAny_bind ((PySem.strKind prog w).pyHash (k := y) (by simp [PySem.strKind, Value.isStrOf]) ?_))
    have hroom : ((ys.take i).foldl addS []).length + 1 < scanBound := by
      have q := len_foldS (ys.take i) []
      rw [List.length_take] at q
      simp at q
      omega
    refine add_str (s := _) hS' hroom fun h' b hsb hS2 => ?_
    have hSi : StrSet prog w h' S ((ys.take (i + 1)).foldl addS []) := by
      rw [List.take_add_one, hy, List.foldl_append]
      exact hS2
    refine wpAny_pure ⟨plainId_quiet PyProof.Rows.F.plain_set_update_loop _, ih (i + 1) _ (by omega) hlt (W.frame _ s' _ _ hst' (by first | exact Nat.le_refl _ | exact Nat.le_succ _) fun b hb o e => ?_) hSi fun s'' hm'' hS'' => ?_⟩
    · rw [hsb.2 b (fun h : b = S => hSf (by rw [← h]; exact hb))]; exact e
    · refine hR s'' (Moved.trans W.gtrans ((hm.mono fun b hb => List.mem_cons_of_mem _ hb).then_heap (by first | exact Nat.le_refl _ | exact Nat.le_succ _) fun b o hb e => ?_) hm'') hS''
      rw [hsb.2 b (fun h : b = S => hb (by rw [h]; exact List.mem_cons_self))]; exact e
end
end JS

set_option Elab.async false
set_option linter.all false
set_option maxRecDepth 100000
set_option maxHeartbeats 4000000
namespace JS
open PySem PySem.Spec PyProof.Rows
abbrev setObj0 (w : World) : Obj := { cls := .type "set", dict := none, data := .set #[] 0 (.fresh 0 0 (!byText w)) }
theorem new_strset {prog : Program} {w : World} {h : Heap} {a : Addr} (e : h.get? a = some (setObj0 w)) : StrSet prog w h a [] := by
  refine ⟨#[], 0, _, ⟨⟨_, e, ⟨rfl, rfl, rfl⟩, rfl⟩, by rfl, ?_, .inl rfl, by decide⟩, fun z hz => by simp at hz, by simp, List.nodup_nil⟩
  show (!byText w) = true ∨ byText w = true
  cases byText w
  · exact .inl rfl
  · exact .inr rfl
section
variable {prog : Program} {w : World} {A : Around} {E : Value → Shared → Prop} {s : Shared}
theorem set_new (x : Value) {Q₁ : Value → Shared → Prop} (h : Q₁ (.ref s.heap.objs.size) { s with heap := s.heap.push (setObj0 w) }) :
    codeAny (model prog w) A (.call (.builtin "set.__new__") ⟨[.type "set", x], []⟩) (wants Q₁ E) s := by
  refine codeAny_of_tree ?_
  show wpAny _ A.in1 (do checkBuiltinCall "set.__new__" ⟨[.type "set", x], []⟩; again (.builtin "set.__new__" ⟨[.type "set", x], []⟩)) _ _ s
  refine wpAny_bind (wpAny_of_eq (PySem.F.newCall_set_1 x) (wpAny_pure ⟨plainId_quiet PySem.F.plain_set_new _, codeAny_builtin PySem.F.entry_set_new ?_⟩)); rw [Around.under_plainId PySem.F.plain_set_new _]
  unfold Builtin.«set.__new__» Builtin.Frozenset.newClass
  have hsub := sub_set_self
  obtain ⟨hp, g, d, tk, os⟩ := s
  dsimp only
  wp_walk
  refine wpAny_askSetting (wpAny_pure ?_); dsimp only; simp only [newObj]
  exact wpAny_bind (wpAny_alloc (wpAny_pure (wpAny_pure h)))
/-- set(a list of texts) -/
theorem call_set {l : Addr} {items : Array Value} {ys : List Str} {Q : Value → Shared → Prop} (hh : A.handled = none) (hl : s.heap.IsList l items) (hi : ∀ (i : Nat) v, items[i]? = some v → ∃ y t, ys[i]? = some y ∧ v = .str y t) (hy : ys.length = items.size) (hb : items.size + 1 < scanBound)
    (h : ∀ (h' : Heap) (tk : Nat), StrSet prog w h' s.heap.objs.size (ys.foldl addS []) → (∀ b o, s.heap.get? b = some o → h'.get? b = some o) → Q (.ref s.heap.objs.size) { s with heap := h', toks := tk }) :
    wpAny (model prog w) A (call (.type "set") [.ref l]) Q E s := by
  obtain ⟨c, tl, hmro⟩ := PySem.F.called_set.mro
  have hmade := PySem.F.called_set.made
  have hsub := PySem.F.called_set.sub
  refine wpAny_call (codeAny_of_tree ?_)
  show wpAny _ _ (callAny (.type "set") _) _ _ _
  refine wpAny_pure ⟨Code.quiet_builtin _ (by decide +kernel), codeAny_builtin PySem.F.entry_type_call ?_⟩
  rw [Around.under_plain (weight_type_call_type "set" [.ref l] []) rfl]
  have h1 := PySem.F.called_set.notType
  have h2 := PySem.F.called_set.canCreate
  have hct := PySem.F.typeCall_set_1 (.ref l)
  repeat (any_goals (first | assumption | wp_step))
  refine codeAny_mono (set_new (.ref l) (E := E) (Q₁ := fun ob s1 => ob = .ref s.heap.objs.size ∧ s1 = { s with heap := s.heap.push (setObj0 w) }) ⟨rfl, rfl⟩) fun r s1 hr => ?_
  cases r with
  | error e => exact hr
  | ok fl =>
    cases fl with
    | ret ob =>
      obtain ⟨rfl, rfl⟩ := hr
      have hS : (s.heap.push (setObj0 w)).get? s.heap.objs.size = some (setObj0 w) := Heap.get?_push_size _ rfl
      have hT : Shared.TypeIs { s with heap := s.heap.push (setObj0 w) } (.ref s.heap.objs.size) "set" := ⟨_, hS, rfl⟩
      have hli := PySem.F.called_set.init.lookup
      have hbi := PySem.F.called_set.init.bind (.ref s.heap.objs.size)
      repeat (any_goals (first | assumption | wp_step))
      refine codeAny_mono (codeAny_call_builtin (R := wants (fun r s2 => r = .none ∧ ∃ h' tk, s2 = { s with heap := h', toks := tk } ∧ StrSet prog w h' s.heap.objs.size (ys.foldl addS []) ∧ ∀ b o, s.heap.get? b = some o → h'.get? b = some o) E)
        PySem.F.called_set.init.plain PySem.F.entry_set_init (check_set_init_1 hT ?_)) fun r₂ s₂ hr₂ => ?_
      · obtain ⟨⟨ocls, odict, odata, oslots⟩, hol, hcl, nl, hdl⟩ := hl
        simp only at hcl hdl
        subst hcl; subst hdl
        have hol' : (s.heap.push (setObj0 w)).get? l = some { cls := .type "list", dict := odict, data := .seq items nl, slots := oslots } := Heap.get?_push_of_some _ hol
        have hsls := PySem.F.sub_list_set
        have hslf := PySem.F.sub_list_frozenset
        have hne : (Value.type "list" == Value.type "dict") = false := by decide
        have hl1 : (s.heap.push (setObj0 w)).IsList l items := ⟨_, hol', rfl, nl, rfl⟩
        unfold Builtin.«set.__init__» noKeywords Builtin.Frozenset.updateFrom; generalize hPI : pyIter = PI
        wp_walk
        subst hPI
        refine wpAny_pyIter_list hl1 (wpAny_bind (wpAny_runValue ?_))
        have hlS : l < s.heap.objs.size := Heap.lt_size hol
        have hz1 : (s.heap.push (setObj0 w)).objs.size = s.heap.objs.size + 1 := Heap.size_push ..
        have hneI : l ≠ (s.heap.push (setObj0 w)).objs.size := by rw [hz1]; exact Nat.ne_of_lt (Nat.lt_succ_of_lt hlS)
        have hSf : s.heap.objs.size ∉ [(s.heap.push (setObj0 w)).objs.size, l] := by
          rw [hz1]; intro z
          rcases List.mem_cons.mp z with e | e
          · exact absurd e (Nat.ne_of_lt (Nat.lt_succ_self _))
          · exact absurd (List.mem_singleton.mp e) (Nat.ne_of_gt hlS)
        refine update_loop ((Walks.list (by simp [hh]) _ l hneI items).toS) s.heap.objs.size hSf ys hy (fun i v hv => hi i v hv) hb (items.size - 0) 0 _ (by omega) (Nat.zero_le _) ⟨⟨_, Heap.get?_push_size _ rfl, rfl, rfl⟩, hl1.push _⟩ (new_strset (Heap.get?_push_of_some _ hS)) fun s' hm hS' => ?_
        obtain ⟨h', g', d', tk', os'⟩ := s'
        have eg : g' = s.gens := hm.gens
        have ed : d' = s.drawn := hm.drawn
        have eo : os' = s.os := hm.os
        subst eg; subst ed; subst eo
        refine wpAny_pure (wpAny_pure ⟨rfl, h', tk', rfl, hS', fun b o e => ?_⟩)
        have hb' : b < s.heap.objs.size := Heap.lt_size e
        refine hm.heap b o (fun z => ?_) (Heap.get?_push_of_some _ (Heap.get?_push_of_some _ e))
        rcases List.mem_cons.mp z with q | q
        · exact Nat.ne_of_lt hb' q
        · have q' := List.mem_singleton.mp q
          rw [hz1] at q'
          exact absurd q' (Nat.ne_of_lt (Nat.lt_succ_of_lt hb'))
      · cases r₂ with
        | error e => exact hr₂
        | ok fl₂ =>
          cases fl₂ with
          | ret r =>
            obtain ⟨rfl, h', tk, rfl, hS', hk'⟩ := hr₂
            repeat (any_goals (first | assumption | wp_step))
            exact h _ _ hS' hk'
          | _ => exact hr₂.elim
    | _ => exact hr.elim
end
end JS

set_option Elab.async false
set_option linter.all false
set_option maxRecDepth 100000
set_option maxHeartbeats 4000000
namespace JS
open PySem PySem.Spec PyProof.Rows
section
variable {prog : Program} {w : World} {A : Around} {E : Value → Shared → Prop} {s : Shared} {a : Addr}
/-- list.sort of a new list of texts, as sorted does it -/
theorem sort_new {vs : List Value} {ss : List Str} {Q : Value → Shared → Prop} (hS : StrsAre vs ss) (h64 : vs.length < 64)
    (h : ∀ (h' : Heap) (out : List Value) (zs : List Str) (e : Nat), StrsAre out zs → zs.Perm ss → sortedS zs = true → (∀ b o, s.heap.get? b = some o → h'.get? b = some o) → h'.get? s.heap.objs.size = some { cls := .type "list", data := .seq out.toArray e } → Q (.ref s.heap.objs.size) { s with heap := h' }) :
    wpAny (model prog w) A (newList vs >>= fun l => holding [l] (call (.builtin "list.sort") [l] []) >>= fun _ => ret l) (fun fin s' => ∃ r, fin = .done (.ret r) ∧ Q r s') E s := by
  refine wpAny_bind (wpAny_newList ?_)
  have hoL : (s.heap.push (seqObj "list" vs.toArray 0)).get? s.heap.objs.size = some (seqObj "list" vs.toArray 0) := Heap.get?_push_size _ rfl
  refine wpAny_bind (wpAny_holding (wpAny_call_entry slot_list_sort ⟨_, hoL, rfl⟩ entry_list_sort (list_sort_treeK strKind_oneLt hoL hS.keysOf (fun v1 v2 rest e => keyKind_strs (by rw [← e]; exact hS)) h64 fun st' a1 a2 => ⟨_, rfl, ?_⟩) (args_list_sort _)))
  obtain ⟨zs, q1, q2, q3⟩ := sorted_out_str hS a1 a2
  obtain ⟨e, he⟩ := sortedHeap_at (out := (arrOf st').map (·.2)) hoL
  refine wpAny_pure ⟨_, rfl, h _ ((arrOf st').map (·.2)).toList zs e q1 q2 q3 (fun b o hb => ?_) (by rw [Array.toArray_toList]; exact he)⟩
  have hlt : b < s.heap.objs.size := Heap.lt_size hb
  rw [sortedHeap_old (Nat.ne_of_lt hlt) (by rw [size_push']; exact Nat.lt_succ_of_lt hlt)]
  exact Heap.get?_push_of_some _ hb
/-- sorted(a set of texts) -/
theorem sorted_set {xs : List Str} {Q : Value → Shared → Prop} (hh : A.handled = none) (S : StrSet prog w s.heap a xs) (h64 : xs.length < 64)
    (h : ∀ (h1 h' : Heap) (d : Drawn) (tk : Nat) (out : List Value) (zs : List Str) (e : Nat), StrsAre out zs → zs.Perm xs → sortedS zs = true → (∀ b o, s.heap.get? b = some o → h1.get? b = some o) → (∀ b o, h1.get? b = some o → h'.get? b = some o) → h'.get? h1.objs.size = some { cls := .type "list", data := .seq out.toArray e } →
      Q (.ref h1.objs.size) { s with heap := h', drawn := d, toks := tk }) : wpAny (model prog w) A (call (.builtin "sorted") [.ref a]) Q E s := by
  refine Calls.call_function_entry kind_sorted plain_sorted entry_sorted (args_sorted1 _) ?_
  unfold Builtin.«sorted»
  refine wpAny_bind (m := checkCount "sorted" 1 1 _) (wpAny_pure ?_)
  obtain ⟨es, ep, t, r, hel, hp, nd⟩ := S
  refine wpAny_bind (collect_set (by simpa using hh) r fun h1 d tk order ho kp => ?_)
  have hst : ∀ v ∈ order, ∃ x t, v = Value.str x t := fun v hv => by
    obtain ⟨e, he, q⟩ := List.mem_map.mp (ho.mem_iff.mp hv)
    obtain ⟨⟨k, hk, _⟩, _⟩ := hel e he
    obtain ⟨t, q'⟩ := Value.isStrOf_shape (show Value.isStrOf k e.2 = true from hk)
    exact ⟨k, t, by rw [← q]; exact q'⟩
  have hS := strsAre_map order hst
  have hperm : (order.map strOf).Perm xs := by
    refine (ho.map strOf).trans ?_
    rw [List.map_map]
    have e : es.toList.map (strOf ∘ fun x => x.2) = es.toList.map fun e => sOf e.2 := List.map_congr_left fun e he => by
      obtain ⟨⟨k, hk, _⟩, _⟩ := hel e he
      obtain ⟨t, q'⟩ := Value.isStrOf_shape (show Value.isStrOf k e.2 = true from hk)
      show strOf e.2 = sOf e.2
      rw [q']; rfl
    rw [e]
    exact hp
  have hlen : order.length < 64 := by
    have q := hperm.length_eq
    rw [List.length_map] at q
    omega
  refine sort_new (s := { s with heap := h1, drawn := d, toks := tk }) hS hlen fun h' out zs e q1 q2 q3 kp' he => ?_
  exact h h1 h' d tk out zs e q1 (q2.trans hperm) q3 kp kp' he
end
end JS

set_option Elab.async false
set_option linter.all false
set_option maxRecDepth 100000
set_option maxHeartbeats 4000000
namespace L2
open PySem PySem.Spec PyProof.Rows

/-! ### plain data that never changes: numbers, texts, None, tuples of such -/
inductive D where
  | non | int (i : Int) | str (x : Str) | tup (ds : List D)
noncomputable instance : DecidableEq D := fun _ _ => Classical.propDecidable _
mutual
def Den (H : Hp) : D → V → Prop
  | .non, v => v = .non
  | .int i, v => v = .int i
  | .str x, v => v = .str x
  | .tup ds, v => ∃ a xs, v = .ref a ∧ H a = some (.tup xs) ∧ DenL H ds xs
def DenL (H : Hp) : List D → List V → Prop
  | [], xs => xs = []
  | d :: ds, xs => ∃ v r, xs = v :: r ∧ Den H d v ∧ DenL H ds r
end
/-- the tuples stay -/
def SameT (H H' : Hp) : Prop := ∀ b xs, H b = some (.tup xs) → H' b = some (.tup xs)
theorem SameT.refl (H : Hp) : SameT H H := fun _ _ h => h
theorem SameT.trans {H H1 H2 : Hp} (a : SameT H H1) (b : SameT H1 H2) : SameT H H2 := fun c xs h => b c xs (a c xs h)
theorem Same.t {H H' : Hp} (h : Same H H') : SameT H H' := fun b xs e => h b _ e
theorem SameT.updL {H : Hp} {l : Addr} {o : HO} (h : ∀ xs, H l ≠ some (.tup xs)) : SameT H (upd H l o) := fun b xs e => by
  rw [upd_ne (fun z => h xs (by rw [← z]; exact e))]; exact e
theorem SameT.new {H : Hp} {l : Addr} {o : HO} (h : H l = none) : SameT H (upd H l o) := SameT.updL fun xs z => by rw [h] at z; cases z
theorem SameT.lst {H : Hp} {l : Addr} {xs : List V} {o : HO} (h : H l = some (.lst xs)) : SameT H (upd H l o) := SameT.updL fun ys z => by rw [h] at z; cases z
mutual
theorem Den.mono {H H' : Hp} (s : SameT H H') : ∀ (d : D) (v : V), Den H d v → Den H' d v
  | .non, v, h => by unfold Den at h ⊢; exact h
  | .int i, v, h => by unfold Den at h ⊢; exact h
  | .str x, v, h => by unfold Den at h ⊢; exact h
  | .tup ds, v, h => by
    unfold Den at h ⊢
    obtain ⟨a, xs, e, h1, h2⟩ := h
    exact ⟨a, xs, e, s a xs h1, DenL.mono s ds xs h2⟩
theorem DenL.mono {H H' : Hp} (s : SameT H H') : ∀ (ds : List D) (xs : List V), DenL H ds xs → DenL H' ds xs
  | [], xs, h => by unfold DenL at h ⊢; exact h
  | d :: ds, xs, h => by
    unfold DenL at h ⊢
    obtain ⟨v, r, e, h1, h2⟩ := h
    exact ⟨v, r, e, Den.mono s d v h1, DenL.mono s ds r h2⟩
end
mutual
theorem Den.inj {H : Hp} : ∀ (d e : D) (v : V), Den H d v → Den H e v → d = e
  | .non, e, v, h, g => by
    unfold Den at h; subst h
    cases e <;> unfold Den at g
    · rfl
    · cases g
    · cases g
    · obtain ⟨a, xs, z, _⟩ := g; cases z
  | .int i, e, v, h, g => by
    unfold Den at h; subst h
    cases e <;> unfold Den at g
    · cases g
    · injection g with g; rw [g]
    · cases g
    · obtain ⟨a, xs, z, _⟩ := g; cases z
  | .str x, e, v, h, g => by
    unfold Den at h; subst h
    cases e <;> unfold Den at g
    · cases g
    · cases g
    · injection g with g; rw [g]
    · obtain ⟨a, xs, z, _⟩ := g; cases z
  | .tup ds, e, v, h, g => by
    unfold Den at h
    obtain ⟨a, xs, z, h1, h2⟩ := h
    subst z
    cases e <;> unfold Den at g
    · cases g
    · cases g
    · cases g
    · obtain ⟨b, ys, z, g1, g2⟩ := g
      cases z
      rw [h1] at g1
      cases g1
      rw [DenL.inj ds _ xs h2 g2]
theorem DenL.inj {H : Hp} : ∀ (ds es : List D) (xs : List V), DenL H ds xs → DenL H es xs → ds = es
  | [], es, xs, h, g => by
    unfold DenL at h; subst h
    cases es with
    | nil => rfl
    | cons e es => unfold DenL at g; obtain ⟨v, r, z, _⟩ := g; cases z
  | d :: ds, es, xs, h, g => by
    unfold DenL at h
    obtain ⟨v, r, z, h1, h2⟩ := h
    subst z
    cases es with
    | nil => unfold DenL at g; cases g
    | cons e es =>
      unfold DenL at g
      obtain ⟨v', r', z, g1, g2⟩ := g
      cases z
      rw [Den.inj d e v h1 g1, DenL.inj ds es r h2 g2]
end
theorem DenL.length {H : Hp} : ∀ (ds : List D) (xs : List V), DenL H ds xs → ds.length = xs.length
  | [], xs, h => by unfold DenL at h; subst h; rfl
  | d :: ds, xs, h => by
    unfold DenL at h
    obtain ⟨v, r, z, _, h2⟩ := h
    subst z
    rw [List.length_cons, List.length_cons, DenL.length ds r h2]
theorem DenL.get {H : Hp} : ∀ {ds : List D} {xs : List V} {i : Nat} {d : D} {v : V}, DenL H ds xs → ds[i]? = some d → xs[i]? = some v → Den H d v
  | [], xs, i, d, v, h, e, _ => by simp at e
  | d0 :: ds, xs, i, d, v, h, e, e' => by
    unfold DenL at h
    obtain ⟨v0, r, z, h1, h2⟩ := h
    subst z
    cases i with
    | zero => simp at e e'; subst e e'; exact h1
    | succ i => exact DenL.get h2 (by simpa using e) (by simpa using e')
theorem DenL.snoc {H : Hp} : ∀ {ds : List D} {xs : List V} {d : D} {v : V}, DenL H ds xs → Den H d v → DenL H (ds ++ [d]) (xs ++ [v])
  | [], xs, d, v, h, g => by
    unfold DenL at h; subst h
    unfold DenL
    exact ⟨v, [], rfl, g, by unfold DenL; rfl⟩
  | d0 :: ds, xs, d, v, h, g => by
    unfold DenL at h
    obtain ⟨v0, r, z, h1, h2⟩ := h
    subst z
    rw [List.cons_append, List.cons_append]
    unfold DenL
    exact ⟨v0, _, rfl, h1, DenL.snoc h2 g⟩
theorem DenL.nil {H : Hp} : DenL H [] [] := by unfold DenL; rfl
theorem DenL.append {H : Hp} : ∀ {ds es : List D} {xs ys : List V}, DenL H ds xs → DenL H es ys → DenL H (ds ++ es) (xs ++ ys)
  | [], es, xs, ys, h, g => by unfold DenL at h; subst h; exact g
  | d :: ds, es, xs, ys, h, g => by
    unfold DenL at h
    obtain ⟨v, r, z, h1, h2⟩ := h
    subst z
    rw [List.cons_append, List.cons_append]
    unfold DenL
    exact ⟨v, _, rfl, h1, DenL.append h2 g⟩
theorem DenL.reverse {H : Hp} : ∀ {ds : List D} {xs : List V}, DenL H ds xs → DenL H ds.reverse xs.reverse
  | [], xs, h => by unfold DenL at h; subst h; exact DenL.nil
  | d :: ds, xs, h => by
    unfold DenL at h
    obtain ⟨v, r, z, h1, h2⟩ := h
    subst z
    rw [List.reverse_cons, List.reverse_cons]
    exact DenL.snoc (DenL.reverse h2) h1
theorem DenL.strs {H : Hp} : ∀ (ss : List Str), DenL H (ss.map D.str) (ss.map V.str)
  | [] => DenL.nil
  | s :: r => by
    rw [List.map_cons, List.map_cons]
    unfold DenL
    exact ⟨_, _, rfl, by unfold Den; rfl, DenL.strs r⟩
theorem DenL.strs_eq {H : Hp} : ∀ {ss : List Str} {xs : List V}, DenL H (ss.map D.str) xs → xs = ss.map V.str
  | [], xs, h => by rw [List.map_nil] at h; unfold DenL at h; exact h
  | s :: r, xs, h => by
    rw [List.map_cons] at h
    unfold DenL at h
    obtain ⟨v, t, z, h1, h2⟩ := h
    unfold Den at h1
    subst z h1
    rw [List.map_cons, DenL.strs_eq h2]
theorem Den.strTup {H : Hp} {a : Addr} {ss : List Str} (h : H a = some (.tup (ss.map V.str))) : Den H (.tup (ss.map D.str)) (.ref a) := by
  unfold Den
  exact ⟨a, _, rfl, h, DenL.strs ss⟩
theorem Den.strTup_eq {H : Hp} {ss : List Str} {v : V} (h : Den H (.tup (ss.map D.str)) v) : ∃ a, v = .ref a ∧ H a = some (.tup (ss.map V.str)) := by
  unfold Den at h
  obtain ⟨a, xs, e, h1, h2⟩ := h
  exact ⟨a, e, by rw [h1, DenL.strs_eq h2]⟩

/-! ### == of such data -/
mutual
def Cmp : D → D → Prop
  | .non, e => e = .non
  | .int _, e => ∃ j, e = .int j
  | .str _, e => ∃ y, e = .str y
  | .tup ds, e => ∃ es, e = .tup es ∧ CmpL ds es
def CmpL : List D → List D → Prop
  | [], _ => True
  | d :: ds, es => ∀ e r, es = e :: r → Cmp d e ∧ CmpL ds r
end
mutual
def dep : D → Nat
  | .tup ds => depL ds + 1
  | _ => 0
def depL : List D → Nat
  | [] => 0
  | d :: ds => max (dep d) (depL ds)
end
theorem CmpL.get : ∀ {ds es : List D} {i : Nat} {d e : D}, CmpL ds es → ds[i]? = some d → es[i]? = some e → Cmp d e
  | [], _, _, _, _, _, h, _ => by simp at h
  | _ :: _, [], _, _, _, _, _, h => by simp at h
  | d0 :: ds, e0 :: es, 0, d, e, h, h1, h2 => by
    unfold CmpL at h
    simp at h1 h2
    subst h1 h2
    exact (h _ _ rfl).1
  | d0 :: ds, e0 :: es, i + 1, d, e, h, h1, h2 => by
    unfold CmpL at h
    exact CmpL.get (h _ _ rfl).2 (by simpa using h1) (by simpa using h2)
theorem depL_get : ∀ {ds : List D} {i : Nat} {d : D}, ds[i]? = some d → dep d ≤ depL ds
  | [], _, _, h => by simp at h
  | d0 :: ds, 0, d, h => by simp at h; subst h; unfold depL; omega
  | d0 :: ds, i + 1, d, h => by
    have q := depL_get (ds := ds) (i := i) (d := d) (by simpa using h)
    unfold depL; omega
theorem all_eq {ds es : List D} {n : Nat} (hn : n = min ds.length es.length) : ((List.range n).all fun j => decide (ds[j]? = es[j]?)) = true ↔ ∀ j, j < ds.length → j < es.length → ds[j]? = es[j]? := by
  rw [List.all_eq_true]
  constructor
  · intro h j h1 h2
    exact of_decide_eq_true (h j (List.mem_range.mpr (by omega)))
  · intro h j hj
    have := List.mem_range.mp hj
    exact decide_eq_true (h j (by omega) (by omega))
theorem eq_of_all {ds es : List D} (hl : ds.length = es.length) : (∀ j, j < ds.length → j < es.length → ds[j]? = es[j]?) ↔ ds = es := by
  constructor
  · intro h
    apply List.ext_getElem?
    intro j
    by_cases hj : j < ds.length
    · exact h j hj (by omega)
    · rw [List.getElem?_eq_none (by omega), List.getElem?_eq_none (by omega)]
  · rintro rfl _ _ _; rfl

theorem eqAt_D {X : Cx} {pins : List (Addr × Obj)} {σ : St} {H : Hp} {s : Shared} (I : Inv X pins σ H s) : ∀ (n : Nat) (A : Around) (d e : D) (x y : V) (u v : Value), dep d ≤ n → A.units + n < cLine → Den H d x → Den H e y → RelV x u → RelV y v → Cmp d e → SeqAt.EqAt A s u v (decide (d = e)) := by
  intro n
  induction n with
  | zero =>
    intro A d e x y u v hd hu hx hy rx ry hc
    cases d with
    | non =>
      unfold Cmp at hc; subst hc
      unfold Den at hx hy; subst hx hy
      cases rx; cases ry
      rw [decide_eq_true rfl]
      exact SeqAt.EqAt.same _
    | int i =>
      unfold Cmp at hc; obtain ⟨j, rfl⟩ := hc
      unfold Den at hx hy; subst hx hy
      obtain ⟨t, rfl⟩ := rx
      obtain ⟨t', rfl⟩ := ry
      have q : decide (D.int i = D.int j) = (i == j) := by
        by_cases h : i = j
        · subst h; simp
        · rw [decide_eq_false (by simpa using h)]; exact (beq_eq_false_iff_ne.mpr h).symm
      rw [q]
      exact SeqAt.EqAt.int_int i t j t'
    | str i =>
      unfold Cmp at hc; obtain ⟨j, rfl⟩ := hc
      unfold Den at hx hy; subst hx hy
      obtain ⟨t, rfl⟩ := rx
      obtain ⟨t', rfl⟩ := ry
      have q : decide (D.str i = D.str j) = (i == j) := by
        by_cases h : i = j
        · subst h; simp
        · rw [decide_eq_false (by simpa using h)]; exact (beq_eq_false_iff_ne.mpr h).symm
      rw [q]
      exact SeqAt.EqAt.str_str i t j t'
    | tup ds => unfold dep at hd; omega
  | succ n ih =>
    intro A d e x y u v hd hu hx hy rx ry hc
    cases d with
    | non => exact ih A .non e x y u v (Nat.zero_le _) (by omega) hx hy rx ry hc
    | int i => exact ih A (.int i) e x y u v (Nat.zero_le _) (by omega) hx hy rx ry hc
    | str i => exact ih A (.str i) e x y u v (Nat.zero_le _) (by omega) hx hy rx ry hc
    | tup ds =>
      unfold Cmp at hc
      obtain ⟨es, rfl, hcl⟩ := hc
      unfold Den at hx hy
      obtain ⟨a, xs, rfl, ha, hxs⟩ := hx
      obtain ⟨b, ys, rfl, hb, hys⟩ := hy
      cases rx; cases ry
      by_cases hab : a = b
      · subst hab
        rw [ha] at hb
        cases hb
        rw [DenL.inj ds es xs hxs hys, decide_eq_true rfl]
        exact SeqAt.EqAt.same _
      · obtain ⟨its, r1, p1, z1⟩ := I.tuple (SqT.of (K := X.K) ha)
        obtain ⟨its2, r2, p2, z2⟩ := I.tuple (SqT.of (K := X.K) hb)
        have l1 := r1.length
        have l2 := r2.length
        have l3 := DenL.length ds xs hxs
        have l4 := DenL.length es ys hys
        have he : ∀ j (h1 : j < its.toArray.size) (h2 : j < its2.toArray.size), SeqAt.EqAt A.in1 s its.toArray[j] its2.toArray[j] (decide (ds[j]? = es[j]?)) := fun j h1 h2 => by
          rw [List.size_toArray] at h1 h2
          have e1 : ds[j]? = some ds[j] := List.getElem?_eq_getElem (by omega)
          have e2 : es[j]? = some es[j] := List.getElem?_eq_getElem (by omega)
          have e3 : xs[j]? = some xs[j] := List.getElem?_eq_getElem (by omega)
          have e4 : ys[j]? = some ys[j] := List.getElem?_eq_getElem (by omega)
          obtain ⟨u1, q1, r1'⟩ := r1.get e3
          obtain ⟨u2, q2, r2'⟩ := r2.get e4
          have f1 : its.toArray[j] = u1 := by
            have : its[j]? = some its[j] := List.getElem?_eq_getElem h1
            rw [q1] at this
            simpa using (Option.some.inj this).symm
          have f2 : its2.toArray[j] = u2 := by
            have : its2[j]? = some its2[j] := List.getElem?_eq_getElem h2
            rw [q2] at this
            simpa using (Option.some.inj this).symm
          rw [f1, f2]
          have q := ih A.in1 ds[j] es[j] xs[j] ys[j] u1 u2 (by have := depL_get e1; unfold dep at hd; omega) (by show A.units + 1 + n < cLine; omega) (hxs.get e1 e3) (hys.get e2 e4) r1' r2' (hcl.get e1 e2)
          have w : decide (ds[j] = es[j]) = decide (ds[j]? = es[j]?) := by
            rw [e1, e2]
            by_cases h : ds[j] = es[j]
            · rw [decide_eq_true h, decide_eq_true (by rw [h])]
            · rw [decide_eq_false h, decide_eq_false (fun z => h (Option.some.inj z))]
          rw [← w]
          exact q
        have q := SeqAt.EqAt.of_refs (A := A) hab (SeqAt.RcAt.tuples (A := A) (show s.heap.IsTuple a its.toArray from p1) (show s.heap.IsTuple b its2.toArray from p2) (by omega) he)
        have w : ((List.range (min its.toArray.size its2.toArray.size)).all (fun j => decide (ds[j]? = es[j]?)) && its.toArray.size == its2.toArray.size) = decide (D.tup ds = D.tup es) := by
          rw [List.size_toArray, List.size_toArray]
          by_cases hlen : ds.length = es.length
          · have hn : min its.length its2.length = min ds.length es.length := by omega
            have hb' : (its.length == its2.length) = true := by simp; omega
            rw [hb', Bool.and_true]
            by_cases h : ds = es
            · rw [(all_eq hn).mpr ((eq_of_all hlen).mpr h), decide_eq_true (by rw [h])]
            · rw [decide_eq_false (fun z => h (D.tup.inj z))]
              cases hq : (List.range (min its.length its2.length)).all (fun j => decide (ds[j]? = es[j]?)) with
              | false => rfl
              | true => exact absurd ((eq_of_all hlen).mp ((all_eq hn).mp hq)) h
          · have hb' : (its.length == its2.length) = false := by
              rw [beq_eq_false_iff_ne]; omega
            rw [hb', Bool.and_false, decide_eq_false (fun z => hlen (by rw [D.tup.inj z]))]
        rw [← w]
        exact q
end L2

set_option Elab.async false
set_option linter.all false
set_option maxRecDepth 100000
set_option maxHeartbeats 4000000
namespace L2
open PySem PySem.Spec PyProof.Rows
section
variable {X : Cx}

/-! ### == and != of two lists of plain data -/
def rEqL (K : PySem.W.Frag) (neg : Bool) : R2 := fun x y H Q => ∃ a b xs ys ds es, x = .ref a ∧ y = .ref b ∧ SqL K H a xs ∧ SqL K H b ys ∧ DenL H ds xs ∧ DenL H es ys ∧ CmpL ds es ∧ depL ds ≤ 8 ∧
  Q (.bl (if neg then !decide (ds = es) else decide (ds = es))) H
theorem eq_lists {pins : List (Addr × Obj)} {σ : St} {H : Hp} {s : Shared} {xs ys : List V} {its its2 : List Value} {ds es : List D} (I : Inv X pins σ H s) (r1 : Vals xs its) (r2 : Vals ys its2) (h1 : DenL H ds xs) (h2 : DenL H es ys) (hc : CmpL ds es) (hd : depL ds ≤ 8) (hu : X.A.units + 16 < cLine) :
    ∀ j (h1 : j < its.toArray.size) (h2 : j < its2.toArray.size), SeqAt.EqAt X.A.in1 s its.toArray[j] its2.toArray[j] (decide (ds[j]? = es[j]?)) := fun j h1' h2' => by
  have l1 := r1.length
  have l2 := r2.length
  have l3 := DenL.length ds xs h1
  have l4 := DenL.length es ys h2
  rw [List.size_toArray] at h1' h2'
  have e1 : ds[j]? = some ds[j] := List.getElem?_eq_getElem (by omega)
  have e2 : es[j]? = some es[j] := List.getElem?_eq_getElem (by omega)
  have e3 : xs[j]? = some xs[j] := List.getElem?_eq_getElem (by omega)
  have e4 : ys[j]? = some ys[j] := List.getElem?_eq_getElem (by omega)
  obtain ⟨u1, q1, r1'⟩ := r1.get e3
  obtain ⟨u2, q2, r2'⟩ := r2.get e4
  have f1 : its.toArray[j] = u1 := by
    have : its[j]? = some its[j] := List.getElem?_eq_getElem h1'
    rw [q1] at this
    simpa using (Option.some.inj this).symm
  have f2 : its2.toArray[j] = u2 := by
    have : its2[j]? = some its2[j] := List.getElem?_eq_getElem h2'
    rw [q2] at this
    simpa using (Option.some.inj this).symm
  rw [f1, f2]
  have q := eqAt_D I 8 X.A.in1 ds[j] es[j] xs[j] ys[j] u1 u2 (Nat.le_trans (depL_get e1) hd) (by show X.A.units + 1 + 8 < cLine; omega) (h1.get e1 e3) (h2.get e2 e4) r1' r2' (hc.get e1 e2)
  have w : decide (ds[j] = es[j]) = decide (ds[j]? = es[j]?) := by
    rw [e1, e2]
    by_cases h : ds[j] = es[j]
    · rw [decide_eq_true h, decide_eq_true (by rw [h])]
    · rw [decide_eq_false h, decide_eq_false (fun z => h (Option.some.inj z))]
  rw [← w]
  exact q
theorem all_decide {ds es : List D} {n : Nat} (hn : n = ds.length) (hl : ds.length = es.length) : ((List.range n).all fun j => decide (ds[j]? = es[j]?)) = decide (ds = es) := by
  have hm : n = min ds.length es.length := by omega
  by_cases h : ds = es
  · rw [(all_eq hm).mpr ((eq_of_all hl).mpr h), decide_eq_true h]
  · rw [decide_eq_false h]
    cases hq : (List.range n).all (fun j => decide (ds[j]? = es[j]?)) with
    | false => rfl
    | true => exact absurd ((eq_of_all hl).mp ((all_eq hm).mp hq)) h
theorem op_eqL (hu : X.A.units + 16 < cLine) : OpR X (compareOp .Eq) (rEqL X.K false) := by
  intro pins s σ H x y v u Q I rx ry h
  obtain ⟨a, b, xs, ys, ds, es, rfl, rfl, ha, hb, h1, h2, hc, hd, q⟩ := h
  cases rx; cases ry
  obtain ⟨its, r1, p1, z1⟩ := I.list ha
  obtain ⟨its2, r2, p2, z2⟩ := I.list hb
  have l1 := r1.length
  have l2 := r2.length
  have l3 := DenL.length ds xs h1
  have l4 := DenL.length es ys h2
  by_cases hlen : ds.length = es.length
  · refine SeqAt.eq_listAt p1.isList p2.isList (by rw [List.size_toArray, List.size_toArray]; omega) (by omega) (eq_lists I r1 r2 h1 h2 hc hd hu) ?_
    rw [all_decide (by rw [List.size_toArray]; omega) hlen]
    exact ⟨.bl _, H, I, rfl, q⟩
  · refine SeqAt.eq_list_lengthsAt p1.isList p2.isList (by rw [List.size_toArray, List.size_toArray]; simp; omega) (by omega) ⟨.bl false, H, I, rfl, ?_⟩
    rw [decide_eq_false (fun z => hlen (by rw [z]))] at q
    exact q
theorem op_neL (hu : X.A.units + 16 < cLine) : OpR X (compareOp .NotEq) (rEqL X.K true) := by
  intro pins s σ H x y v u Q I rx ry h
  obtain ⟨a, b, xs, ys, ds, es, rfl, rfl, ha, hb, h1, h2, hc, hd, q⟩ := h
  cases rx; cases ry
  obtain ⟨its, r1, p1, z1⟩ := I.list ha
  obtain ⟨its2, r2, p2, z2⟩ := I.list hb
  have l1 := r1.length
  have l2 := r2.length
  have l3 := DenL.length ds xs h1
  have l4 := DenL.length es ys h2
  by_cases hlen : ds.length = es.length
  · refine SeqAt.RcNeAt.lists p1.isList p2.isList (by rw [List.size_toArray, List.size_toArray]; omega) (by omega) (eq_lists I r1 r2 h1 h2 hc hd hu) X.prog X.w X.xe _ ?_
    rw [all_decide (by rw [List.size_toArray]; omega) hlen]
    exact ⟨.bl _, H, I, rfl, q⟩
  · refine SeqAt.RcNeAt.lists_lengths p1.isList p2.isList (by rw [List.size_toArray, List.size_toArray]; simp; omega) (by omega) X.prog X.w X.xe _ ⟨.bl true, H, I, rfl, ?_⟩
    rw [decide_eq_false (fun z => hlen (by rw [z]))] at q
    exact q

/-! ### isinstance -/
theorem inst_any {pins : List (Addr × Obj)} {σ : St} {H : Hp} {s : Shared} {x : V} {u t : Value} (I : Inv X pins σ H s) (rx : RelV x u) (ty : TyOf X.K H x t) (hins : ∀ C, t ≠ .ref C) : ∃ P : Heap → Prop, PySem.W.KitX X.K u t P ∧ P s.heap ∧ u ≠ .builtin "__main__.__loader__#opaque" := by
  cases ty with
  | non => cases (show u = Value.none from rx); exact ⟨_, PySem.W.kitx_none, True.intro, fun z => nomatch z⟩
  | bl y => cases (show u = Value.bool y from rx); exact ⟨_, PySem.W.kitx_bool, True.intro, fun z => nomatch z⟩
  | int i => obtain ⟨t, q⟩ := (show ∃ t, u = Value.int i t from rx); cases q; exact ⟨_, PySem.W.kitx_int, True.intro, fun z => nomatch z⟩
  | str y => obtain ⟨t, q⟩ := (show ∃ t, u = Value.str y t from rx); cases q; exact ⟨_, PySem.W.kitx_str, True.intro, fun z => nomatch z⟩
  | flt y => obtain ⟨t, q⟩ := (show ∃ t, u = Value.float y t from rx); cases q; exact ⟨_, PySem.W.kitx_float, True.intro, fun z => nomatch z⟩
  | @lst a xs ea =>
    cases (show u = Value.ref a from rx)
    obtain ⟨_, _, n, _, h1⟩ := (show ObjOk X.prog X.w H s.heap a (.lst xs) from I.hok a _ ea)
    exact ⟨_, PySem.W.kitx_list, ⟨_, h1, rfl⟩, fun z => nomatch z⟩
  | @frz a ob xs ea =>
    cases (show u = Value.ref a from rx)
    obtain ⟨_, _, _, n, _, h1⟩ := (show ObjOk X.prog X.w H s.heap a (.frz ob (.lst xs)) from I.hok a _ ea)
    exact ⟨_, PySem.W.kitx_list, ⟨_, h1, rfl⟩, fun z => nomatch z⟩
  | @tup a xs ea =>
    cases (show u = Value.ref a from rx)
    obtain ⟨_, _, _, o, h1, h2, _⟩ := (show ObjOk X.prog X.w H s.heap a (.tup xs) from I.hok a _ ea)
    exact ⟨_, PySem.W.kitx_tuple, ⟨o, h1, h2⟩, fun z => nomatch z⟩
  | @dK a kvs ea =>
    cases (show u = Value.ref a from rx)
    obtain ⟨_, _, vs, _, o, es, ep, h1, h2, _⟩ := (show ObjOk X.prog X.w H s.heap a (.dK kvs) from I.hok a _ ea)
    exact ⟨_, PySem.W.kitx_dict, ⟨o, h1, h2.1⟩, fun z => nomatch z⟩
  | @dT a kvs ea =>
    cases (show u = Value.ref a from rx)
    obtain ⟨_, _, xs, _, o, es, ep, h1, h2, _⟩ := (show ObjOk X.prog X.w H s.heap a (.dT kvs) from I.hok a _ ea)
    exact ⟨_, PySem.W.kitx_dict, ⟨o, h1, h2.1⟩, fun z => nomatch z⟩
  | @ins a C dx fs ea cl ha hn htk hm => exact absurd rfl (hins C)
/-- isinstance(x, c), c one built-in class -/
theorem call_isi : CallR X (.builtin "isinstance") (fun xs H Q => ∃ (x : V) (c : String) (t : Value) (b : Bool), xs = [x, .ty c] ∧ TyOf X.K H x t ∧ PySem.W.kitOne X.K t (.type c) = some b ∧ Q (.bl b) H) := by
  intro pins s σ H xs us Q I r h
  obtain ⟨x, c, t, b, rfl, ty, e, q⟩ := h
  obtain ⟨u, w', rfl, r1, r2⟩ := vals2 r
  cases r2
  exact isinst_ok I r1 ty e fun tk => ⟨.bl b, H, I.tok tk, rfl, q⟩
/-- isinstance(x, (c, ..)), built-in classes -/
theorem call_isiT : CallR X (.builtin "isinstance") (fun xs H Q => ∃ (x : V) (p : Addr) (cs : List String) (t : Value) (b : Bool), xs = [x, .ref p] ∧ H p = some (.tup (cs.map V.ty)) ∧ TyOf X.K H x t ∧ (∀ C, t ≠ .ref C) ∧ PySem.W.kitAny X.K t (cs.map Value.type) = some b ∧ Q (.bl b) H) := by
  intro pins s σ H xs us Q I r h
  obtain ⟨x, p, cs, t, b, rfl, hp, ty, hC, e, q⟩ := h
  obtain ⟨u, w', rfl, r1, r2⟩ := vals2 r
  cases r2
  obtain ⟨P, Z, hP, ne⟩ := inst_any I r1 ty hC
  obtain ⟨its, rv, ⟨⟨cls, dd, data, sl⟩, ho, hc, n, hd⟩, hzz⟩ := I.tuple (SqT.of (K := X.K) hp)
  simp only at hc hd
  subst hc hd
  have ei : its = cs.map Value.type := by
    clear hp ho e hzz
    induction cs generalizing its with
    | nil => cases rv; rfl
    | cons c cs ih =>
      cases rv with
      | cons q1 q2 => rw [show _ = Value.type c from q1, ih _ q2]; rfl
  subst ei
  exact PySem.W.kia_tup Z I.kIn hP ho e ne fun tk => ⟨.bl b, H, I.tok tk, rfl, q⟩

/-! ### list.extend by a tuple, str.join, xs[::-1] -/
def rExtT (K : PySem.W.Frag) : V → List V → Hp → VK → Prop := fun x vs H Q => ∃ (l b : Addr) (xs zs : List V), x = .ref l ∧ vs = [.ref b] ∧ H l = some (.lst xs) ∧ SqT K H b zs ∧ xs.length + zs.length ≤ sizeLine ∧ Q .non (upd H l (.lst (xs ++ zs)))
theorem mt_extT : MtM X "list.extend" (rExtT X.K) := by
  intro pins s σ H x vs v us Q I rx rv h
  obtain ⟨l, b, xs, zs, rfl, rfl, hH, hB, hz, q⟩ := h
  cases rx
  obtain ⟨u, rfl, ru⟩ := rv.one
  cases ru
  obtain ⟨z, its, n, r, hl, e⟩ := I.lstM hH
  obtain ⟨its2, r2, ⟨o2, ho2, hc2, n2, hd2⟩, z2⟩ := I.tuple hB
  have l2 := r2.length
  have hne : l ≠ b := fun w => by subst w; rw [e] at ho2; cases ho2; injection hc2 with z; exact absurd z (by decide)
  refine wpAny_call_entry PySem.F.slot_list_extend ⟨_, e, rfl⟩ PySem.F.entry_list_extend ?_ (PySem.F.args_list_extend_2 _ _)
  show wpAny _ _ (Builtin.List.listExtendWith (.ref l) (.ref b) .none) _ _ s
  unfold Builtin.List.listExtendWith
  refine wpAny_bind (wpAny_typeOf (T := "tuple") ⟨o2, ho2, hc2⟩ ?_)
  have h3 : (Value.type "tuple" == Value.type "tuple") = true := by decide
  rw [if_pos (by rw [h3]; simp)]
  refine wpAny_bind (listItems_at ho2 hd2 (wpAny_bind (listItems_at e rfl ?_)))
  have hlong : ¬ (!its.toArray.isEmpty && Builtin.List.listTooLong (its.toArray.size + its2.toArray.size)) = true := by
    rw [notLongL (by rw [List.size_toArray, List.size_toArray]; omega), Bool.and_false]
    exact Bool.false_ne_true
  rw [if_neg hlong]
  refine wpAny_bind (listUpdate_at e rfl (wpAny_pure ⟨_, rfl, ?_⟩) (by rw [List.size_toArray]; omega) (by rw [Array.size_append, List.size_toArray, List.size_toArray]; omega))
  refine ⟨.non, _, I.lset (its' := its ++ its2) (t' := s.toks) hH e (by simp) (r.append r2) (by rw [List.length_append]; omega), rfl, q⟩
theorem strsAre_of {ss : List Str} : ∀ {its : List Value}, Vals (ss.map V.str) its → StrsAre its ss := by
  induction ss with
  | nil => intro its r; cases r; exact .nil
  | cons x ss ih =>
    intro its r
    cases r with
    | cons r1 r2 =>
      obtain ⟨t, rfl⟩ := (show ∃ t, _ = Value.str x t from r1)
      exact .cons x t (ih r2)
theorem vals_strs {ss : List Str} : ∀ {its : List Value}, StrsAre its ss → Vals (ss.map V.str) its := by
  induction ss with
  | nil => intro its r; cases r; exact .nil
  | cons x ss ih =>
    intro its r
    cases r with
    | cons _ t r2 => exact .cons ⟨t, rfl⟩ (ih r2)
def rJoin (K : PySem.W.Frag) : V → List V → Hp → VK → Prop := fun x vs H Q => ∃ (sep : Str) (l : Addr) (ys : List Str), x = .str sep ∧ vs = [.ref l] ∧ SqL K H l (ys.map V.str) ∧ (ys.map (·.length)).sum + ys.length * sep.length ≤ 16777216 ∧ Q (.str (Txt.join sep ys)) H
theorem mt_join : MtR X "str.join" (rJoin X.K) := by
  intro pins s σ H x vs v us Q I rx rv h
  obtain ⟨sep, l, ys, rfl, rfl, hl, hz, q⟩ := h
  obtain ⟨t, rfl⟩ := rx
  obtain ⟨u, rfl, ru⟩ := rv.one
  cases ru
  obtain ⟨its, r, p, _⟩ := I.list hl
  exact join_list p.isList (by simpa using strsAre_of r) hz fun t' k => ⟨.str _, H, I.tok k, ⟨t', rfl⟩, q⟩
def tRev (K : PySem.W.Frag) (te : TE) : TE := fun σ H Q => te σ H fun x H1 => ∃ (a : Addr) (xs : List V), x = .ref a ∧ SqL K H1 a xs ∧ ∀ p, H1 p = none → Q (.ref p) (upd H1 p (.lst xs.reverse))
theorem pe_rev {e : Expr} {te : TE} {j : Nat} {p1 p2 p3 pos : Pos} (he : PE X e te) : PE X (.Subscript e (.Slice none none (some (.UnaryOp .USub (.Constant (.int 1) j p1) p2)) p3) pos) (tRev X.K te) := by
  intro pins s σ H Q I h
  refine Subscript_ (thn (he pins s σ H _ I h) fun v s1 ⟨x, H1, I1, r1, q1⟩ => ?_)
  obtain ⟨a, xs, rfl, hx, q⟩ := q1
  cases r1
  refine wpAny_Slice ?_
  rw [evalPart_none, evalPart_some]
  refine wpAny_pure (wpAny_pure ?_)
  refine thn (pe_un un_neg pe_int pins s1 σ H1 (fun y H2 => y = .int (-1) ∧ H2 = H1) I1 ⟨1, rfl, rfl, rfl⟩) fun st s2 ⟨y, H2, I2, r2, ey, eH⟩ => ?_
  subst ey eH
  obtain ⟨t, rfl⟩ := r2
  have I3 : Inv X pins σ H2 { s2 with heap := s2.heap.push { cls := .type "slice", data := .fields #[.none, .none, .int (-1) t] } } := I2.kept (t' := s2.toks) fun b ob q => Heap.get?_push_of_some _ q
  obtain ⟨its, r, ht, hz⟩ := I3.list hx
  have hlen := r.length
  refine tail_any (ops := [.ref a, .ref s2.heap.objs.size]) ht.isList.typeIs slot_list_getitem.lookup ?_ (by with_unfolding_all rfl)
  refine wpAny_getItem_list_slice ht.isList (Heap.IsSliceOf.new ..) .none .none (.int (-1) t) (by decide) ?_ (by rw [List.size_toArray]; omega)
  rw [PySem.W.krv_pick]
  refine ⟨.ref _, _, I3.laid (t' := s2.toks) (o := .lst xs.reverse) (fun b ob q => Heap.get?_push_of_some _ q) (Nat.le_refl _) ?_, rfl, q _ (I3.hok.fresh (Nat.le_refl _))⟩
  exact ⟨by rw [List.length_reverse]; exact hz, its.reverse, 0, r.reverse, Heap.get?_push_size _ rfl⟩

/-! ### sorted of a list of texts, set of one, sorted of the set -/
theorem call_sortS : CallR X (.builtin "sorted") (fun xs H Q => ∃ (p : Addr) (ss : List Str), xs = [.ref p] ∧ SqL X.K H p (ss.map V.str) ∧ ss.length < 64 ∧ ∀ l zs, H l = none → zs.Perm ss → sortedS zs = true → Q (.ref l) (upd H l (.lst (zs.map V.str)))) := by
  intro pins s σ H xs us Q I r h
  obtain ⟨p, ss, rfl, hp, h64, q⟩ := h
  obtain ⟨u, rfl, rx⟩ := vals1 r
  cases rx
  obtain ⟨its, r, ht, hz⟩ := I.list hp
  have hlen := r.length
  rw [List.length_map] at hlen
  refine sorted_strs ht.isList (strsAre_of r) (by omega) fun out ss' a1 a2 a3 => ?_
  obtain ⟨e, he⟩ := sortedAll_at s.heap its out
  have kp : ∀ b o, s.heap.get? b = some o → (sortedAll s.heap its out).get? b = some o := fun _ _ => sortedAll_old
  have hl2 : ss'.length = ss.length := a2.length_eq
  refine ⟨.ref (s.heap.objs.size + 1), _, I.laid (t' := s.toks) (o := .lst (ss'.map V.str)) kp (Nat.le_succ _) ?_, rfl, q _ ss' (I.hok.fresh (Nat.le_succ _)) a2 a3⟩
  exact ⟨by rw [List.length_map, hl2]; rw [List.length_map] at hz; exact hz, out.toList, e, vals_strs a1, by rw [Array.toArray_toList]; exact he⟩
/-- a set of texts at a: its members -/
def SetO (P : Program) (w : World) (a : Addr) (xs : List Str) : HO := .ext fun h => JS.StrSet P w h a xs
theorem call_setS (hc : X.calm = true) : CallR X (.type "set") (fun xs H Q => ∃ (p : Addr) (ss : List Str), xs = [.ref p] ∧ SqL X.K H p (ss.map V.str) ∧ ss.length + 1 < scanBound ∧ ∀ l, H l = none → Q (.ref l) (upd H l (SetO X.prog X.w l (ss.foldl JS.addS [])))) := by
  intro pins s σ H xs us Q I r h
  obtain ⟨p, ss, rfl, hp, hz, q⟩ := h
  obtain ⟨u, rfl, rx⟩ := vals1 r
  cases rx
  obtain ⟨its, r, ht, _⟩ := I.list hp
  have hlen := r.length
  rw [List.length_map] at hlen
  refine JS.call_set (ys := ss) (I.ok.hd hc) ht.isList (fun i v hv => ?_) (by rw [List.size_toArray]; exact hlen) (by rw [List.size_toArray]; omega) fun h' tk hS kp => ?_
  · have hv' : its[i]? = some v := by simpa using hv
    have hi : i < its.length := (List.getElem?_eq_some_iff.mp hv').1
    have e1 : (ss.map V.str)[i]? = some (V.str ss[i]) := by simp [show i < ss.length by omega]
    obtain ⟨u, q1, q2⟩ := r.get e1
    rw [hv'] at q1; cases q1
    obtain ⟨t, e2⟩ := (show ∃ t, v = Value.str _ t from q2)
    exact ⟨_, t, by simp [show i < ss.length by omega], e2⟩
  · refine ⟨.ref s.heap.objs.size, _, I.laid (t' := tk) (o := SetO X.prog X.w s.heap.objs.size (ss.foldl JS.addS [])) kp (Nat.le_refl _) ?_, rfl, q _ I.fresh⟩
    obtain ⟨es, ep, t, rc, _⟩ := id hS
    obtain ⟨o, ho, _⟩ := rc.obj
    exact ⟨hS, ⟨o, ho⟩, fun h1 h2 hs k => JS.StrSet.keep hs k⟩
theorem call_sortSet (hc : X.calm = true) : CallR X (.builtin "sorted") (fun xs H Q => ∃ (p : Addr) (ss : List Str), xs = [.ref p] ∧ H p = some (SetO X.prog X.w p ss) ∧ ss.length < 64 ∧ ∀ l zs, H l = none → zs.Perm ss → sortedS zs = true → Q (.ref l) (upd H l (.lst (zs.map V.str)))) := by
  intro pins s σ H xs us Q I r h
  obtain ⟨p, ss, rfl, hp, h64, q⟩ := h
  obtain ⟨u, rfl, rx⟩ := vals1 r
  cases rx
  obtain ⟨hS, _, _⟩ := (show ObjOk X.prog X.w H s.heap p (SetO X.prog X.w p ss) from I.hok p _ hp)
  refine JS.sorted_set (I.ok.hd hc) hS h64 fun h1 h' d tk out zs e a1 a2 a3 kp kp' he => ?_
  have I1 : Inv X pins σ H { s with heap := h1, drawn := d, toks := tk } := I.call' (ch := []) rfl (Un.kept kp) (I.hok.kept kp) I.bare (fun _ z => nomatch z)
  have hl2 : zs.length = ss.length := a2.length_eq
  refine ⟨.ref h1.objs.size, _, I1.laid (h' := h') (t' := tk) (o := .lst (zs.map V.str)) kp' (Nat.le_refl _) ?_, rfl, q _ zs (I1.hok.fresh (Nat.le_refl _)) a2 a3⟩
  exact ⟨by rw [List.length_map, sizeLine_eq]; omega, out, e, vals_strs a1, he⟩
end
/-! ### the rules that name the text's fragment, with its name apart (for use in a block) -/
def rTupOf (K : PySem.W.Frag) : List V → Hp → VK → Prop := fun xs H Q => ∃ p ys, xs = [.ref p] ∧ ((SqL K H p ys ∧ ∀ l, H l = none → Q (.ref l) (upd H l (.tup ys))) ∨ (SqT K H p ys ∧ Q (.ref p) H))
def rListOf (K : PySem.W.Frag) : List V → Hp → VK → Prop := fun xs H Q => ∃ p ys, xs = [.ref p] ∧ (SqL K H p ys ∨ SqT K H p ys) ∧ ∀ l, H l = none → Q (.ref l) (upd H l (.lst ys))
def rLenSeq (K : PySem.W.Frag) : List V → Hp → VK → Prop := fun xs H Q => ∃ p ys, xs = [.ref p] ∧ (SqL K H p ys ∨ SqT K H p ys) ∧ Q (.int ys.length) H
def rIsi (K : PySem.W.Frag) : List V → Hp → VK → Prop := fun xs H Q => ∃ (x : V) (c : String) (t : Value) (b : Bool), xs = [x, .ty c] ∧ TyOf K H x t ∧ PySem.W.kitOne K t (.type c) = some b ∧ Q (.bl b) H
def rIsiT (K : PySem.W.Frag) : List V → Hp → VK → Prop := fun xs H Q => ∃ (x : V) (p : Addr) (cs : List String) (t : Value) (b : Bool), xs = [x, .ref p] ∧ H p = some (.tup (cs.map V.ty)) ∧ TyOf K H x t ∧ (∀ C, t ≠ .ref C) ∧ PySem.W.kitAny K t (cs.map Value.type) = some b ∧ Q (.bl b) H
section
variable {X : Cx} {K : PySem.W.Frag}
theorem call_tupK (e : X.K = K) : CallR X (.type "tuple") (rTupOf K) := by subst e; exact call_tuple_of
theorem call_listK (e : X.K = K) : CallR X (.type "list") (rListOf K) := by subst e; exact call_list_of
theorem call_lenK (e : X.K = K) : CallR X (.builtin "len") (rLenSeq K) := by subst e; exact call_len_seq
theorem call_isiK (e : X.K = K) : CallR X (.builtin "isinstance") (rIsi K) := by subst e; exact call_isi
theorem call_isiTK (e : X.K = K) : CallR X (.builtin "isinstance") (rIsiT K) := by subst e; exact call_isiT
theorem ix_tupK (e : X.K = K) : IxR X (rIxT K) := by subst e; exact ix_tup
theorem ix_listK (e : X.K = K) : IxR X (rIxL K) := by subst e; exact ix_list
theorem op_inK (e : X.K = K) : OpR X (compareOp .In) (rIn K false) := by subst e; exact op_in_seq
theorem op_notInK (e : X.K = K) : OpR X (compareOp .NotIn) (rIn K true) := by subst e; exact op_notIn_seq
theorem op_eqLK (hu : X.A.units + 16 < cLine) (e : X.K = K) : OpR X (compareOp .Eq) (rEqL K false) := by subst e; exact op_eqL hu
theorem op_neLK (hu : X.A.units + 16 < cLine) (e : X.K = K) : OpR X (compareOp .NotEq) (rEqL K true) := by subst e; exact op_neL hu
theorem pi_listK {tg l : Expr} {tl : TE} (hl : PE X l tl) (e : X.K = K) : PI X tg l (iList K tl) := by subst e; exact pi_list hl
theorem pg_tupK {es : List Expr} {k : Nat} {t : TGs} {n : Nat} {pos : Pos} (hc : X.calm = true) (h : PGs X es t) (e : X.K = K) (hn : (assignEach es X.env).length = n := by rfl) (hst : (assignEach es X.env).findIdx? (·.1) = none := by rfl) : PG X (.Tuple es k pos) (gTup K n t) := by subst e; exact pg_tup hc h hn hst
end
end L2

/-! Pure readings over the hand layer: names hold plain data, lists and dicts are theirs or frozen. -/
set_option Elab.async false
set_option linter.all false
set_option maxRecDepth 100000
set_option maxHeartbeats 4000000
namespace PL
open PySem PySem.Spec L2
open PyProof.Rows hiding St

inductive PV where
  | non | bl (b : Bool) | int (i : Int) | str (x : Str) | ty (n : String)
  | tup (ds : List PV) | lst (ds : List PV) | dK (ks : List Key) (ds : List PV) | dT (ks : List (List Key)) (ds : List PV)
noncomputable instance : DecidableEq PV := fun _ _ => Classical.propDecidable _

abbrev FZ := Addr → Prop
/-- a list of the module's own -/
def KX (K : PySem.W.Frag) (a : Addr) (xs : List V) : Prop := ∃ (its : Array Value) (n : Nat), K.lookup a = some { cls := .type "list", data := .seq its n } ∧ its.size ≤ sizeLine ∧ Vals xs its.toList
theorem KX.sq {K : PySem.W.Frag} {H : Hp} {a : Addr} {xs : List V} (h : KX K a xs) : SqL K H a xs := let ⟨its, n, h1, h2, h3⟩ := h; .inr ⟨_, its, n, h1, rfl, rfl, rfl, h2, h3⟩
mutual
def Den (K : PySem.W.Frag) (Fz : FZ) (H : Hp) : PV → V → Prop
  | .non, v => v = .non
  | .bl b, v => v = .bl b
  | .int i, v => v = .int i
  | .str x, v => v = .str x
  | .ty n, v => v = .ty n
  | .tup ds, v => ∃ a xs, v = .ref a ∧ SqT K H a xs ∧ DenL K Fz H ds xs
  | .lst ds, v => ∃ a xs, v = .ref a ∧ ((Fz a ∧ Rd H a (.lst xs)) ∨ KX K a xs) ∧ DenL K Fz H ds xs
  | .dK ks ds, v => ∃ a xs, v = .ref a ∧ Fz a ∧ Rd H a (.dK (ks.zip xs)) ∧ ks.length = xs.length ∧ DenL K Fz H ds xs
  | .dT ks ds, v => ∃ a xs, v = .ref a ∧ Fz a ∧ Rd H a (.dT (ks.zip xs)) ∧ ks.length = xs.length ∧ DenL K Fz H ds xs
def DenL (K : PySem.W.Frag) (Fz : FZ) (H : Hp) : List PV → List V → Prop
  | [], xs => xs = []
  | d :: ds, xs => ∃ v r, xs = v :: r ∧ Den K Fz H d v ∧ DenL K Fz H ds r
end
/-- a datum at the root: read, whoever owns it -/
def Root (K : PySem.W.Frag) (Fz : FZ) (H : Hp) : PV → V → Prop
  | .lst ds, v => ∃ a xs, v = .ref a ∧ (Rd H a (.lst xs) ∨ KX K a xs) ∧ DenL K Fz H ds xs
  | .dK ks ds, v => ∃ a xs, v = .ref a ∧ Rd H a (.dK (ks.zip xs)) ∧ ks.length = xs.length ∧ DenL K Fz H ds xs
  | .dT ks ds, v => ∃ a xs, v = .ref a ∧ Rd H a (.dT (ks.zip xs)) ∧ ks.length = xs.length ∧ DenL K Fz H ds xs
  | d, v => Den K Fz H d v
/-- an object that is one name's own -/
def Own (K : PySem.W.Frag) (Fz : FZ) (H : Hp) : PV → Addr → Prop
  | .lst ds, a => ∃ xs, H a = some (.lst xs) ∧ DenL K Fz H ds xs
  | .dK ks ds, a => ∃ xs, H a = some (.dK (ks.zip xs)) ∧ ks.length = xs.length ∧ DenL K Fz H ds xs
  | .dT ks ds, a => ∃ xs, H a = some (.dT (ks.zip xs)) ∧ ks.length = xs.length ∧ DenL K Fz H ds xs
  | _, _ => False
def Imm : HO → Prop
  | .tup _ => True
  | .frz _ _ => True
  | _ => False
def Keep (Fz : FZ) (H H' : Hp) : Prop := ∀ b o, H b = some o → (Fz b ∨ Imm o) → H' b = some o
theorem Keep.of {Fz : FZ} {H H' : Hp} (h : Same H H') : Keep Fz H H' := fun b o e _ => h b o e
theorem Keep.rd {Fz : FZ} {H H' : Hp} (k : Keep Fz H H') {a : Addr} {u : HO} (hf : Fz a ∨ Imm u) (h : Rd H a u) : Rd H' a u := by
  rcases h with h | ⟨o, h⟩
  · exact .inl (k a _ h hf)
  · exact .inr ⟨o, k a _ h (.inr trivial)⟩
theorem Keep.sqT {K : PySem.W.Frag} {Fz : FZ} {H H' : Hp} (k : Keep Fz H H') {a : Addr} {xs : List V} (h : SqT K H a xs) : SqT K H' a xs := by
  rcases h with h | h
  · exact .inl (k.rd (.inr trivial) h)
  · exact .inr h
section
variable {K : PySem.W.Frag} {Fz Fz' : FZ} {H H' : Hp}
mutual
theorem Den.mono (k : Keep Fz H H') (s : ∀ b, Fz b → Fz' b) : ∀ (d : PV) (v : V), Den K Fz H d v → Den K Fz' H' d v
  | .non, v, h => by simpa only [Den] using h
  | .bl b, v, h => by simpa only [Den] using h
  | .int i, v, h => by simpa only [Den] using h
  | .str x, v, h => by simpa only [Den] using h
  | .ty n, v, h => by simpa only [Den] using h
  | .tup ds, v, h => by
    simp only [Den] at h ⊢
    obtain ⟨a, xs, e, h1, h2⟩ := h
    exact ⟨a, xs, e, k.sqT h1, DenL.mono k s ds xs h2⟩
  | .lst ds, v, h => by
    simp only [Den] at h ⊢
    obtain ⟨a, xs, e, h1, h2⟩ := h
    refine ⟨a, xs, e, ?_, DenL.mono k s ds xs h2⟩
    rcases h1 with ⟨f, h1⟩ | h1
    · exact .inl ⟨s a f, k.rd (.inl f) h1⟩
    · exact .inr h1
  | .dK ks ds, v, h => by
    simp only [Den] at h ⊢
    obtain ⟨a, xs, e, f, h1, h2, h3⟩ := h
    exact ⟨a, xs, e, s a f, k.rd (.inl f) h1, h2, DenL.mono k s ds xs h3⟩
  | .dT ks ds, v, h => by
    simp only [Den] at h ⊢
    obtain ⟨a, xs, e, f, h1, h2, h3⟩ := h
    exact ⟨a, xs, e, s a f, k.rd (.inl f) h1, h2, DenL.mono k s ds xs h3⟩
theorem DenL.mono (k : Keep Fz H H') (s : ∀ b, Fz b → Fz' b) : ∀ (ds : List PV) (xs : List V), DenL K Fz H ds xs → DenL K Fz' H' ds xs
  | [], xs, h => by simpa only [DenL] using h
  | d :: ds, xs, h => by
    simp only [DenL] at h ⊢
    obtain ⟨v, r, e, h1, h2⟩ := h
    exact ⟨v, r, e, Den.mono k s d v h1, DenL.mono k s ds r h2⟩
end
theorem Den.root {d : PV} {v : V} (h : Den K Fz H d v) : Root K Fz H d v := by
  cases d with
  | lst ds =>
    simp only [Den] at h
    obtain ⟨a, xs, e, h1, h2⟩ := h
    refine ⟨a, xs, e, ?_, h2⟩
    rcases h1 with ⟨f, h1⟩ | h1
    · exact .inl h1
    · exact .inr h1
  | dK ks ds =>
    simp only [Den] at h
    obtain ⟨a, xs, e, _, h1, h2⟩ := h
    exact ⟨a, xs, e, h1, h2⟩
  | dT ks ds =>
    simp only [Den] at h
    obtain ⟨a, xs, e, _, h1, h2⟩ := h
    exact ⟨a, xs, e, h1, h2⟩
  | non => exact h
  | bl b => exact h
  | int i => exact h
  | str x => exact h
  | ty n => exact h
  | tup ds => exact h
theorem Own.root {d : PV} {a : Addr} (h : Own K Fz H d a) : Root K Fz H d (.ref a) := by
  cases d with
  | lst ds => obtain ⟨xs, h1, h2⟩ := h; exact ⟨a, xs, rfl, .inl (.inl h1), h2⟩
  | dK ks ds => obtain ⟨xs, h1, h2⟩ := h; exact ⟨a, xs, rfl, .inl h1, h2⟩
  | dT ks ds => obtain ⟨xs, h1, h2⟩ := h; exact ⟨a, xs, rfl, .inl h1, h2⟩
  | non => exact h.elim
  | bl b => exact h.elim
  | int i => exact h.elim
  | str x => exact h.elim
  | ty n => exact h.elim
  | tup ds => exact h.elim
theorem Own.den {d : PV} {a : Addr} (h : Own K Fz H d a) (f : Fz a) : Den K Fz H d (.ref a) := by
  cases d with
  | lst ds => obtain ⟨xs, h1, h2⟩ := h; simp only [Den]; exact ⟨a, xs, rfl, .inl ⟨f, .inl h1⟩, h2⟩
  | dK ks ds => obtain ⟨xs, h1, h2⟩ := h; simp only [Den]; exact ⟨a, xs, rfl, f, .inl h1, h2⟩
  | dT ks ds => obtain ⟨xs, h1, h2⟩ := h; simp only [Den]; exact ⟨a, xs, rfl, f, .inl h1, h2⟩
  | non => exact h.elim
  | bl b => exact h.elim
  | int i => exact h.elim
  | str x => exact h.elim
  | ty n => exact h.elim
  | tup ds => exact h.elim
theorem Own.at {d : PV} {a : Addr} (h : Own K Fz H d a) : ∃ o, H a = some o ∧ ¬ Imm o := by
  cases d with
  | lst ds => obtain ⟨xs, h1, h2⟩ := h; exact ⟨_, h1, fun z => z⟩
  | dK ks ds => obtain ⟨xs, h1, h2⟩ := h; exact ⟨_, h1, fun z => z⟩
  | dT ks ds => obtain ⟨xs, h1, h2⟩ := h; exact ⟨_, h1, fun z => z⟩
  | non => exact h.elim
  | bl b => exact h.elim
  | int i => exact h.elim
  | str x => exact h.elim
  | ty n => exact h.elim
  | tup ds => exact h.elim
theorem Own.mono {d : PV} {a : Addr} (k : Keep Fz H H') (s : ∀ b, Fz b → Fz' b) (ha : ∀ o, H a = some o → H' a = some o) (h : Own K Fz H d a) : Own K Fz' H' d a := by
  cases d with
  | lst ds => obtain ⟨xs, h1, h2⟩ := h; exact ⟨xs, ha _ h1, DenL.mono k s _ _ h2⟩
  | dK ks ds => obtain ⟨xs, h1, h2, h3⟩ := h; exact ⟨xs, ha _ h1, h2, DenL.mono k s _ _ h3⟩
  | dT ks ds => obtain ⟨xs, h1, h2, h3⟩ := h; exact ⟨xs, ha _ h1, h2, DenL.mono k s _ _ h3⟩
  | non => exact h.elim
  | bl b => exact h.elim
  | int i => exact h.elim
  | str x => exact h.elim
  | ty n => exact h.elim
  | tup ds => exact h.elim
theorem Root.mono {d : PV} {v : V} (k : Same H H') (s : ∀ b, Fz b → Fz' b) (h : Root K Fz H d v) : Root K Fz' H' d v := by
  have rd : ∀ {a u}, Rd H a u → Rd H' a u := fun {a u} q => by
    rcases q with q | ⟨o, q⟩
    · exact .inl (k _ _ q)
    · exact .inr ⟨o, k _ _ q⟩
  cases d with
  | lst ds => obtain ⟨a, xs, e, h1, h2⟩ := h; exact ⟨a, xs, e, h1.imp rd id, DenL.mono (.of k) s _ _ h2⟩
  | dK ks ds => obtain ⟨a, xs, e, h1, h2, h3⟩ := h; exact ⟨a, xs, e, rd h1, h2, DenL.mono (.of k) s _ _ h3⟩
  | dT ks ds => obtain ⟨a, xs, e, h1, h2, h3⟩ := h; exact ⟨a, xs, e, rd h1, h2, DenL.mono (.of k) s _ _ h3⟩
  | non => exact Den.mono (.of k) s _ _ h
  | bl b => exact Den.mono (.of k) s _ _ h
  | int i => exact Den.mono (.of k) s _ _ h
  | str x => exact Den.mono (.of k) s _ _ h
  | ty n => exact Den.mono (.of k) s _ _ h
  | tup ds => exact Den.mono (.of k) s _ _ h
theorem DenL.length : ∀ (ds : List PV) (xs : List V), DenL K Fz H ds xs → ds.length = xs.length
  | [], xs, h => by simp only [DenL] at h; subst h; rfl
  | d :: ds, xs, h => by
    simp only [DenL] at h
    obtain ⟨v, r, z, _, h2⟩ := h
    subst z
    rw [List.length_cons, List.length_cons, DenL.length ds r h2]
theorem DenL.get : ∀ {ds : List PV} {xs : List V} {i : Nat} {d : PV}, DenL K Fz H ds xs → ds[i]? = some d → ∃ v, xs[i]? = some v ∧ Den K Fz H d v
  | [], xs, i, d, h, e => by simp at e
  | d0 :: ds, xs, i, d, h, e => by
    simp only [DenL] at h
    obtain ⟨v0, r, z, h1, h2⟩ := h
    subst z
    cases i with
    | zero => simp at e; subst e; exact ⟨v0, rfl, h1⟩
    | succ i =>
      obtain ⟨v, q, h⟩ := DenL.get h2 (i := i) (d := d) (by simpa using e)
      exact ⟨v, by simpa using q, h⟩
theorem DenL.nil : DenL K Fz H [] [] := by simp only [DenL]
theorem DenL.cons {d : PV} {v : V} {ds : List PV} {xs : List V} (h1 : Den K Fz H d v) (h2 : DenL K Fz H ds xs) : DenL K Fz H (d :: ds) (v :: xs) := by
  simp only [DenL]; exact ⟨v, xs, rfl, h1, h2⟩
theorem DenL.append : ∀ {ds es : List PV} {xs ys : List V}, DenL K Fz H ds xs → DenL K Fz H es ys → DenL K Fz H (ds ++ es) (xs ++ ys)
  | [], es, xs, ys, h, g => by simp only [DenL] at h; subst h; exact g
  | d :: ds, es, xs, ys, h, g => by
    simp only [DenL] at h
    obtain ⟨v, r, z, h1, h2⟩ := h
    subst z
    exact DenL.cons h1 (DenL.append h2 g)
theorem DenL.snoc {ds : List PV} {xs : List V} {d : PV} {v : V} (h : DenL K Fz H ds xs) (g : Den K Fz H d v) : DenL K Fz H (ds ++ [d]) (xs ++ [v]) := h.append (DenL.cons g DenL.nil)
theorem DenL.split : ∀ {ds es : List PV} {xs : List V}, DenL K Fz H (ds ++ es) xs → ∃ ys zs, xs = ys ++ zs ∧ DenL K Fz H ds ys ∧ DenL K Fz H es zs
  | [], es, xs, h => ⟨[], xs, rfl, DenL.nil, h⟩
  | d :: ds, es, xs, h => by
    rw [List.cons_append] at h
    simp only [DenL] at h
    obtain ⟨v, r, z, h1, h2⟩ := h
    subst z
    obtain ⟨ys, zs, e, g1, g2⟩ := DenL.split h2
    exact ⟨v :: ys, zs, by rw [e]; rfl, DenL.cons h1 g1, g2⟩
theorem DenL.take {ds : List PV} {xs : List V} (n : Nat) (h : DenL K Fz H ds xs) : DenL K Fz H (ds.take n) (xs.take n) := by
  have hl := h.length
  obtain ⟨ys, zs, e, g1, g2⟩ := DenL.split (ds := ds.take n) (es := ds.drop n) (by rw [List.take_append_drop]; exact h)
  have h1 := g1.length
  subst e
  by_cases hn : n ≤ ds.length
  · rw [List.length_take, Nat.min_eq_left hn] at h1
    rw [List.take_append_of_le_length (by omega), List.take_of_length_le (i := n) (l := ys) (by omega)]
    exact g1
  · rw [List.take_of_length_le (i := n) (l := ds) (by omega), List.take_of_length_le (i := n) (l := ys ++ zs) (by omega)]
    exact h
theorem DenL.drop {ds : List PV} {xs : List V} (n : Nat) (h : DenL K Fz H ds xs) : DenL K Fz H (ds.drop n) (xs.drop n) := by
  have hl := h.length
  obtain ⟨ys, zs, e, g1, g2⟩ := DenL.split (ds := ds.take n) (es := ds.drop n) (by rw [List.take_append_drop]; exact h)
  have h1 := g1.length
  subst e
  by_cases hn : n ≤ ds.length
  · rw [List.length_take, Nat.min_eq_left hn] at h1
    rw [List.drop_append, List.drop_of_length_le (i := n) (l := ys) (by omega), show n - ys.length = 0 by omega]
    exact g2
  · rw [List.drop_of_length_le (i := n) (l := ds) (by omega), List.drop_of_length_le (i := n) (l := ys ++ zs) (by omega)]
    exact DenL.nil
theorem DenL.reverse : ∀ {ds : List PV} {xs : List V}, DenL K Fz H ds xs → DenL K Fz H ds.reverse xs.reverse
  | [], xs, h => by simp only [DenL] at h; subst h; exact DenL.nil
  | d :: ds, xs, h => by
    simp only [DenL] at h
    obtain ⟨v, r, z, h1, h2⟩ := h
    subst z
    rw [List.reverse_cons, List.reverse_cons]
    exact DenL.snoc (DenL.reverse h2) h1
theorem DenL.set : ∀ {ds : List PV} {xs : List V} {d : PV} {v : V} (i : Nat), DenL K Fz H ds xs → Den K Fz H d v → DenL K Fz H (ds.set i d) (xs.set i v)
  | [], xs, d, v, i, h, g => by simp only [DenL] at h; subst h; exact DenL.nil
  | d0 :: ds, xs, d, v, i, h, g => by
    simp only [DenL] at h
    obtain ⟨v0, r, z, h1, h2⟩ := h
    subst z
    cases i with
    | zero => exact DenL.cons g h2
    | succ i => exact DenL.cons h1 (DenL.set i h2 g)
theorem DenL.eraseIdx : ∀ {ds : List PV} {xs : List V} (i : Nat), DenL K Fz H ds xs → DenL K Fz H (ds.eraseIdx i) (xs.eraseIdx i)
  | [], xs, i, h => by simp only [DenL] at h; subst h; exact DenL.nil
  | d0 :: ds, xs, i, h => by
    simp only [DenL] at h
    obtain ⟨v0, r, z, h1, h2⟩ := h
    subst z
    cases i with
    | zero => exact h2
    | succ i => exact DenL.cons h1 (DenL.eraseIdx i h2)
end

/-! ### names -/
abbrev PEnv := List (Option (PV × Bool))
structure Rel (K : PySem.W.Frag) (Fz : FZ) (ρ : PEnv) (σ : St) (H : Hp) : Prop where
  al : ∀ b, Fz b → H b ≠ none
  len : ρ.length = σ.length
  frz : ∀ (i : Nat) (d : PV), ρ[i]? = some (some (d, false)) → ∃ v, σ[i]? = some (some v) ∧ Den K Fz H d v
  own : ∀ (i : Nat) (d : PV), ρ[i]? = some (some (d, true)) → ∃ a, σ[i]? = some (some (.ref a)) ∧ ¬ Fz a ∧ Own K Fz H d a
  inj : ∀ (i j : Nat) (d e : PV) (a : Addr), ρ[i]? = some (some (d, true)) → ρ[j]? = some (some (e, true)) → σ[i]? = some (some (.ref a)) → σ[j]? = some (some (.ref a)) → i = j
def Owned (ρ : PEnv) (σ : St) (a : Addr) : Prop := ∃ (i : Nat) (d : PV), ρ[i]? = some (some (d, true)) ∧ σ[i]? = some (some (.ref a))
structure Ext (Fz : FZ) (H : Hp) (Fz' : FZ) (H' : Hp) : Prop where
  same : Same H H'
  sub : ∀ b, Fz b → Fz' b
  new : ∀ b, Fz' b → Fz b ∨ H b = none
  al : ∀ b, Fz' b → H' b ≠ none
theorem Ext.trans {F1 F2 F3 : FZ} {H1 H2 H3 : Hp} (a : Ext F1 H1 F2 H2) (b : Ext F2 H2 F3 H3) : Ext F1 H1 F3 H3 :=
  ⟨a.same.trans b.same, fun c h => b.sub c (a.sub c h), fun c h => by
    rcases b.new c h with h | h
    · exact a.new c h
    · exact .inr (a.same.free h), b.al⟩
theorem Ext.add {Fz Fz' : FZ} {H H' : Hp} {a : Addr} (x : Ext Fz H Fz' H') (h : H a = none) (h' : H' a ≠ none) : Ext Fz H (fun b => Fz' b ∨ b = a) H' :=
  ⟨x.same, fun b h => .inl (x.sub b h), fun b hb => by
    rcases hb with hb | rfl
    · exact x.new b hb
    · exact .inr h, fun b hb => by
    rcases hb with hb | rfl
    · exact x.al b hb
    · exact h'⟩
/-- a new object is laid -/
theorem Ext.laid {Fz Fz' : FZ} {H H' : Hp} {p : Addr} {o : HO} (x : Ext Fz H Fz' H') (h : H' p = none) : Ext Fz H Fz' (upd H' p o) :=
  ⟨x.same.trans (fun b u e => by rw [upd_ne (ne_of_none e h)]; exact e), x.sub, x.new, fun b hb => by
    by_cases e : b = p
    · subst e; rw [upd_same]; exact fun z => nomatch z
    · rw [upd_ne e]; exact x.al b hb⟩
theorem Rel.ext {K : PySem.W.Frag} {Fz Fz' : FZ} {ρ : PEnv} {σ : St} {H H' : Hp} (R : Rel K Fz ρ σ H) (x : Ext Fz H Fz' H') : Rel K Fz' ρ σ H' where
  al := x.al
  len := R.len
  frz i d h := by
    obtain ⟨v, e, q⟩ := R.frz i d h
    exact ⟨v, e, Den.mono (.of x.same) x.sub d v q⟩
  own i d h := by
    obtain ⟨a, e, n, q⟩ := R.own i d h
    refine ⟨a, e, fun z => ?_, q.mono (.of x.same) x.sub (fun o h => x.same _ _ h)⟩
    rcases x.new a z with z | z
    · exact n z
    · obtain ⟨o, h, _⟩ := q.at
      rw [h] at z; cases z
  inj := R.inj

/-! ### expressions -/
inductive Kd where
  | frz | new | own (i : Nat)
def Opd (K : PySem.W.Frag) (Fz' : FZ) (H' : Hp) (ρ : PEnv) (σ : St) (H : Hp) (d : PV) : Kd → V → Prop
  | .frz, v => Den K Fz' H' d v
  | .new, v => ∃ a, v = .ref a ∧ H a = none ∧ ¬ Fz' a ∧ Own K Fz' H' d a
  | .own i, v => ρ[i]? = some (some (d, true)) ∧ σ[i]? = some (some v)
structure Post (K : PySem.W.Frag) (ρ : PEnv) (σ : St) (Fz : FZ) (H : Hp) (Fz' : FZ) (H' : Hp) (d : PV) (k : Kd) (v : V) : Prop where
  ext : Ext Fz H Fz' H'
  opd : Opd K Fz' H' ρ σ H d k v
theorem Post.root {K : PySem.W.Frag} {ρ : PEnv} {σ : St} {Fz Fz' : FZ} {H H' : Hp} {d : PV} {k : Kd} {v : V} (R : Rel K Fz ρ σ H) (p : Post K ρ σ Fz H Fz' H' d k v) : Root K Fz' H' d v := by
  cases k with
  | frz => exact Den.root p.opd
  | new => obtain ⟨a, e, _, _, h⟩ := p.opd; subst e; exact h.root
  | own i =>
    obtain ⟨h1, h2⟩ := p.opd
    obtain ⟨a, e, _, q⟩ := (R.ext p.ext).own i d h1
    rw [h2] at e; cases e
    exact q.root
/-- a new thing is frozen -/
theorem Post.frozen {K : PySem.W.Frag} {ρ : PEnv} {σ : St} {Fz Fz' : FZ} {H H' : Hp} {d : PV} {k : Kd} {v : V} (hk : k = .frz ∨ k = .new) (p : Post K ρ σ Fz H Fz' H' d k v) :
    ∃ Fz2, Ext Fz H Fz2 H' ∧ (∀ b, Fz' b → Fz2 b) ∧ Den K Fz2 H' d v := by
  rcases hk with rfl | rfl
  · exact ⟨Fz', p.ext, fun _ h => h, p.opd⟩
  · obtain ⟨a, e, hn, _, h⟩ := p.opd
    subst e
    exact ⟨fun b => Fz' b ∨ b = a, p.ext.add hn (by obtain ⟨o, e, _⟩ := h.at; rw [e]; exact fun z => nomatch z), fun _ h => .inl h, (h.mono (Fz' := fun b => Fz' b ∨ b = a) (Keep.of (Same.refl _)) (fun _ h => .inl h) (fun _ h => h)).den (.inr rfl)⟩

abbrev TPE := PEnv → (PV → Kd → Prop) → Prop
abbrev TPT := PEnv → (Bool → Prop) → Prop
abbrev TPA := PEnv → (List (PV × Kd) → Prop) → Prop
def lift (K : PySem.W.Frag) (t : TPE) : TE := fun σ H Q => ∃ ρ Fz, Rel K Fz ρ σ H ∧ t ρ fun d k => ∀ v Fz' H', Post K ρ σ Fz H Fz' H' d k v → Q v H'
def liftT (K : PySem.W.Frag) (t : TPT) : TT := fun σ H Q => ∃ ρ Fz, Rel K Fz ρ σ H ∧ t ρ fun b => ∀ Fz' H', Ext Fz H Fz' H' → Q b H'
structure PuE (X : Cx) (e : Expr) (t : TPE) : Prop where
  mono : ∀ ρ Q Q', (∀ d k, Q d k → Q' d k) → t ρ Q → t ρ Q'
  run : PE X e (lift X.K t)
structure PuT (X : Cx) (e : Expr) (t : TPT) : Prop where
  mono : ∀ ρ Q Q', (∀ b, Q b → Q' b) → t ρ Q → t ρ Q'
  run : PT X e (liftT X.K t)
theorem PE.weak {X : Cx} {e : Expr} {t t' : TE} (h : PE X e t) (w : ∀ σ H Q, t' σ H Q → t σ H Q) : PE X e t' := fun pins s σ H Q I q => h pins s σ H Q I (w σ H Q q)
theorem PT.weak {X : Cx} {e : Expr} {t t' : TT} (h : PT X e t) (w : ∀ σ H Q, t' σ H Q → t σ H Q) : PT X e t' := fun pins s σ H Q I q => h pins s σ H Q I (w σ H Q q)
/-- one operand behind another -/
theorem lift2 {X : Cx} {a b : Expr} {ta tb : TPE} (ha : PuE X a ta) (hb : PuE X b tb) {σ : St} {H : Hp} {R : V → V → Hp → Prop}
    (ρ : PEnv) (Fz : FZ) (Re : Rel X.K Fz ρ σ H)
    (h : ta ρ fun d kd => tb ρ fun e ke => ∀ x y Fz1 H1 Fz2 H2, Post X.K ρ σ Fz H Fz1 H1 d kd x → Post X.K ρ σ Fz1 H1 Fz2 H2 e ke y → R x y H2) :
    lift X.K ta σ H fun x H1 => lift X.K tb σ H1 fun y H2 => R x y H2 :=
  ⟨ρ, Fz, Re, ha.mono ρ _ _ (fun d kd q v Fz1 H1 p1 => ⟨ρ, Fz1, Re.ext p1.ext, hb.mono ρ _ _ (fun e ke q w Fz2 H2 p2 => q v w Fz1 H1 Fz2 H2 p1 p2) q⟩) h⟩
end PL

set_option Elab.async false
set_option linter.all false
set_option maxRecDepth 100000
set_option maxHeartbeats 4000000
namespace PL
open PySem PySem.Spec L2
open PyProof.Rows hiding St

section
variable {K : PySem.W.Frag} {ρ : PEnv} {σ : St} {Fz Fz1 Fz2 : FZ} {H H1 H2 : Hp} {d : PV} {k : Kd} {v : V}
theorem Opd.ext (x : Ext Fz1 H1 Fz2 H2) (h : Opd K Fz1 H1 ρ σ H d k v) : Opd K Fz2 H2 ρ σ H d k v := by
  cases k with
  | frz => exact Den.mono (.of x.same) x.sub _ _ h
  | new =>
    obtain ⟨a, e, hn, nf, o⟩ := h
    refine ⟨a, e, hn, fun z => ?_, o.mono (.of x.same) x.sub (fun o h => x.same _ _ h)⟩
    rcases x.new a z with z | z
    · exact nf z
    · obtain ⟨o', h, _⟩ := o.at
      rw [h] at z; cases z
  | own i => exact h
theorem Opd.back (s : Same H H1) (h : Opd K Fz2 H2 ρ σ H1 d k v) : Opd K Fz2 H2 ρ σ H d k v := by
  cases k with
  | frz => exact h
  | new => obtain ⟨a, e, hn, r⟩ := h; exact ⟨a, e, s.free hn, r⟩
  | own i => exact h
theorem Opd.up (h : Opd K Fz2 H2 [] [] H d k v) : Opd K Fz2 H2 ρ σ H d k v := by
  cases k with
  | frz => exact h
  | new => exact h
  | own i => obtain ⟨z, _⟩ := h; simp at z
/-- an operation's own result, behind its operands -/
theorem Post.behind (x : Ext Fz H Fz1 H1) (p : Post K [] [] Fz1 H1 Fz2 H2 d k v) : Post K ρ σ Fz H Fz2 H2 d k v :=
  ⟨x.trans p.ext, (p.opd.up (ρ := ρ) (σ := σ)).back x.same⟩
theorem Post.then (x : Ext Fz H Fz1 H1) (p : Post K ρ σ Fz1 H1 Fz2 H2 d k v) : Post K ρ σ Fz H Fz2 H2 d k v :=
  ⟨x.trans p.ext, p.opd.back x.same⟩
/-- a result without a change -/
theorem Post.val (al : ∀ b, Fz b → H b ≠ none) (h : Den K Fz H d v) : Post K ρ σ Fz H Fz H d .frz v := ⟨⟨Same.refl H, fun _ h => h, fun _ h => .inl h, al⟩, h⟩
end

/-! ### names, constants -/
def pVar (i : Nat) : TPE := fun ρ Q => ∃ d b, ρ[i]? = some (some (d, b)) ∧ Q d (if b then .own i else .frz)
def pC (d : PV) : TPE := fun _ Q => Q d .frz
section
variable {X : Cx}
theorem pu_var (i : Nat) {x : Str} {pos : Pos} (hN : X.N[i]? = some x := by rfl) (hv : Vis X.env.scope x := by first | exact Or.inl rfl | exact Or.inr (Or.inl rfl) | exact Or.inr (Or.inr rfl)) (hd : (x == ("__debug__" : Str)) = false := by decide)
    (hcd : (x == ("__classdict__" : Str)) = false := by decide) : PuE X (.Name x pos) (pVar i) where
  mono ρ Q Q' m h := by obtain ⟨d, b, e, q⟩ := h; exact ⟨d, b, e, m _ _ q⟩
  run := PE.weak (pe_var hN hv hd hcd) fun σ H Q h => by
    obtain ⟨ρ, Fz, R, d, b, e, q⟩ := h
    cases b with
    | false =>
      obtain ⟨v, e1, h1⟩ := R.frz i d e
      exact ⟨v, e1, q v Fz H (.val R.al h1)⟩
    | true =>
      obtain ⟨a, e1, _, _⟩ := R.own i d e
      exact ⟨_, e1, q _ Fz H ⟨⟨Same.refl H, fun _ h => h, fun _ h => .inl h, R.al⟩, e, e1⟩⟩
theorem pu_const {e : Expr} {d : PV} {v : V} (h : PE X e (tC v)) (hd : ∀ Fz H, Den X.K Fz H d v) : PuE X e (pC d) where
  mono ρ Q Q' m h := m _ _ h
  run := PE.weak h fun σ H Q h => by
    obtain ⟨ρ, Fz, R, q⟩ := h
    exact q v Fz H (.val R.al (hd Fz H))
theorem pu_int {i j pos} : PuE X (.Constant (.int i) j pos) (pC (.int i)) := pu_const pe_int fun _ _ => by simp only [Den]
theorem pu_bl {b j pos} : PuE X (.Constant (.bool b) j pos) (pC (.bl b)) := pu_const pe_bl fun _ _ => by simp only [Den]
theorem pu_non {j pos} : PuE X (.Constant .none j pos) (pC .non) := pu_const pe_non fun _ _ => by simp only [Den]
theorem pu_str {x j pos} : PuE X (.Constant (.str x) j pos) (pC (.str x)) := pu_const pe_str fun _ _ => by simp only [Den]
/-- a built-in class as a value -/
theorem pu_ty {x : Str} {T : String} {pos : Pos} (hg : Gl X x) (hm : X.mg x = none) (hv : bootBuiltins x = some (.type T)) (hn : x ≠ "__name__" := by decide) (hd : (x == ("__debug__" : Str)) = false := by decide) : PuE X (.Name x pos) (pC (.ty T)) :=
  pu_const (pe_bltn (v := .ty T) hg hm hv rfl hn hd) fun _ _ => by simp only [Den]
end

/-! ### two operands -/
abbrev P2 := PV → PV → (PV → Kd → Prop) → Prop
structure POp (K : PySem.W.Frag) (r : R2) (p : P2) : Prop where
  mono : ∀ d e Q Q', (∀ z k, Q z k → Q' z k) → p d e Q → p d e Q'
  run : ∀ Fz H x y d e Q, (∀ b, Fz b → H b ≠ none) → Root K Fz H d x → Root K Fz H e y → p d e (fun z k => ∀ v Fz' H', Post K [] [] Fz H Fz' H' z k v → Q v H') → r x y H Q
def t2 (p : P2) (ta tb : TPE) : TPE := fun ρ Q => ta ρ fun d _ => tb ρ fun e _ => p d e Q
section
variable {X : Cx} {a b : Expr} {ta tb : TPE} {pos : Pos} {r : R2} {p : P2}
theorem t2_mono (hp : POp X.K r p) (ha : PuE X a ta) (hb : PuE X b tb) : ∀ ρ Q Q', (∀ d k, Q d k → Q' d k) → t2 p ta tb ρ Q → t2 p ta tb ρ Q' :=
  fun ρ Q Q' m h => ha.mono ρ _ _ (fun d _ h => hb.mono ρ _ _ (fun e _ h => hp.mono d e _ _ m h) h) h
theorem t2_run (hp : POp X.K r p) (ha : PuE X a ta) (hb : PuE X b tb) {σ : St} {H : Hp} {Q : VK} (h : lift X.K (t2 p ta tb) σ H Q) : tOp r (lift X.K ta) (lift X.K tb) σ H Q := by
  obtain ⟨ρ, Fz, R, h⟩ := h
  refine lift2 ha hb ρ Fz R (ha.mono ρ _ _ (fun d kd h => hb.mono ρ _ _ (fun e ke h => ?_) h) h)
  intro x y Fz1 H1 Fz2 H2 p1 p2
  have R1 := R.ext p1.ext
  refine hp.run Fz2 H2 x y d e Q p2.ext.al ((p1.root R).mono p2.ext.same p2.ext.sub) (p2.root R1) (hp.mono d e _ _ (fun z k q v Fz' H' p3 => ?_) h)
  exact q v Fz' H' (p3.behind (p1.ext.trans p2.ext))
theorem pu_op {op : Operator} (ho : OpR X (binaryOp op) r) (hp : POp X.K r p) (ha : PuE X a ta) (hb : PuE X b tb) : PuE X (.BinOp a op b pos) (t2 p ta tb) :=
  ⟨t2_mono hp ha hb, PE.weak (pe_op ho ha.run hb.run) fun _ _ _ h => t2_run hp ha hb h⟩
theorem pu_cmp {op : CmpOp} (ho : OpR X (compareOp op) r) (hp : POp X.K r p) (ha : PuE X a ta) (hb : PuE X b tb) (hm : behindInMarks op b = false := by first | exact nomark _ | rfl) : PuE X (.Compare a [op] [b] pos) (t2 p ta tb) :=
  ⟨t2_mono hp ha hb, PE.weak (pe_cmpR ho ha.run hb.run hm) fun _ _ _ h => t2_run hp ha hb h⟩
def tBl (te : TPE) : TPT := fun ρ Q => te ρ fun d _ => ∃ b, d = .bl b ∧ Q b
theorem put_cmp {op : CmpOp} (ho : OpR X (compareOp op) r) (hp : POp X.K r p) (ha : PuE X a ta) (hb : PuE X b tb) (hm : behindInMarks op b = false := by first | exact nomark _ | rfl) : PuT X (.Compare a [op] [b] pos) (tBl (t2 p ta tb)) where
  mono ρ Q Q' m h := t2_mono hp ha hb ρ _ _ (fun d _ ⟨b, e, q⟩ => ⟨b, e, m b q⟩) h
  run := PT.weak (pt_cmpR ho ha.run hb.run hm) fun σ H Q h => by
    obtain ⟨ρ, Fz, R, h⟩ := h
    refine t2_run hp ha hb ⟨ρ, Fz, R, t2_mono hp ha hb ρ _ _ (fun d k ⟨b, e, q⟩ v Fz' H' p => ⟨b, ?_, q Fz' H' p.ext⟩) h⟩
    subst e
    have w := p.root R
    simpa only [Root, Den] using w
theorem pu_ix (ho : IxR X r) (hp : POp X.K r p) (ha : PuE X a ta) (hb : PuE X b tb) (hs : PlainIx b := by exact fun _ _ => rfl) : PuE X (.Subscript a b pos) (t2 p ta tb) :=
  ⟨t2_mono hp ha hb, PE.weak (pe_ix ho ha.run hb.run hs) fun _ _ _ h => t2_run hp ha hb h⟩
end

/-! ### ints -/
def i2 (C : Int → Int → Prop) (g : Int → Int → PV) : P2 := fun d e Q => ∃ i j, d = .int i ∧ e = .int j ∧ C i j ∧ Q (g i j) .frz
def i0 (g : Int → Int → PV) : P2 := fun d e Q => ∃ i j, d = .int i ∧ e = .int j ∧ Q (g i j) .frz
section
variable {K : PySem.W.Frag}
theorem po_int {C : Int → Int → Prop} {g : Int → Int → Int} : POp K (rI C fun i j => .int (g i j)) (i2 C fun i j => .int (g i j)) where
  mono d e Q Q' m h := by obtain ⟨i, j, e1, e2, c, q⟩ := h; exact ⟨i, j, e1, e2, c, m _ _ q⟩
  run Fz H x y d e Q al rx ry h := by
    obtain ⟨i, j, rfl, rfl, c, q⟩ := h
    simp only [Root, Den] at rx ry
    exact ⟨i, j, rx, ry, c, q _ Fz H (.val al (by simp only [Den]))⟩
theorem po_int0 {g : Int → Int → Int} : POp K (rI0 fun i j => .int (g i j)) (i0 fun i j => .int (g i j)) where
  mono d e Q Q' m h := by obtain ⟨i, j, e1, e2, q⟩ := h; exact ⟨i, j, e1, e2, m _ _ q⟩
  run Fz H x y d e Q al rx ry h := by
    obtain ⟨i, j, rfl, rfl, q⟩ := h
    simp only [Root, Den] at rx ry
    exact ⟨i, j, rx, ry, q _ Fz H (.val al (by simp only [Den]))⟩
theorem po_bool0 {g : Int → Int → Bool} : POp K (rI0 fun i j => .bl (g i j)) (i0 fun i j => .bl (g i j)) where
  mono d e Q Q' m h := by obtain ⟨i, j, e1, e2, q⟩ := h; exact ⟨i, j, e1, e2, m _ _ q⟩
  run Fz H x y d e Q al rx ry h := by
    obtain ⟨i, j, rfl, rfl, q⟩ := h
    simp only [Root, Den] at rx ry
    exact ⟨i, j, rx, ry, q _ Fz H (.val al (by simp only [Den]))⟩
/-- == of scalars -/
def pscal : PV → PV → Bool
  | .non, .non => true | .non, .int _ => true | .int _, .non => true | .non, .bl _ => true | .bl _, .non => true | .non, .str _ => true | .str _, .non => true
  | .int _, .int _ => true | .bl _, .bl _ => true | .str _, .str _ => true
  | .int _, .str _ => true | .str _, .int _ => true | .bl _, .str _ => true | .str _, .bl _ => true
  | _, _ => false
def pEqS (neg : Bool) : P2 := fun d e Q => pscal d e = true ∧ Q (.bl (if neg then !decide (d = e) else decide (d = e))) .frz
theorem scal_of {Fz : FZ} {H : Hp} {x y : V} {d e : PV} (hs : pscal d e = true) (rx : Root K Fz H d x) (ry : Root K Fz H e y) : scal x y = true ∧ decide (x = y) = decide (d = e) := by
  cases d <;> cases e <;> first
    | (simp only [pscal] at hs; exact absurd hs (by decide))
    | (simp only [Root, Den] at rx ry; subst rx ry; refine ⟨rfl, ?_⟩; simp)
theorem po_eq : POp K rEq (pEqS false) where
  mono d e Q Q' m h := ⟨h.1, m _ _ h.2⟩
  run Fz H x y d e Q al rx ry h := by
    obtain ⟨s, w⟩ := scal_of h.1 rx ry
    refine ⟨s, ?_⟩
    rw [w]
    exact h.2 _ Fz H (.val al (by simp only [Den]; rfl))
theorem po_ne : POp K rNe (pEqS true) where
  mono d e Q Q' m h := ⟨h.1, m _ _ h.2⟩
  run Fz H x y d e Q al rx ry h := by
    obtain ⟨s, w⟩ := scal_of h.1 rx ry
    refine ⟨s, ?_⟩
    rw [w]
    exact h.2 _ Fz H (.val al (by simp only [Den]; rfl))
end
section
variable {X : Cx} {a b : Expr} {ta tb : TPE} {pos : Pos}
abbrev pAdd := t2 (i0 fun i j => .int (i + j))
abbrev pSub := t2 (i0 fun i j => .int (i - j))
abbrev pMul := t2 (i2 CMul fun i j => .int (i * j))
abbrev pMod := t2 (i2 (fun _ j => 0 < j) fun i j => .int (i % j))
abbrev pDiv := t2 (i2 CDiv fun i j => .int (i / j))
abbrev pPow := t2 (i2 CPow fun i j => .int (i ^ j.toNat))
abbrev pShr := t2 (i2 (fun _ j => 0 ≤ j) fun i j => .int (i / 2 ^ j.toNat))
abbrev pLt := t2 (i0 fun i j => .bl (decide (i < j)))
abbrev pLe := t2 (i0 fun i j => .bl (decide (i ≤ j)))
abbrev pGt := t2 (i0 fun i j => .bl (decide (j < i)))
abbrev pGe := t2 (i0 fun i j => .bl (decide (j ≤ i)))
theorem pu_add (ha : PuE X a ta) (hb : PuE X b tb) : PuE X (.BinOp a .Add b pos) (pAdd ta tb) := pu_op op_add po_int0 ha hb
theorem pu_sub (ha : PuE X a ta) (hb : PuE X b tb) : PuE X (.BinOp a .Sub b pos) (pSub ta tb) := pu_op op_sub po_int0 ha hb
theorem pu_mul (ha : PuE X a ta) (hb : PuE X b tb) : PuE X (.BinOp a .Mult b pos) (pMul ta tb) := pu_op op_mul po_int ha hb
theorem pu_mod (ha : PuE X a ta) (hb : PuE X b tb) : PuE X (.BinOp a .Mod b pos) (pMod ta tb) := pu_op op_mod po_int ha hb
theorem pu_div (ha : PuE X a ta) (hb : PuE X b tb) : PuE X (.BinOp a .FloorDiv b pos) (pDiv ta tb) := pu_op op_fdiv po_int ha hb
theorem pu_pow (ha : PuE X a ta) (hb : PuE X b tb) : PuE X (.BinOp a .Pow b pos) (pPow ta tb) := pu_op op_pow po_int ha hb
theorem pu_shr (ha : PuE X a ta) (hb : PuE X b tb) : PuE X (.BinOp a .RShift b pos) (pShr ta tb) := pu_op op_shr po_int ha hb
end
end PL

set_option Elab.async false
set_option linter.all false
set_option maxRecDepth 100000
set_option maxHeartbeats 4000000
namespace PL
open PySem PySem.Spec L2
open PyProof.Rows hiding St

/-! ### == and in of plain data -/
/-- numbers, texts, None, tuples and lists of such, n deep at most -/
def plain : Nat → PV → Bool
  | _, .non => true
  | _, .int _ => true
  | _, .str _ => true
  | n + 1, .tup ds => ds.all (plain n)
  | n + 1, .lst ds => ds.all (plain n)
  | _, _ => false
theorem RootL.get {K : PySem.W.Frag} {Fz : FZ} {H : Hp} {ds : List PV} {xs : List V} {j : Nat} (h : DenL K Fz H ds xs) (hj : j < ds.length) (hx : j < xs.length) : Den K Fz H ds[j] xs[j] := by
  obtain ⟨v, e, q⟩ := h.get (i := j) (d := ds[j]) (List.getElem?_eq_getElem hj)
  rw [List.getElem?_eq_getElem hx] at e
  cases e
  exact q
theorem root_non {K : PySem.W.Frag} {Fz : FZ} {H : Hp} {x : V} (h : Root K Fz H .non x) : x = .non := by simpa only [Root, Den] using h
theorem root_int {K : PySem.W.Frag} {Fz : FZ} {H : Hp} {x : V} {i : Int} (h : Root K Fz H (.int i) x) : x = .int i := by simpa only [Root, Den] using h
theorem root_bl {K : PySem.W.Frag} {Fz : FZ} {H : Hp} {x : V} {i : Bool} (h : Root K Fz H (.bl i) x) : x = .bl i := by simpa only [Root, Den] using h
theorem root_str {K : PySem.W.Frag} {Fz : FZ} {H : Hp} {x : V} {i : Str} (h : Root K Fz H (.str i) x) : x = .str i := by simpa only [Root, Den] using h
theorem root_tup {K : PySem.W.Frag} {Fz : FZ} {H : Hp} {x : V} {ds : List PV} (h : Root K Fz H (.tup ds) x) : ∃ a xs, x = .ref a ∧ SqT K H a xs ∧ DenL K Fz H ds xs := by simpa only [Root, Den] using h
theorem root_lst {K : PySem.W.Frag} {Fz : FZ} {H : Hp} {x : V} {ds : List PV} (h : Root K Fz H (.lst ds) x) : ∃ a xs, x = .ref a ∧ SqL K H a xs ∧ DenL K Fz H ds xs := by
  simp only [Root] at h
  obtain ⟨a, xs, e, h1, h2⟩ := h
  exact ⟨a, xs, e, h1.elim (fun h => .inl h) KX.sq, h2⟩
theorem root_lstR {K : PySem.W.Frag} {Fz : FZ} {H : Hp} {x : V} {ds : List PV} (h : Root K Fz H (.lst ds) x) : ∃ a xs, x = .ref a ∧ (Rd H a (.lst xs) ∨ KX K a xs) ∧ DenL K Fz H ds xs := by simpa only [Root] using h
theorem df {p : Prop} [Decidable p] (h : ¬ p) {Y : Bool → Prop} (y : Y false) : Y (decide p) := by rw [decide_eq_false h]; exact y
theorem dn {p : Prop} [Decidable p] (h : ¬ p) {Y : Bool → Prop} (y : Y true) : Y (!decide p) := by rw [decide_eq_false h]; exact y
section
variable {X : Cx} {pins : List (Addr × Obj)} {σ : St} {H : Hp} {s : Shared} {Fz Fz' : FZ}
theorem seq_apart (I : Inv X pins σ H s) {a : Addr} {xs ys : List V} (h1 : SqL X.K H a xs) (h2 : SqT X.K H a ys) : False := by
  obtain ⟨its, r, p, _⟩ := I.list h1
  obtain ⟨its2, r2, p2, _⟩ := I.tuple h2
  exact SeqAt.ne_of_list_tuple p.isList (show s.heap.IsTuple a its2.toArray from p2) rfl
theorem root_inj (I : Inv X pins σ H s) : ∀ (n : Nat) (d e : PV) (x : V), plain n d = true → plain n e = true → Root X.K Fz H d x → Root X.K Fz' H e x → d = e := by
  intro n
  induction n with
  | zero =>
    intro d e x pd pe h g
    cases d <;> first
      | (simp only [plain] at pd; exact absurd pd (by decide))
      | (cases e <;> first
          | (simp only [plain] at pe; exact absurd pe (by decide))
          | (simp only [Root, Den] at h g; subst h; first | (cases g; rfl) | cases g))
  | succ n ih =>
    have all : ∀ (ds es : List PV) (xs : List V), ds.all (plain n) = true → es.all (plain n) = true → DenL X.K Fz H ds xs → DenL X.K Fz' H es xs → ds = es := by
      intro ds
      induction ds with
      | nil =>
        intro es xs _ _ h g
        simp only [DenL] at h
        subst h
        cases es with
        | nil => rfl
        | cons e es => simp only [DenL] at g; obtain ⟨_, _, z, _⟩ := g; cases z
      | cons d ds ihd =>
        intro es xs pd pe h g
        simp only [DenL] at h
        obtain ⟨v, r, z, h1, h2⟩ := h
        subst z
        cases es with
        | nil => simp only [DenL] at g; cases g
        | cons e es =>
          simp only [DenL] at g
          obtain ⟨v', r', z, g1, g2⟩ := g
          cases z
          rw [List.all_cons, Bool.and_eq_true] at pd pe
          rw [ih d e v pd.1 pe.1 h1.root g1.root, ihd es r pd.2 pe.2 h2 g2]
    intro d e x pd pe h g
    cases d with
    | tup ds =>
      simp only [plain] at pd
      simp only [Root, Den] at h
      obtain ⟨a, xs, rfl, h1, h2⟩ := h
      cases e with
      | tup es =>
        simp only [plain] at pe
        simp only [Root, Den] at g
        obtain ⟨b, ys, z, g1, g2⟩ := g
        cases z
        have e1 := I.tuple_inj h1 g1
        subst e1
        rw [all ds es xs pd pe h2 g2]
      | lst es =>
        obtain ⟨b, ys, z, g1, g2⟩ := root_lst g
        cases z
        exact (seq_apart I g1 h1).elim
      | non => simp only [Root, Den] at g; cases g
      | int i => simp only [Root, Den] at g; cases g
      | str i => simp only [Root, Den] at g; cases g
      | bl _ => simp only [plain] at pe; exact absurd pe (by decide)
      | ty _ => simp only [plain] at pe; exact absurd pe (by decide)
      | dK _ _ => simp only [plain] at pe; exact absurd pe (by decide)
      | dT _ _ => simp only [plain] at pe; exact absurd pe (by decide)
    | lst ds =>
      simp only [plain] at pd
      obtain ⟨a, xs, rfl, h1, h2⟩ := root_lst h
      cases e with
      | lst es =>
        simp only [plain] at pe
        obtain ⟨b, ys, z, g1, g2⟩ := root_lst g
        cases z
        have e1 := I.list_inj h1 g1
        subst e1
        rw [all ds es xs pd pe h2 g2]
      | tup es =>
        simp only [Root, Den] at g
        obtain ⟨b, ys, z, g1, g2⟩ := g
        cases z
        exact (seq_apart I h1 g1).elim
      | non => simp only [Root, Den] at g; cases g
      | int i => simp only [Root, Den] at g; cases g
      | str i => simp only [Root, Den] at g; cases g
      | bl _ => simp only [plain] at pe; exact absurd pe (by decide)
      | ty _ => simp only [plain] at pe; exact absurd pe (by decide)
      | dK _ _ => simp only [plain] at pe; exact absurd pe (by decide)
      | dT _ _ => simp only [plain] at pe; exact absurd pe (by decide)
    | bl _ => simp only [plain] at pd; exact absurd pd (by decide)
    | ty _ => simp only [plain] at pd; exact absurd pd (by decide)
    | dK _ _ => simp only [plain] at pd; exact absurd pd (by decide)
    | dT _ _ => simp only [plain] at pd; exact absurd pd (by decide)
    | non =>
      have h' := root_non h
      subst h'
      cases e with
      | non => rfl
      | int i => exact nomatch root_int g
      | str i => exact nomatch root_str g
      | tup ds => obtain ⟨_, _, z, _⟩ := root_tup g; exact nomatch z
      | lst ds => obtain ⟨_, _, z, _⟩ := root_lst g; exact nomatch z
      | _ => simp only [plain] at pe; exact absurd pe (by decide)
    | int i =>
      have h' := root_int h
      subst h'
      cases e with
      | non => exact nomatch root_non g
      | int j => have := root_int g; injection this with this; rw [this]
      | str i => exact nomatch root_str g
      | tup ds => obtain ⟨_, _, z, _⟩ := root_tup g; exact nomatch z
      | lst ds => obtain ⟨_, _, z, _⟩ := root_lst g; exact nomatch z
      | _ => simp only [plain] at pe; exact absurd pe (by decide)
    | str i =>
      have h' := root_str h
      subst h'
      cases e with
      | non => exact nomatch root_non g
      | int j => exact nomatch root_int g
      | str j => have := root_str g; injection this with this; rw [this]
      | tup ds => obtain ⟨_, _, z, _⟩ := root_tup g; exact nomatch z
      | lst ds => obtain ⟨_, _, z, _⟩ := root_lst g; exact nomatch z
      | _ => simp only [plain] at pe; exact absurd pe (by decide)

theorem all_dec {ds es : List PV} {n : Nat} (hn : n = min ds.length es.length) : ((List.range n).all fun j => decide (ds[j]? = es[j]?)) = true ↔ ∀ j, j < ds.length → j < es.length → ds[j]? = es[j]? := by
  rw [List.all_eq_true]
  constructor
  · intro h j h1 h2
    exact of_decide_eq_true (h j (List.mem_range.mpr (by omega)))
  · intro h j hj
    have := List.mem_range.mp hj
    exact decide_eq_true (h j (by omega) (by omega))
theorem eq_of_get {ds es : List PV} (hl : ds.length = es.length) : (∀ j, j < ds.length → j < es.length → ds[j]? = es[j]?) ↔ ds = es := by
  constructor
  · intro h
    apply List.ext_getElem?
    intro j
    by_cases hj : j < ds.length
    · exact h j hj (by omega)
    · rw [List.getElem?_eq_none (by omega), List.getElem?_eq_none (by omega)]
  · rintro rfl _ _ _; rfl
theorem all_dec_tup (ds es : List PV) : ((List.range (min ds.length es.length)).all (fun j => decide (ds[j]? = es[j]?)) && ds.length == es.length) = decide (ds = es) := by
  by_cases hlen : ds.length = es.length
  · have hb' : (ds.length == es.length) = true := by simp; omega
    rw [hb', Bool.and_true]
    by_cases h : ds = es
    · rw [(all_dec rfl).mpr ((eq_of_get hlen).mpr h), decide_eq_true h]
    · rw [decide_eq_false h]
      cases hq : (List.range (min ds.length es.length)).all (fun j => decide (ds[j]? = es[j]?)) with
      | false => rfl
      | true => exact absurd ((eq_of_get hlen).mp ((all_dec rfl).mp hq)) h
  · have hb' : (ds.length == es.length) = false := by rw [beq_eq_false_iff_ne]; exact hlen
    rw [hb', Bool.and_false, decide_eq_false (fun z => hlen (by rw [z]))]
theorem all_dec_lst {ds es : List PV} (hlen : ds.length = es.length) : ((List.range ds.length).all (fun j => decide (ds[j]? = es[j]?))) = decide (ds = es) := by
  have q := all_dec_tup ds es
  rw [hlen, Nat.min_self] at q
  rw [hlen]
  simpa using q
theorem dec_pint {i j : Int} : decide (PV.int i = PV.int j) = (i == j) := by
  rw [Bool.eq_iff_iff]; simp
theorem dec_pstr {i j : Str} : decide (PV.str i = PV.str j) = (i == j) := by
  rw [Bool.eq_iff_iff]; simp
theorem dec_ptup {i j : List PV} : decide (PV.tup i = PV.tup j) = decide (i = j) := by
  rw [Bool.eq_iff_iff]; simp
theorem dec_plst {i j : List PV} : decide (PV.lst i = PV.lst j) = decide (i = j) := by
  rw [Bool.eq_iff_iff]; simp
/-- the items of two sequences, one by one -/
theorem items_at {A : Around} {n : Nat} {ds es : List PV} {xs ys : List V} {its its2 : List Value} (I : Inv X pins σ H s) (r1 : Vals xs its) (r2 : Vals ys its2) (h1 : DenL X.K Fz H ds xs) (h2 : DenL X.K Fz' H es ys) (pd : ds.all (plain n) = true) (pe : es.all (plain n) = true)
    (ih : ∀ (d e : PV) (x y : V) (u v : Value), plain n d = true → plain n e = true → Den X.K Fz H d x → Den X.K Fz' H e y → RelV x u → RelV y v → SeqAt.EqAt A s u v (decide (d = e))) :
    ∀ j (h1 : j < its.toArray.size) (h2 : j < its2.toArray.size), SeqAt.EqAt A s its.toArray[j] its2.toArray[j] (decide (ds[j]? = es[j]?)) := fun j h1' h2' => by
  have l1 := r1.length
  have l2 := r2.length
  have l3 := h1.length
  have l4 := h2.length
  rw [List.size_toArray] at h1' h2'
  have e1 : ds[j]? = some ds[j] := List.getElem?_eq_getElem (by omega)
  have e2 : es[j]? = some es[j] := List.getElem?_eq_getElem (by omega)
  obtain ⟨x, e3, q3⟩ := h1.get e1
  obtain ⟨y, e4, q4⟩ := h2.get e2
  obtain ⟨u1, q1, r1'⟩ := r1.get e3
  obtain ⟨u2, q2, r2'⟩ := r2.get e4
  have f1 : its.toArray[j] = u1 := by
    have : its[j]? = some its[j] := List.getElem?_eq_getElem h1'
    rw [q1] at this
    simpa using (Option.some.inj this).symm
  have f2 : its2.toArray[j] = u2 := by
    have : its2[j]? = some its2[j] := List.getElem?_eq_getElem h2'
    rw [q2] at this
    simpa using (Option.some.inj this).symm
  rw [f1, f2]
  have w : decide (ds[j] = es[j]) = decide (ds[j]? = es[j]?) := by
    rw [e1, e2]
    by_cases h : ds[j] = es[j]
    · rw [decide_eq_true h, decide_eq_true (by rw [h])]
    · rw [decide_eq_false h, decide_eq_false (fun z => h (Option.some.inj z))]
  rw [← w]
  exact ih _ _ _ _ _ _ (List.all_eq_true.mp pd _ (List.getElem_mem _)) (List.all_eq_true.mp pe _ (List.getElem_mem _)) q3 q4 r1' r2'
theorem rc_eq (I : Inv X pins σ H s) : ∀ (n : Nat) (A : Around) (d e : PV) (x y : V) (u v : Value), plain n d = true → plain n e = true → A.units + n < cLine → Root X.K Fz H d x → Root X.K Fz' H e y → RelV x u → RelV y v →
    SeqAt.RcAt A s u v (decide (d = e)) ∧ SeqAt.RcNeAt A s u v (!decide (d = e)) ∧ SeqAt.EqAt A s u v (decide (d = e)) := by
  intro n
  induction n with
  | zero =>
    intro A d e x y u v pd pe hu hx hy rx ry
    cases d with
    | non =>
      have hx' := root_non hx
      subst hx'
      cases rx
      cases e with
      | non =>
        have hy' := root_non hy
        subst hy'
        cases ry
        rw [decide_eq_true rfl]; exact ⟨SeqAt.RcAt.none_none, SeqAt.RcNeAt.none_none, SeqAt.EqAt.same _⟩
      | int j =>
        have hy' := root_int hy
        subst hy'
        obtain ⟨t', rfl⟩ := ry
        rw [decide_eq_false (fun z => nomatch z)]; exact ⟨SeqAt.RcAt.none_int _ _, SeqAt.RcNeAt.none_int _ _, SeqAt.EqAt.none_int _ _⟩
      | str j =>
        have hy' := root_str hy
        subst hy'
        obtain ⟨t', rfl⟩ := ry
        rw [decide_eq_false (fun z => nomatch z)]; exact ⟨SeqAt.RcAt.none_str _ _, SeqAt.RcNeAt.none_str _ _, SeqAt.EqAt.none_str _ _⟩
      | _ => simp only [plain] at pe; exact absurd pe (by decide)
    | int i =>
      have hx' := root_int hx
      subst hx'
      obtain ⟨t, rfl⟩ := rx
      cases e with
      | non =>
        have hy' := root_non hy
        subst hy'
        cases ry
        rw [decide_eq_false (fun z => nomatch z)]; exact ⟨SeqAt.RcAt.int_none _ _, SeqAt.RcNeAt.int_none _ _, SeqAt.EqAt.int_none _ _⟩
      | int j =>
        have hy' := root_int hy
        subst hy'
        obtain ⟨t', rfl⟩ := ry
        rw [dec_pint]; exact ⟨SeqAt.RcAt.int_int _ _ _ _, SeqAt.RcNeAt.int_int _ _ _ _, SeqAt.EqAt.int_int _ _ _ _⟩
      | str j =>
        have hy' := root_str hy
        subst hy'
        obtain ⟨t', rfl⟩ := ry
        rw [decide_eq_false (fun z => nomatch z)]; exact ⟨SeqAt.RcAt.int_str _ _ _ _, SeqAt.RcNeAt.int_str _ _ _ _, SeqAt.EqAt.int_str _ _ _ _⟩
      | _ => simp only [plain] at pe; exact absurd pe (by decide)
    | str i =>
      have hx' := root_str hx
      subst hx'
      obtain ⟨t, rfl⟩ := rx
      cases e with
      | non =>
        have hy' := root_non hy
        subst hy'
        cases ry
        rw [decide_eq_false (fun z => nomatch z)]; exact ⟨SeqAt.RcAt.str_none _ _, SeqAt.RcNeAt.str_none _ _, SeqAt.EqAt.str_none _ _⟩
      | int j =>
        have hy' := root_int hy
        subst hy'
        obtain ⟨t', rfl⟩ := ry
        rw [decide_eq_false (fun z => nomatch z)]; exact ⟨SeqAt.RcAt.str_int _ _ _ _, SeqAt.RcNeAt.str_int _ _ _ _, SeqAt.EqAt.str_int _ _ _ _⟩
      | str j =>
        have hy' := root_str hy
        subst hy'
        obtain ⟨t', rfl⟩ := ry
        rw [dec_pstr]; exact ⟨SeqAt.RcAt.str_str _ _ _ _, SeqAt.RcNeAt.str_str _ _ _ _, SeqAt.EqAt.str_str _ _ _ _⟩
      | _ => simp only [plain] at pe; exact absurd pe (by decide)
    | _ => simp only [plain] at pd; exact absurd pd (by decide)
  | succ n ih =>
    intro A d e x y u v pd pe hu hx hy rx ry
    have hA : A.units < cLine := by omega
    have iha : ∀ (d e : PV) (x y : V) (u v : Value), plain n d = true → plain n e = true → Den X.K Fz H d x → Den X.K Fz' H e y → RelV x u → RelV y v → SeqAt.EqAt A.in1 s u v (decide (d = e)) :=
      fun d e x y u v pd pe h1 h2 r1 r2 => (ih A.in1 d e x y u v pd pe (by show A.units + 1 + n < cLine; omega) h1.root h2.root r1 r2).2.2
    have lower : ∀ c : PV, (∀ ds, c ≠ .tup ds) → (∀ ds, c ≠ .lst ds) → plain (n + 1) c = true → plain n c = true := fun c h1 h2 hc => by
      cases c with
      | tup ds => exact absurd rfl (h1 ds)
      | lst ds => exact absurd rfl (h2 ds)
      | non => cases n <;> rfl
      | int i => cases n <;> rfl
      | str i => cases n <;> rfl
      | bl _ => simp only [plain] at hc; exact absurd hc (by decide)
      | ty _ => simp only [plain] at hc; exact absurd hc (by decide)
      | dK _ _ => simp only [plain] at hc; exact absurd hc (by decide)
      | dT _ _ => simp only [plain] at hc; exact absurd hc (by decide)
    have low := fun (pd : plain n d = true) (pe : plain n e = true) => ih A d e x y u v pd pe (by omega) hx hy rx ry
    cases d with
    | tup ds =>
      have hx' := hx
      simp only [Root, Den] at hx
      obtain ⟨a, xs, rfl, ha, h1⟩ := hx
      cases rx
      obtain ⟨its, r1, p1, z1⟩ := I.tuple ha
      have p1' : s.heap.IsTuple a its.toArray := p1
      cases e with
      | tup es =>
        have hy' := hy
        simp only [Root, Den] at hy
        obtain ⟨b, ys, rfl, hb, h2⟩ := hy
        cases ry
        obtain ⟨its2, r2, p2, z2⟩ := I.tuple hb
        have p2' : s.heap.IsTuple b its2.toArray := p2
        have he := items_at I r1 r2 h1 h2 (by simpa only [plain] using pd) (by simpa only [plain] using pe) iha
        have w : ((List.range (min its.toArray.size its2.toArray.size)).all (fun j => decide (ds[j]? = es[j]?)) && its.toArray.size == its2.toArray.size) = decide (PV.tup ds = PV.tup es) := by
          rw [List.size_toArray, List.size_toArray, ← r1.length, ← r2.length, ← h1.length, ← h2.length, all_dec_tup, dec_ptup]
        have q := SeqAt.RcAt.tuples p1' p2' hA he
        have q' := SeqAt.RcNeAt.tuples p1' p2' hA he
        rw [w] at q q'
        refine ⟨q, q', ?_⟩
        by_cases hab : a = b
        · subst hab
          rw [root_inj I (n + 1) _ _ _ pd pe hx' hy', decide_eq_true rfl]
          exact SeqAt.EqAt.same _
        · exact SeqAt.EqAt.of_refs hab q
      | lst es =>
        obtain ⟨b, ys, rfl, hb, h2⟩ := root_lst hy
        cases ry
        obtain ⟨its2, r2, p2, z2⟩ := I.list hb
        exact ⟨df (fun z => nomatch z) (SeqAt.RcAt.tuple_list p1' p2.isList hA), dn (fun z => nomatch z) (SeqAt.RcNeAt.tuple_list p1' p2.isList hA), df (fun z => nomatch z) (SeqAt.EqAt.tuple_list p1' p2.isList hA)⟩
      | non => simp only [Root, Den] at hy; subst hy; cases ry; exact ⟨df (fun z => nomatch z) (SeqAt.RcAt.tuple_none p1' hA), dn (fun z => nomatch z) (SeqAt.RcNeAt.tuple_none p1' hA), df (fun z => nomatch z) (SeqAt.EqAt.tuple_none p1' hA)⟩
      | int i => simp only [Root, Den] at hy; subst hy; obtain ⟨t, rfl⟩ := ry; exact ⟨df (fun z => nomatch z) (SeqAt.RcAt.tuple_int i t p1' hA), dn (fun z => nomatch z) (SeqAt.RcNeAt.tuple_int i t p1' hA), df (fun z => nomatch z) (SeqAt.EqAt.tuple_int i t p1' hA)⟩
      | str i => simp only [Root, Den] at hy; subst hy; obtain ⟨t, rfl⟩ := ry; exact ⟨df (fun z => nomatch z) (SeqAt.RcAt.tuple_str i t p1' hA), dn (fun z => nomatch z) (SeqAt.RcNeAt.tuple_str i t p1' hA), df (fun z => nomatch z) (SeqAt.EqAt.tuple_str i t p1' hA)⟩
      | bl _ => simp only [plain] at pe; exact absurd pe (by decide)
      | ty _ => simp only [plain] at pe; exact absurd pe (by decide)
      | dK _ _ => simp only [plain] at pe; exact absurd pe (by decide)
      | dT _ _ => simp only [plain] at pe; exact absurd pe (by decide)
    | lst ds =>
      have hx' := hx
      obtain ⟨a, xs, rfl, ha, h1⟩ := root_lst hx
      cases rx
      obtain ⟨its, r1, p1, z1⟩ := I.list ha
      have p1' := p1.isList
      cases e with
      | lst es =>
        have hy' := hy
        obtain ⟨b, ys, rfl, hb, h2⟩ := root_lst hy
        cases ry
        obtain ⟨its2, r2, p2, z2⟩ := I.list hb
        have he := items_at I r1 r2 h1 h2 (by simpa only [plain] using pd) (by simpa only [plain] using pe) iha
        have l1 := r1.length
        have l2 := r2.length
        have l3 := h1.length
        have l4 := h2.length
        have key : SeqAt.RcAt A s (.ref a) (.ref b) (decide (PV.lst ds = PV.lst es)) ∧ SeqAt.RcNeAt A s (.ref a) (.ref b) (!decide (PV.lst ds = PV.lst es)) := by
          by_cases hlen : ds.length = es.length
          · have w : (List.range its.toArray.size).all (fun j => decide (ds[j]? = es[j]?)) = decide (PV.lst ds = PV.lst es) := by
              rw [List.size_toArray, ← l1, ← l3, all_dec_lst hlen, dec_plst]
            have q := SeqAt.RcAt.lists p1' p2.isList (by rw [List.size_toArray, List.size_toArray]; omega) hA he
            have q' := SeqAt.RcNeAt.lists p1' p2.isList (by rw [List.size_toArray, List.size_toArray]; omega) hA he
            rw [w] at q q'
            exact ⟨q, q'⟩
          · have hne : (its.toArray.size != its2.toArray.size) = true := by rw [List.size_toArray, List.size_toArray]; simp; omega
            rw [decide_eq_false (fun z => hlen (by rw [PV.lst.inj z]))]
            exact ⟨SeqAt.RcAt.lists_lengths p1' p2.isList hne hA, SeqAt.RcNeAt.lists_lengths p1' p2.isList hne hA⟩
        refine ⟨key.1, key.2, ?_⟩
        by_cases hab : a = b
        · subst hab
          rw [root_inj I (n + 1) _ _ _ pd pe hx' hy', decide_eq_true rfl]
          exact SeqAt.EqAt.same _
        · exact SeqAt.EqAt.of_refs hab key.1
      | tup es =>
        simp only [Root, Den] at hy
        obtain ⟨b, ys, rfl, hb, h2⟩ := hy
        cases ry
        obtain ⟨its2, r2, p2, z2⟩ := I.tuple hb
        have p2' : s.heap.IsTuple b its2.toArray := p2
        exact ⟨df (fun z => nomatch z) (SeqAt.RcAt.list_tuple p1' p2' hA), dn (fun z => nomatch z) (SeqAt.RcNeAt.list_tuple p1' p2' hA), df (fun z => nomatch z) (SeqAt.EqAt.list_tuple p1' p2' hA)⟩
      | non => simp only [Root, Den] at hy; subst hy; cases ry; exact ⟨df (fun z => nomatch z) (SeqAt.RcAt.list_none p1' hA), dn (fun z => nomatch z) (SeqAt.RcNeAt.list_none p1' hA), df (fun z => nomatch z) (SeqAt.EqAt.list_none p1' hA)⟩
      | int i => simp only [Root, Den] at hy; subst hy; obtain ⟨t, rfl⟩ := ry; exact ⟨df (fun z => nomatch z) (SeqAt.RcAt.list_int i t p1' hA), dn (fun z => nomatch z) (SeqAt.RcNeAt.list_int i t p1' hA), df (fun z => nomatch z) (SeqAt.EqAt.list_int i t p1' hA)⟩
      | str i => simp only [Root, Den] at hy; subst hy; obtain ⟨t, rfl⟩ := ry; exact ⟨df (fun z => nomatch z) (SeqAt.RcAt.list_str i t p1' hA), dn (fun z => nomatch z) (SeqAt.RcNeAt.list_str i t p1' hA), df (fun z => nomatch z) (SeqAt.EqAt.list_str i t p1' hA)⟩
      | bl _ => simp only [plain] at pe; exact absurd pe (by decide)
      | ty _ => simp only [plain] at pe; exact absurd pe (by decide)
      | dK _ _ => simp only [plain] at pe; exact absurd pe (by decide)
      | dT _ _ => simp only [plain] at pe; exact absurd pe (by decide)
    | bl _ => simp only [plain] at pd; exact absurd pd (by decide)
    | ty _ => simp only [plain] at pd; exact absurd pd (by decide)
    | dK _ _ => simp only [plain] at pd; exact absurd pd (by decide)
    | dT _ _ => simp only [plain] at pd; exact absurd pd (by decide)
    | non =>
      cases e with
      | tup es =>
        simp only [Root, Den] at hx hy; subst hx; cases rx
        obtain ⟨b, ys, rfl, hb, h2⟩ := hy
        cases ry
        obtain ⟨its2, r2, p2, z2⟩ := I.tuple hb
        have p2' : s.heap.IsTuple b its2.toArray := p2
        exact ⟨df (fun z => nomatch z) (SeqAt.RcAt.none_tuple p2' hA), dn (fun z => nomatch z) (SeqAt.RcNeAt.none_tuple p2' hA), df (fun z => nomatch z) (SeqAt.EqAt.none_tuple p2' hA)⟩
      | lst es =>
        simp only [Root, Den] at hx; subst hx; cases rx
        obtain ⟨b, ys, rfl, hb, h2⟩ := root_lst hy
        cases ry
        obtain ⟨its2, r2, p2, z2⟩ := I.list hb
        exact ⟨df (fun z => nomatch z) (SeqAt.RcAt.none_list p2.isList hA), dn (fun z => nomatch z) (SeqAt.RcNeAt.none_list p2.isList hA), df (fun z => nomatch z) (SeqAt.EqAt.none_list p2.isList hA)⟩
      | _ => exact low (lower _ (fun _ z => nomatch z) (fun _ z => nomatch z) pd) (lower _ (fun _ z => nomatch z) (fun _ z => nomatch z) pe)
    | int i =>
      cases e with
      | tup es =>
        simp only [Root, Den] at hx hy; subst hx; obtain ⟨t, rfl⟩ := rx
        obtain ⟨b, ys, rfl, hb, h2⟩ := hy
        cases ry
        obtain ⟨its2, r2, p2, z2⟩ := I.tuple hb
        have p2' : s.heap.IsTuple b its2.toArray := p2
        exact ⟨df (fun z => nomatch z) (SeqAt.RcAt.int_tuple i t p2' hA), dn (fun z => nomatch z) (SeqAt.RcNeAt.int_tuple i t p2' hA), df (fun z => nomatch z) (SeqAt.EqAt.int_tuple i t p2' hA)⟩
      | lst es =>
        simp only [Root, Den] at hx; subst hx; obtain ⟨t, rfl⟩ := rx
        obtain ⟨b, ys, rfl, hb, h2⟩ := root_lst hy
        cases ry
        obtain ⟨its2, r2, p2, z2⟩ := I.list hb
        exact ⟨df (fun z => nomatch z) (SeqAt.RcAt.int_list i t p2.isList hA), dn (fun z => nomatch z) (SeqAt.RcNeAt.int_list i t p2.isList hA), df (fun z => nomatch z) (SeqAt.EqAt.int_list i t p2.isList hA)⟩
      | _ => exact low (lower _ (fun _ z => nomatch z) (fun _ z => nomatch z) pd) (lower _ (fun _ z => nomatch z) (fun _ z => nomatch z) pe)
    | str i =>
      cases e with
      | tup es =>
        simp only [Root, Den] at hx hy; subst hx; obtain ⟨t, rfl⟩ := rx
        obtain ⟨b, ys, rfl, hb, h2⟩ := hy
        cases ry
        obtain ⟨its2, r2, p2, z2⟩ := I.tuple hb
        have p2' : s.heap.IsTuple b its2.toArray := p2
        exact ⟨df (fun z => nomatch z) (SeqAt.RcAt.str_tuple i t p2' hA), dn (fun z => nomatch z) (SeqAt.RcNeAt.str_tuple i t p2' hA), df (fun z => nomatch z) (SeqAt.EqAt.str_tuple i t p2' hA)⟩
      | lst es =>
        simp only [Root, Den] at hx; subst hx; obtain ⟨t, rfl⟩ := rx
        obtain ⟨b, ys, rfl, hb, h2⟩ := root_lst hy
        cases ry
        obtain ⟨its2, r2, p2, z2⟩ := I.list hb
        exact ⟨df (fun z => nomatch z) (SeqAt.RcAt.str_list i t p2.isList hA), dn (fun z => nomatch z) (SeqAt.RcNeAt.str_list i t p2.isList hA), df (fun z => nomatch z) (SeqAt.EqAt.str_list i t p2.isList hA)⟩
      | _ => exact low (lower _ (fun _ z => nomatch z) (fun _ z => nomatch z) pd) (lower _ (fun _ z => nomatch z) (fun _ z => nomatch z) pe)
end

def rEqP (K : PySem.W.Frag) (neg : Bool) : R2 := fun x y H Q => ∃ Fz d e, Root K Fz H d x ∧ Root K Fz H e y ∧ plain 6 d = true ∧ plain 6 e = true ∧ Q (.bl (if neg then !decide (d = e) else decide (d = e))) H
def pEq (neg : Bool) : P2 := fun d e Q => plain 6 d = true ∧ plain 6 e = true ∧ Q (.bl (if neg then !decide (d = e) else decide (d = e))) .frz
section
variable {X : Cx}
theorem op_eqP (hu : X.A.units + 16 < cLine) : OpR X (compareOp .Eq) (rEqP X.K false) := by
  intro pins s σ H x y v u Q I rx ry h
  obtain ⟨Fz, d, e, hx, hy, pd, pe, q⟩ := h
  exact (rc_eq I 6 X.A d e x y v u pd pe (by omega) hx hy rx ry).1 X.prog X.w X.xe _ ⟨.bl _, H, I, rfl, q⟩
theorem op_neP (hu : X.A.units + 16 < cLine) : OpR X (compareOp .NotEq) (rEqP X.K true) := by
  intro pins s σ H x y v u Q I rx ry h
  obtain ⟨Fz, d, e, hx, hy, pd, pe, q⟩ := h
  exact (rc_eq I 6 X.A d e x y v u pd pe (by omega) hx hy rx ry).2.1 X.prog X.w X.xe _ ⟨.bl _, H, I, rfl, q⟩
theorem po_eqP {K : PySem.W.Frag} {neg : Bool} : POp K (rEqP K neg) (pEq neg) where
  mono d e Q Q' m h := ⟨h.1, h.2.1, m _ _ h.2.2⟩
  run Fz H x y d e Q al rx ry h := ⟨Fz, d, e, rx, ry, h.1, h.2.1, h.2.2 _ Fz H (.val al (by simp only [Den]))⟩
end
end PL

set_option Elab.async false
set_option linter.all false
set_option maxRecDepth 100000
set_option maxHeartbeats 4000000
namespace PL
open PySem PySem.Spec L2
open PyProof.Rows hiding St

/-! ### tests -/
section
variable {X : Cx} {a b c : Expr} {ta tb : TPE} {tA tB' : TPT} {pos : Pos} {rest : List Expr}
/-- a test, whatever its whole -/
structure PuW (X : Cx) (e : Expr) (t : TPT) : Prop where
  mono : ∀ ρ Q Q', (∀ b, Q b → Q' b) → t ρ Q → t ρ Q'
  run : PW X e (liftT X.K t)
theorem PuW.t {e : Expr} {t : TPT} (h : PuW X e t) : PuT X e t := ⟨h.mono, h.run.pt⟩
def tAndP (t u : TPT) : TPT := fun ρ Q => t ρ fun c => if c = true then u ρ Q else Q false
def tOrP (t u : TPT) : TPT := fun ρ Q => t ρ fun c => if c = true then Q true else u ρ Q
def tNotP (t : TPT) : TPT := fun ρ Q => t ρ fun c => Q (!c)
theorem PW.weak {e : Expr} {t t' : TT} (h : PW X e t) (w : ∀ σ H Q, t' σ H Q → t σ H Q) : PW X e t' := fun whole pins s σ H Q I q => h whole pins s σ H Q I (w σ H Q q)
theorem puw_and1 (ha : PuT X a tA) : PuW X (.BoolOp .And [a] pos) tA := ⟨ha.mono, pw_and1 ha.run⟩
theorem puw_or1 (ha : PuT X a tA) : PuW X (.BoolOp .Or [a] pos) tA := ⟨ha.mono, pw_or1 ha.run⟩
theorem and_mono (m1 : ∀ ρ (Q Q' : Bool → Prop), (∀ b, Q b → Q' b) → tA ρ Q → tA ρ Q') (m2 : ∀ ρ (Q Q' : Bool → Prop), (∀ b, Q b → Q' b) → tB' ρ Q → tB' ρ Q') :
    ∀ ρ (Q Q' : Bool → Prop), (∀ b, Q b → Q' b) → tAndP tA tB' ρ Q → tAndP tA tB' ρ Q' := fun ρ Q Q' m h => m1 ρ _ _ (fun c q => by
  cases c with
  | true => rw [if_pos rfl] at q ⊢; exact m2 ρ _ _ m q
  | false => rw [if_neg Bool.false_ne_true] at q ⊢; exact m _ q) h
theorem or_mono (m1 : ∀ ρ (Q Q' : Bool → Prop), (∀ b, Q b → Q' b) → tA ρ Q → tA ρ Q') (m2 : ∀ ρ (Q Q' : Bool → Prop), (∀ b, Q b → Q' b) → tB' ρ Q → tB' ρ Q') :
    ∀ ρ (Q Q' : Bool → Prop), (∀ b, Q b → Q' b) → tOrP tA tB' ρ Q → tOrP tA tB' ρ Q' := fun ρ Q Q' m h => m1 ρ _ _ (fun c q => by
  cases c with
  | false => rw [if_neg Bool.false_ne_true] at q ⊢; exact m2 ρ _ _ m q
  | true => rw [if_pos rfl] at q ⊢; exact m _ q) h
theorem puw_and (ha : PuT X a tA) (hb : PuW X (.BoolOp .And (b :: rest) pos) tB') : PuW X (.BoolOp .And (a :: b :: rest) pos) (tAndP tA tB') where
  mono := and_mono ha.mono hb.mono
  run := PW.weak (pw_and ha.run hb.run) fun σ H Q h => by
    obtain ⟨ρ, Fz, R, h⟩ := h
    refine ⟨ρ, Fz, R, ha.mono ρ _ _ (fun c q Fz' H' x => ?_) h⟩
    cases c with
    | true =>
      rw [if_pos rfl] at q ⊢
      exact ⟨ρ, Fz', R.ext x, hb.mono ρ _ _ (fun b q Fz2 H2 x2 => q Fz2 H2 (x.trans x2)) q⟩
    | false => rw [if_neg Bool.false_ne_true] at q ⊢; exact q Fz' H' x
theorem puw_or (ha : PuT X a tA) (hb : PuW X (.BoolOp .Or (b :: rest) pos) tB') : PuW X (.BoolOp .Or (a :: b :: rest) pos) (tOrP tA tB') where
  mono := or_mono ha.mono hb.mono
  run := PW.weak (pw_or ha.run hb.run) fun σ H Q h => by
    obtain ⟨ρ, Fz, R, h⟩ := h
    refine ⟨ρ, Fz, R, ha.mono ρ _ _ (fun c q Fz' H' x => ?_) h⟩
    cases c with
    | false =>
      rw [if_neg Bool.false_ne_true] at q ⊢
      exact ⟨ρ, Fz', R.ext x, hb.mono ρ _ _ (fun b q Fz2 H2 x2 => q Fz2 H2 (x.trans x2)) q⟩
    | true => rw [if_pos rfl] at q ⊢; exact q Fz' H' x
theorem put_not (ha : PuT X a tA) : PuT X (.UnaryOp .Not a pos) (tNotP tA) where
  mono ρ Q Q' m h := ha.mono ρ _ _ (fun c q => m _ q) h
  run := PT.weak (pt_not ha.run) fun σ H Q h => h
/-- a value's truth -/
def TruP : PV → Bool → Prop
  | .non, k => k = false
  | .bl b, k => k = b
  | .int i, k => k = (i != 0)
  | .str y, k => y.length ≤ sizeLine ∧ k = ((y.length : Int) != 0)
  | .tup ds, k => k = !ds.isEmpty
  | .lst ds, k => k = !ds.isEmpty
  | _, _ => False
def tTru (te : TPE) : TPT := fun ρ Q => te ρ fun d _ => ∃ k, TruP d k ∧ Q k
theorem TruP.v {K : PySem.W.Frag} {Fz : FZ} {H : Hp} {d : PV} {x : V} {k : Bool} (r : Root K Fz H d x) (t : TruP d k) : TruV K x H k := by
  cases d with
  | non => cases root_non r; exact t
  | bl b => cases root_bl r; exact t
  | int i => cases root_int r; exact t
  | str y => cases root_str r; exact t
  | tup ds =>
    obtain ⟨a, xs, rfl, h1, h2⟩ := root_tup r
    refine .inr (.inl ⟨xs, h1, ?_⟩)
    have hl := h2.length
    have t' : k = !ds.isEmpty := t
    rw [t']
    cases ds <;> cases xs <;> simp_all
  | lst ds =>
    obtain ⟨a, xs, rfl, h1, h2⟩ := root_lst r
    refine .inl ⟨xs, h1, ?_⟩
    have hl := h2.length
    have t' : k = !ds.isEmpty := t
    rw [t']
    cases ds <;> cases xs <;> simp_all
  | ty _ => exact t.elim
  | dK _ _ => exact t.elim
  | dT _ _ => exact t.elim
theorem put_tru (ha : PuE X a ta) (he : ∀ whole, isTrue a X.env whole = (do let v ← whole; standAt a.pos; holding [v] (truthy v)) := by intro _; rfl) : PuT X a (tTru ta) where
  mono ρ Q Q' m h := ha.mono ρ _ _ (fun d k ⟨b, e, q⟩ => ⟨b, e, m b q⟩) h
  run := PT.weak (pt_truth ha.run he) fun σ H Q h => by
    obtain ⟨ρ, Fz, R, h⟩ := h
    exact ⟨ρ, Fz, R, ha.mono ρ _ _ (fun d k ⟨b, e, q⟩ v Fz' H' p => ⟨b, TruP.v (p.root R) e, q Fz' H' p.ext⟩) h⟩
/-! and, or, not as values (of truths) -/
def tNotE (ta : TPE) : TPE := fun ρ Q => ta ρ fun d _ => ∃ c, d = .bl c ∧ Q (.bl (!c)) .frz
def tAndE (ta tb : TPE) : TPE := fun ρ Q => ta ρ fun d _ => ∃ c, d = .bl c ∧ if c = true then tb ρ Q else Q (.bl false) .frz
def tOrE (ta tb : TPE) : TPE := fun ρ Q => ta ρ fun d _ => ∃ c, d = .bl c ∧ if c = true then Q (.bl true) .frz else tb ρ Q
theorem pu_not (ha : PuE X a ta) : PuE X (.UnaryOp .Not a pos) (tNotE ta) where
  mono ρ Q Q' m h := ha.mono ρ _ _ (fun d k ⟨c, e, q⟩ => ⟨c, e, m _ _ q⟩) h
  run := PE.weak (pe_not ha.run) fun σ H Q h => by
    obtain ⟨ρ, Fz, R, h⟩ := h
    refine ⟨ρ, Fz, R, ha.mono ρ _ _ (fun d k ⟨c, e, q⟩ v Fz' H' p => ⟨c, ?_, q _ Fz' H' ⟨p.ext, by show Den _ _ _ _ _; simp only [Den]⟩⟩) h⟩
    subst e
    exact root_bl (p.root R)
theorem pu_one {op} {t : TPE} (h : PuE X a t) : PuE X (.BoolOp op [a] pos) t := ⟨h.mono, pe_one h.run⟩
theorem pu_and (ha : PuE X a ta) (hb : PuE X (.BoolOp .And (b :: rest) pos) tb) : PuE X (.BoolOp .And (a :: b :: rest) pos) (tAndE ta tb) where
  mono ρ Q Q' m h := ha.mono ρ _ _ (fun d k ⟨c, e, q⟩ => ⟨c, e, by
    cases c with
    | true => rw [if_pos rfl] at q ⊢; exact hb.mono ρ _ _ m q
    | false => rw [if_neg Bool.false_ne_true] at q ⊢; exact m _ _ q⟩) h
  run := PE.weak (pe_and ha.run hb.run) fun σ H Q h => by
    obtain ⟨ρ, Fz, R, h⟩ := h
    refine ⟨ρ, Fz, R, ha.mono ρ _ _ (fun d k ⟨c, e, q⟩ v Fz' H' p => ⟨c, ?_, ?_⟩) h⟩
    · subst e; exact root_bl (p.root R)
    · cases c with
      | true =>
        rw [if_pos rfl] at q ⊢
        exact ⟨ρ, Fz', R.ext p.ext, hb.mono ρ _ _ (fun d k q v Fz2 H2 p2 => q v Fz2 H2 (p2.then p.ext)) q⟩
      | false => rw [if_neg Bool.false_ne_true] at q ⊢; exact q _ Fz' H' ⟨p.ext, by show Den _ _ _ _ _; simp only [Den]⟩
theorem pu_or (ha : PuE X a ta) (hb : PuE X (.BoolOp .Or (b :: rest) pos) tb) : PuE X (.BoolOp .Or (a :: b :: rest) pos) (tOrE ta tb) where
  mono ρ Q Q' m h := ha.mono ρ _ _ (fun d k ⟨c, e, q⟩ => ⟨c, e, by
    cases c with
    | false => rw [if_neg Bool.false_ne_true] at q ⊢; exact hb.mono ρ _ _ m q
    | true => rw [if_pos rfl] at q ⊢; exact m _ _ q⟩) h
  run := PE.weak (pe_or ha.run hb.run) fun σ H Q h => by
    obtain ⟨ρ, Fz, R, h⟩ := h
    refine ⟨ρ, Fz, R, ha.mono ρ _ _ (fun d k ⟨c, e, q⟩ v Fz' H' p => ⟨c, ?_, ?_⟩) h⟩
    · subst e; exact root_bl (p.root R)
    · cases c with
      | false =>
        rw [if_neg Bool.false_ne_true] at q ⊢
        exact ⟨ρ, Fz', R.ext p.ext, hb.mono ρ _ _ (fun d k q v Fz2 H2 p2 => q v Fz2 H2 (p2.then p.ext)) q⟩
      | true => rw [if_pos rfl] at q ⊢; exact q _ Fz' H' ⟨p.ext, by show Den _ _ _ _ _; simp only [Den]⟩
def tIfE (t : TPT) (ta tb : TPE) : TPE := fun ρ Q => t ρ fun c => if c = true then ta ρ Q else tb ρ Q
theorem pu_ifExp (hc : PuT X c tA) (ha : PuE X a ta) (hb : PuE X b tb) : PuE X (.IfExp c a b pos) (tIfE tA ta tb) where
  mono ρ Q Q' m h := hc.mono ρ _ _ (fun d q => by
    cases d with
    | true => rw [if_pos rfl] at q ⊢; exact ha.mono ρ _ _ m q
    | false => rw [if_neg Bool.false_ne_true] at q ⊢; exact hb.mono ρ _ _ m q) h
  run := PE.weak (pe_ifExp hc.run ha.run hb.run) fun σ H Q h => by
    obtain ⟨ρ, Fz, R, h⟩ := h
    refine ⟨ρ, Fz, R, hc.mono ρ _ _ (fun c q Fz' H' x => ?_) h⟩
    cases c with
    | true =>
      rw [if_pos rfl] at q ⊢
      exact ⟨ρ, Fz', R.ext x, ha.mono ρ _ _ (fun d k q v Fz2 H2 p2 => q v Fz2 H2 (p2.then x)) q⟩
    | false =>
      rw [if_neg Bool.false_ne_true] at q ⊢
      exact ⟨ρ, Fz', R.ext x, hb.mono ρ _ _ (fun d k q v Fz2 H2 p2 => q v Fz2 H2 (p2.then x)) q⟩
end

/-! ### lists of operands -/
abbrev OpdL (K : PySem.W.Frag) (Fz' : FZ) (H' : Hp) (ρ : PEnv) (σ : St) (H : Hp) : List (PV × Kd) → List V → Prop := Paired fun p v => Opd K Fz' H' ρ σ H p.1 p.2 v
def liftA (K : PySem.W.Frag) (t : TPA) : TA := fun σ H Q => ∃ ρ Fz, Rel K Fz ρ σ H ∧ t ρ fun ops => ∀ vs Fz' H', Ext Fz H Fz' H' → OpdL K Fz' H' ρ σ H ops vs → Q vs H'
structure PuA (X : Cx) (es : List Expr) (t : TPA) : Prop where
  mono : ∀ ρ Q Q', (∀ ops, Q ops → Q' ops) → t ρ Q → t ρ Q'
  run : PA X es (liftA X.K t)
theorem PA.weak {X : Cx} {es : List Expr} {t t' : TA} (h : PA X es t) (w : ∀ σ H Q, t' σ H Q → t σ H Q) : PA X es t' := fun pos pins s σ H Q I q => h pos pins s σ H Q I (w σ H Q q)
def pNil : TPA := fun _ Q => Q []
def pCons (te : TPE) (t : TPA) : TPA := fun ρ Q => te ρ fun d k => t ρ fun ops => Q ((d, k) :: ops)
theorem OpdL.ext {K : PySem.W.Frag} {ρ : PEnv} {σ : St} {Fz1 Fz2 : FZ} {H H1 H2 : Hp} (x : Ext Fz1 H1 Fz2 H2) : ∀ {ops : List (PV × Kd)} {vs : List V}, OpdL K Fz1 H1 ρ σ H ops vs → OpdL K Fz2 H2 ρ σ H ops vs
  | _, _, .nil => .nil
  | _, _, .cons h t => .cons (Opd.ext x h) (OpdL.ext x t)
theorem OpdL.back {K : PySem.W.Frag} {ρ : PEnv} {σ : St} {Fz2 : FZ} {H H1 H2 : Hp} (s : Same H H1) : ∀ {ops : List (PV × Kd)} {vs : List V}, OpdL K Fz2 H2 ρ σ H1 ops vs → OpdL K Fz2 H2 ρ σ H ops vs
  | _, _, .nil => .nil
  | _, _, .cons h t => .cons (Opd.back s h) (OpdL.back s t)
section
variable {X : Cx} {e : Expr} {es : List Expr} {te : TPE} {t : TPA} {pos : Pos}
theorem pua_nil : PuA X [] pNil where
  mono ρ Q Q' m h := m _ h
  run := PA.weak pa_nil fun σ H Q h => by
    obtain ⟨ρ, Fz, R, h⟩ := h
    exact h [] Fz H ⟨Same.refl H, fun _ h => h, fun _ h => .inl h, R.al⟩ .nil
theorem pua_cons (ha : PuE X e te) (hr : PuA X es t) (hs : starEach (e :: es) X.env = (false, eval e X.env) :: starEach es X.env := by rfl) : PuA X (e :: es) (pCons te t) where
  mono ρ Q Q' m h := ha.mono ρ _ _ (fun d k h => hr.mono ρ _ _ (fun ops h => m _ h) h) h
  run := PA.weak (pa_cons ha.run hr.run hs) fun σ H Q h => by
    obtain ⟨ρ, Fz, R, h⟩ := h
    refine ⟨ρ, Fz, R, ha.mono ρ _ _ (fun d k h v Fz1 H1 p => ?_) h⟩
    refine ⟨ρ, Fz1, R.ext p.ext, hr.mono ρ _ _ (fun ops h vs Fz2 H2 x o => ?_) h⟩
    exact h (v :: vs) Fz2 H2 (p.ext.trans x) (.cons (Opd.ext x p.opd) (OpdL.back p.ext.same o))
end
/-- every operand stands as data -/
def RootL (K : PySem.W.Frag) (Fz : FZ) (H : Hp) : List PV → List V → Prop := Paired (Root K Fz H)
theorem OpdL.root {K : PySem.W.Frag} {ρ : PEnv} {σ : St} {Fz Fz' : FZ} {H H' : Hp} (R : Rel K Fz ρ σ H) (x : Ext Fz H Fz' H') : ∀ {ops : List (PV × Kd)} {vs : List V}, OpdL K Fz' H' ρ σ H ops vs → RootL K Fz' H' (ops.map (·.1)) vs
  | _, _, .nil => .nil
  | _, _, .cons h t => .cons (Post.root R ⟨x, h⟩) (OpdL.root R x t)
/-- no operand is a name's own -/
def noOwn : List (PV × Kd) → Bool
  | [] => true
  | (_, .own _) :: _ => false
  | _ :: r => noOwn r
/-- operands that are new are frozen -/
theorem OpdL.frozen {K : PySem.W.Frag} {ρ : PEnv} {σ : St} {Fz Fz' : FZ} {H H' : Hp} (x : Ext Fz H Fz' H') : ∀ {ops : List (PV × Kd)} {vs : List V}, noOwn ops = true → OpdL K Fz' H' ρ σ H ops vs →
    ∃ Fz2, Ext Fz H Fz2 H' ∧ (∀ b, Fz' b → Fz2 b) ∧ DenL K Fz2 H' (ops.map (·.1)) vs
  | _, _, _, .nil => ⟨Fz', x, fun _ h => h, DenL.nil⟩
  | (d, k) :: ops, v :: vs, hn, .cons h t => by
    cases k with
    | own i => exact absurd hn Bool.false_ne_true
    | frz =>
      obtain ⟨F2, x2, s2, h2⟩ := OpdL.frozen x (ops := ops) hn t
      exact ⟨F2, x2, s2, DenL.cons (Den.mono (Keep.of (Same.refl _)) s2 _ _ h) h2⟩
    | new =>
      obtain ⟨F2, x2, s2, h2⟩ := OpdL.frozen x (ops := ops) hn t
      obtain ⟨a, e, hn', _, o⟩ := h
      subst e
      refine ⟨fun b => F2 b ∨ b = a, x2.add hn' (by obtain ⟨o', e, _⟩ := o.at; rw [e]; exact fun z => nomatch z), fun b h => .inl (s2 b h), DenL.cons ?_ (DenL.mono (Keep.of (Same.refl _)) (fun b h => .inl h) _ _ h2)⟩
      exact (o.mono (Fz' := fun b => F2 b ∨ b = a) (Keep.of (Same.refl _)) (fun b h => .inl (s2 b h)) (fun _ h => h)).den (.inr rfl)

/-! ### displays -/
def pTup (t : TPA) : TPE := fun ρ Q => t ρ fun ops => noOwn ops = true ∧ ops.length ≤ sizeLine ∧ Q (.tup (ops.map (·.1))) .frz
def pLst (t : TPA) : TPE := fun ρ Q => t ρ fun ops => noOwn ops = true ∧ ops.length ≤ sizeLine ∧ Q (.lst (ops.map (·.1))) .new
section
variable {X : Cx} {es : List Expr} {t : TPA} {pos : Pos}
theorem pu_tup {x1} (h : PuA X es t) : PuE X (.Tuple es x1 pos) (pTup t) where
  mono ρ Q Q' m q := h.mono ρ _ _ (fun ops q => ⟨q.1, q.2.1, m _ _ q.2.2⟩) q
  run := PE.weak (pe_tup h.run) fun σ H Q q => by
    obtain ⟨ρ, Fz, R, q⟩ := q
    refine ⟨ρ, Fz, R, h.mono ρ _ _ (fun ops q vs Fz' H' x o => ?_) q⟩
    obtain ⟨hn, hl, q⟩ := q
    obtain ⟨F2, x2, s2, h2⟩ := o.frozen x hn
    have len := h2.length
    rw [List.length_map] at len
    refine ⟨by omega, fun p hp => q _ F2 _ ⟨x2.laid hp, ?_⟩⟩
    show Den _ _ _ _ _
    simp only [Den]
    refine ⟨p, vs, rfl, SqT.of upd_same, DenL.mono (Keep.of (fun b u e => by rw [upd_ne (ne_of_none e hp)]; exact e)) (fun _ h => h) _ _ h2⟩
theorem pu_lst (h : PuA X es t) : PuE X (.List es pos) (pLst t) where
  mono ρ Q Q' m q := h.mono ρ _ _ (fun ops q => ⟨q.1, q.2.1, m _ _ q.2.2⟩) q
  run := PE.weak (pe_lst h.run) fun σ H Q q => by
    obtain ⟨ρ, Fz, R, q⟩ := q
    refine ⟨ρ, Fz, R, h.mono ρ _ _ (fun ops q vs Fz' H' x o => ?_) q⟩
    obtain ⟨hn, hl, q⟩ := q
    obtain ⟨F2, x2, s2, h2⟩ := o.frozen x hn
    have len := h2.length
    rw [List.length_map] at len
    refine ⟨by omega, fun p hp => q _ F2 _ ⟨x2.laid hp, p, rfl, x.same.free hp, fun z => x2.al p z hp, vs, upd_same, ?_⟩⟩
    exact DenL.mono (Keep.of (fun b u e => by rw [upd_ne (ne_of_none e hp)]; exact e)) (fun _ h => h) _ _ h2
end
end PL

set_option Elab.async false
set_option linter.all false
set_option maxRecDepth 100000
set_option maxHeartbeats 4000000
namespace PL
open PySem PySem.Spec L2
open PyProof.Rows hiding St

/-! ### data without lists and dicts -/
mutual
def noMut : PV → Bool
  | .tup ds => noMutL ds
  | .lst _ => false
  | .dK _ _ => false
  | .dT _ _ => false
  | _ => true
def noMutL : List PV → Bool
  | [] => true
  | d :: ds => noMut d && noMutL ds
end
section
variable {K : PySem.W.Frag} {Fz Fz' : FZ} {H : Hp}
mutual
theorem noMut_den : ∀ (d : PV) (v : V), noMut d = true → Den K Fz H d v → Den K Fz' H d v
  | .non, v, _, h => by simpa only [Den] using h
  | .bl b, v, _, h => by simpa only [Den] using h
  | .int i, v, _, h => by simpa only [Den] using h
  | .str x, v, _, h => by simpa only [Den] using h
  | .ty n, v, _, h => by simpa only [Den] using h
  | .tup ds, v, n, h => by
    simp only [noMut] at n
    simp only [Den] at h ⊢
    obtain ⟨a, xs, e, h1, h2⟩ := h
    exact ⟨a, xs, e, h1, noMutL_den ds xs n h2⟩
  | .lst ds, v, n, h => by simp only [noMut] at n; exact absurd n (by decide)
  | .dK ks ds, v, n, h => by simp only [noMut] at n; exact absurd n (by decide)
  | .dT ks ds, v, n, h => by simp only [noMut] at n; exact absurd n (by decide)
theorem noMutL_den : ∀ (ds : List PV) (xs : List V), noMutL ds = true → DenL K Fz H ds xs → DenL K Fz' H ds xs
  | [], xs, _, h => by simpa only [DenL] using h
  | d :: ds, xs, n, h => by
    simp only [noMutL, Bool.and_eq_true] at n
    simp only [DenL] at h ⊢
    obtain ⟨v, r, e, h1, h2⟩ := h
    exact ⟨v, r, e, noMut_den d v n.1 h1, noMutL_den ds r n.2 h2⟩
end
end
/-- a result that holds nothing that can be changed, but itself, where it is new -/
def noMutR : PV → Kd → Bool
  | .lst ds, .new => noMutL ds
  | .dK _ ds, .new => noMutL ds
  | .dT _ ds, .new => noMutL ds
  | d, _ => noMut d
theorem noMutR_opd {K : PySem.W.Frag} {Fz Fz' : FZ} {H H' : Hp} {d : PV} {k : Kd} {v : V} (n : noMutR d k = true) (hal : ∀ b, Fz' b → H b ≠ none) (h : Opd K Fz H' [] [] H d k v) : Opd K Fz' H' [] [] H d k v := by
  cases k with
  | frz =>
    have n' : noMut d = true := by cases d <;> exact n
    exact noMut_den d v n' h
  | own i => exact h
  | new =>
    obtain ⟨a, e, hn, _, o⟩ := h
    refine ⟨a, e, hn, fun z => hal a z hn, ?_⟩
    cases d with
    | lst ds => obtain ⟨xs, h1, h2⟩ := o; exact ⟨xs, h1, noMutL_den ds xs n h2⟩
    | dK ks ds => obtain ⟨xs, h1, h2, h3⟩ := o; exact ⟨xs, h1, h2, noMutL_den ds xs n h3⟩
    | dT ks ds => obtain ⟨xs, h1, h2, h3⟩ := o; exact ⟨xs, h1, h2, noMutL_den ds xs n h3⟩
    | non => exact o.elim
    | bl b => exact o.elim
    | int i => exact o.elim
    | str x => exact o.elim
    | ty n => exact o.elim
    | tup ds => exact o.elim

/-! ### a def's pure promise, its call -/
abbrev PF := List PV → (PV → Kd → Prop) → Prop
def MonoF (F : PF) : Prop := ∀ ds Q Q', (∀ d k, Q d k → Q' d k) → F ds Q → F ds Q'
def spP (K : PySem.W.Frag) (F : PF) : Sp := fun vs H Q _ => ∃ Fz ds, (∀ b, Fz b → H b ≠ none) ∧ DenL K Fz H ds vs ∧ F ds fun d k => ∀ v Fz' H', Post K [] [] Fz H Fz' H' d k v → Q v H'
/-- every operand is frozen, for a call -/
theorem OpdL.all {K : PySem.W.Frag} {ρ : PEnv} {σ : St} {Fz Fz' : FZ} {H H' : Hp} (R : Rel K Fz ρ σ H) (x : Ext Fz H Fz' H') : ∀ {ops : List (PV × Kd)} {vs : List V}, OpdL K Fz' H' ρ σ H ops vs →
    ∃ Fz2, (∀ b, Fz' b → Fz2 b) ∧ (∀ b, Fz2 b → H' b ≠ none) ∧ DenL K Fz2 H' (ops.map (·.1)) vs
  | _, _, .nil => ⟨Fz', fun _ h => h, x.al, DenL.nil⟩
  | (d, k) :: ops, v :: vs, .cons h t => by
    obtain ⟨F2, s2, a2, h2⟩ := OpdL.all R x t
    have addr : ∀ a, v = .ref a → Own K Fz' H' d a → ∃ Fz2, (∀ b, Fz' b → Fz2 b) ∧ (∀ b, Fz2 b → H' b ≠ none) ∧ DenL K Fz2 H' ((d, k) :: ops |>.map (·.1)) (v :: vs) := fun a e o => by
      subst e
      refine ⟨fun b => F2 b ∨ b = a, fun b h => .inl (s2 b h), fun b hb => ?_, DenL.cons ?_ (DenL.mono (Keep.of (Same.refl _)) (fun b h => .inl h) _ _ h2)⟩
      · rcases hb with hb | rfl
        · exact a2 b hb
        · obtain ⟨o', e, _⟩ := o.at
          rw [e]; exact fun z => nomatch z
      · exact (o.mono (Fz' := fun b => F2 b ∨ b = a) (Keep.of (Same.refl _)) (fun b h => .inl (s2 b h)) (fun _ h => h)).den (.inr rfl)
    cases k with
    | frz => exact ⟨F2, s2, a2, DenL.cons (Den.mono (Keep.of (Same.refl _)) s2 _ _ h) h2⟩
    | new => obtain ⟨a, e, _, _, o⟩ := h; exact addr a e o
    | own i =>
      obtain ⟨h1, h2'⟩ := h
      obtain ⟨a, e, _, o⟩ := (R.ext x).own i d h1
      rw [h2'] at e; cases e
      exact addr a rfl o
def tCallP (F : PF) (t : TPA) : TPE := fun ρ Q => t ρ fun ops => F (ops.map (·.1)) fun d k => (noOwn ops = true ∨ noMutR d k = true) ∧ Q d k
section
variable {X : Cx} {k : Nat} {f : Addr} {fd : FuncData} {ps : List Str} {F : PF} {x : Str} {p pos : Pos} {e : Expr} {es : List Expr} {t : TPA}
theorem call_run {σ : St} {H : Hp} {Q : VK} (ha : PuA X es t) (m : MonoF F) (h : lift X.K (tCallP F t) σ H Q) : tCall (spP X.K F) [] E0 (liftA X.K t) σ H Q := by
  obtain ⟨ρ, Fz, R, h⟩ := h
  refine ⟨ρ, Fz, R, ha.mono ρ _ _ (fun ops h vs Fz' H' x o => ?_) h⟩
  show spP X.K F (vs ++ []) H' Q E0
  rw [List.append_nil]
  by_cases hn : noOwn ops = true
  · obtain ⟨F2, x2, s2, h2⟩ := o.frozen x hn
    refine ⟨F2, ops.map (·.1), x2.al, h2, m _ _ _ (fun d k q v Fz3 H3 p3 => ?_) h⟩
    exact q.2 v Fz3 H3 (p3.behind x2)
  · obtain ⟨F2, s2, a2, h2⟩ := o.all R x
    refine ⟨F2, ops.map (·.1), a2, h2, m _ _ _ (fun d k q v Fz3 H3 p3 => ?_) h⟩
    have nm : noMutR d k = true := q.1.resolve_left hn
    have al : ∀ b, Fz' b → H3 b ≠ none := fun b hb z => x.al b hb (p3.ext.same.free z)
    refine q.2 v Fz' H3 ⟨⟨x.same.trans p3.ext.same, x.sub, x.new, al⟩, ?_⟩
    exact ((noMutR_opd nm x.al p3.opd).up).back x.same
theorem pu_call (G : FnOk X.prog X.w X.K X.mg X.base CX0 k f fd ps (spP X.K F)) (m : MonoF F) (hr : Room k X.A) (hg : Gl X x) (hm : X.mg x = some (.ref f)) (hk : PySem.W.keepIn X.K (.ref f) = true) (hb : Binds X.K fd ps []) (ha : PuA X (e :: es) t)
    (hd : (x == ("__debug__" : Str)) = false := by decide) (he : starEach (e :: es) X.env = (false, eval e X.env) :: starEach es X.env := by rfl) (hpl : (backTo pos (starEach es X.env)).any (·.1) = false := by rfl) :
    PuE X (.Call (.Name x p) (e :: es) [] pos) (tCallP F t) where
  mono ρ Q Q' mm h := ha.mono ρ _ _ (fun ops h => m _ _ _ (fun d k q => ⟨q.1, mm _ _ q.2⟩) h) h
  run := PE.weak (pe_call G hr hg hm hk hb .nil pass0 ha.run hd he hpl) fun σ H Q h => call_run ha m h
end

/-! ### built-in calls, methods -/
structure PCall (K : PySem.W.Frag) (r : List V → Hp → VK → Prop) (p : PF) : Prop where
  mono : MonoF p
  run : ∀ Fz H ds vs Q, (∀ b, Fz b → H b ≠ none) → RootL K Fz H ds vs → p ds (fun z k => ∀ v Fz' H', Post K [] [] Fz H Fz' H' z k v → Q v H') → r vs H Q
def tB (p : PF) (t : TPA) : TPE := fun ρ Q => t ρ fun ops => p (ops.map (·.1)) Q
section
variable {X : Cx} {x : Str} {p pos : Pos} {e : Expr} {es : List Expr} {t : TPA} {id T : String} {r : List V → Hp → VK → Prop} {pf : PF}
theorem b_run {σ : St} {H : Hp} {Q : VK} (ha : PuA X es t) (m : PCall X.K r pf) (h : lift X.K (tB pf t) σ H Q) : tCB r (liftA X.K t) σ H Q := by
  obtain ⟨ρ, Fz, R, h⟩ := h
  refine ⟨ρ, Fz, R, ha.mono ρ _ _ (fun ops h vs Fz' H' x o => ?_) h⟩
  exact m.run Fz' H' _ vs Q x.al (o.root R x) (m.mono _ _ _ (fun d k q v Fz3 H3 p3 => q v Fz3 H3 (p3.behind x)) h)
theorem pu_callB (hc : CallR X (.builtin id) r) (m : PCall X.K r pf) (hg : Gl X x) (hm : X.mg x = none) (hv : bootBuiltins x = some (.builtin id)) (ha : PuA X (e :: es) t) (hn : x ≠ "__name__" := by decide) (hdb : (x == ("__debug__" : Str)) = false := by decide)
    (he : starEach (e :: es) X.env = (false, eval e X.env) :: starEach es X.env := by rfl) (hpl : (backTo pos (starEach es X.env)).any (·.1) = false := by rfl) : PuE X (.Call (.Name x p) (e :: es) [] pos) (tB pf t) where
  mono ρ Q Q' mm h := ha.mono ρ _ _ (fun ops h => m.mono _ _ _ mm h) h
  run := PE.weak (pe_callB hc hg hm hv ha.run hn hdb he hpl) fun σ H Q h => b_run ha m h
theorem pu_callTy (hc : CallR X (.type T) r) (m : PCall X.K r pf) (hg : Gl X x) (hm : X.mg x = none) (hv : bootBuiltins x = some (.type T)) (ha : PuA X (e :: es) t) (hn : x ≠ "__name__" := by decide) (hdb : (x == ("__debug__" : Str)) = false := by decide)
    (he : starEach (e :: es) X.env = (false, eval e X.env) :: starEach es X.env := by rfl) (hpl : (backTo pos (starEach es X.env)).any (·.1) = false := by rfl) : PuE X (.Call (.Name x p) (e :: es) [] pos) (tB pf t) where
  mono ρ Q Q' mm h := ha.mono ρ _ _ (fun ops h => m.mono _ _ _ mm h) h
  run := PE.weak (pe_callTy hc hg hm hv ha.run hn hdb he hpl) fun σ H Q h => b_run ha m h
end
end PL

set_option Elab.async false
set_option linter.all false
set_option maxRecDepth 100000
set_option maxHeartbeats 4000000
namespace PL
open PySem PySem.Spec L2
open PyProof.Rows hiding St

/-! ### statements -/
structure POut where
  nx : PEnv → Prop
  rt : PV → Kd → Prop
  bk : PEnv → Prop
  ct : PEnv → Prop
structure POut.le (O O' : POut) : Prop where
  nx : ∀ ρ, O.nx ρ → O'.nx ρ
  rt : ∀ d k, O.rt d k → O'.rt d k
  bk : ∀ ρ, O.bk ρ → O'.bk ρ
  ct : ∀ ρ, O.ct ρ → O'.ct ρ
abbrev TPS := PEnv → POut → Prop
/-- a block that is not looked into yet -/
def Hold (t : TPS) (O : POut) (ρ : PEnv) : Prop := t ρ O
def HoldT (c : TPT) (ρ : PEnv) (Q : Bool → Prop) : Prop := c ρ Q
theorem holdT {c : TPT} {ρ : PEnv} {Q : Bool → Prop} (h : c ρ Q) : HoldT c ρ Q := h
theorem hold {t : TPS} {O : POut} {ρ : PEnv} (h : t ρ O) : Hold t O ρ := h
/-- what may change: what is a name's own -/
structure Step (ρ : PEnv) (σ : St) (Fz : FZ) (H : Hp) (Fz' : FZ) (H' : Hp) : Prop where
  sub : ∀ b, Fz b → Fz' b
  new : ∀ b, Fz' b → Fz b ∨ H b = none ∨ Owned ρ σ b
  keep : ∀ b o, H b = some o → ¬ Owned ρ σ b → H' b = some o
def OwnIn (ρ : PEnv) (σ : St) (H : Hp) (ρ' : PEnv) (σ' : St) : Prop := ∀ b, Owned ρ' σ' b → Owned ρ σ b ∨ H b = none
theorem Step.of {ρ : PEnv} {σ : St} {Fz Fz' : FZ} {H H' : Hp} (x : Ext Fz H Fz' H') : Step ρ σ Fz H Fz' H' :=
  ⟨x.sub, fun b h => (x.new b h).elim .inl (fun h => .inr (.inl h)), fun b o e _ => x.same b o e⟩
theorem Step.none {ρ : PEnv} {σ : St} {Fz Fz' : FZ} {H H' : Hp} (s : Step ρ σ Fz H Fz' H') {b : Addr} (h : H' b = Option.none) : H b = Option.none ∨ Owned ρ σ b := by
  by_cases o : Owned ρ σ b
  · exact .inr o
  · cases e : H b with
    | none => exact .inl rfl
    | some u => rw [s.keep b u e o] at h; cases h
theorem Step.trans {ρ ρ' : PEnv} {σ σ' : St} {F1 F2 F3 : FZ} {H1 H2 H3 : Hp} (a : Step ρ σ F1 H1 F2 H2) (oi : OwnIn ρ σ H1 ρ' σ') (b : Step ρ' σ' F2 H2 F3 H3) : Step ρ σ F1 H1 F3 H3 :=
  ⟨fun c h => b.sub c (a.sub c h), fun c h => by
    rcases b.new c h with h | h | h
    · exact a.new c h
    · exact .inr (a.none h)
    · exact .inr ((oi c h).symm), fun c o e n => by
    refine b.keep c o (a.keep c o e n) fun z => ?_
    rcases oi c z with z | z
    · exact n z
    · rw [e] at z; cases z⟩
theorem OwnIn.trans {ρ ρ' ρ'' : PEnv} {σ σ' σ'' : St} {F1 F2 : FZ} {H1 H2 : Hp} (a : Step ρ σ F1 H1 F2 H2) (oi : OwnIn ρ σ H1 ρ' σ') (oj : OwnIn ρ' σ' H2 ρ'' σ'') : OwnIn ρ σ H1 ρ'' σ'' := fun c h => by
  rcases oj c h with h | h
  · exact oi c h
  · exact (a.none h).symm
theorem OwnIn.refl (ρ : PEnv) (σ : St) (H : Hp) : OwnIn ρ σ H ρ σ := fun _ h => .inl h
/-- the value that is given back -/
def Ret (K : PySem.W.Frag) (ρ : PEnv) (σ : St) (H : Hp) (Fz' : FZ) (H' : Hp) (d : PV) : Kd → V → Prop
  | .frz, v => Den K Fz' H' d v
  | .new, v => ∃ a, v = .ref a ∧ ¬ Fz' a ∧ Own K Fz' H' d a ∧ (Owned ρ σ a ∨ H a = none)
  | .own _, _ => False
def outOf (K : PySem.W.Frag) (D : Ends) (ρ : PEnv) (σ : St) (Fz : FZ) (H : Hp) : POut where
  nx := fun ρ' => ∀ σ' Fz' H', Step ρ σ Fz H Fz' H' → OwnIn ρ σ H ρ' σ' → Rel K Fz' ρ' σ' H' → D.nx σ' H'
  bk := fun ρ' => ∀ σ' Fz' H', Step ρ σ Fz H Fz' H' → OwnIn ρ σ H ρ' σ' → Rel K Fz' ρ' σ' H' → D.bk σ' H'
  ct := fun ρ' => ∀ σ' Fz' H', Step ρ σ Fz H Fz' H' → OwnIn ρ σ H ρ' σ' → Rel K Fz' ρ' σ' H' → D.ct σ' H'
  rt := fun d k => ∀ v Fz' H', Step ρ σ Fz H Fz' H' → (∀ b, Fz' b → H' b ≠ none) → Ret K ρ σ H Fz' H' d k v → D.rt v H'
def liftS (K : PySem.W.Frag) (t : TPS) : TS := fun D σ H => ∃ ρ Fz, Rel K Fz ρ σ H ∧ t ρ (outOf K D ρ σ Fz H)
structure PuS (X : Cx) (st : Stmt) (t : TPS) : Prop where
  mono : ∀ ρ O O', O.le O' → t ρ O → t ρ O'
  run : PS X st (liftS X.K t)
structure PuSs (X : Cx) (st : List Stmt) (t : TPS) : Prop where
  mono : ∀ ρ O O', O.le O' → t ρ O → t ρ O'
  run : PSs X st (liftS X.K t)
theorem PS.weak {X : Cx} {e : Stmt} {t t' : TS} (h : PS X e t) (w : ∀ D σ H, t' D σ H → t D σ H) : PS X e t' := fun pins s σ H D I q => h pins s σ H D I (w D σ H q)
theorem PSs.weak {X : Cx} {e : List Stmt} {t t' : TS} (h : PSs X e t) (w : ∀ D σ H, t' D σ H → t D σ H) : PSs X e t' := fun pins s σ H D I q => h pins s σ H D I (w D σ H q)
/-- what is wanted, from a later state -/
theorem outOf_le {K : PySem.W.Frag} {D D' : Ends} {ρ ρ' : PEnv} {σ σ' : St} {Fz Fz' : FZ} {H H' : Hp} (s : Step ρ σ Fz H Fz' H') (oi : OwnIn ρ σ H ρ' σ') (h1 : ∀ σ H, D.nx σ H → D'.nx σ H) (h2 : ∀ v H, D.rt v H → D'.rt v H) (h3 : ∀ σ H, D.bk σ H → D'.bk σ H) (h4 : ∀ σ H, D.ct σ H → D'.ct σ H) :
    (outOf K D ρ σ Fz H).le (outOf K D' ρ' σ' Fz' H') where
  nx ρ2 q σ2 F2 H2 s2 o2 R2 := h1 _ _ (q σ2 F2 H2 (s.trans oi s2) (OwnIn.trans s oi o2) R2)
  bk ρ2 q σ2 F2 H2 s2 o2 R2 := h3 _ _ (q σ2 F2 H2 (s.trans oi s2) (OwnIn.trans s oi o2) R2)
  ct ρ2 q σ2 F2 H2 s2 o2 R2 := h4 _ _ (q σ2 F2 H2 (s.trans oi s2) (OwnIn.trans s oi o2) R2)
  rt d k q v F2 H2 s2 al r := h2 _ _ (q v F2 H2 (s.trans oi s2) al (by
    cases k with
    | frz => exact r
    | own i => exact r
    | new =>
      obtain ⟨a, e, nf, o, w⟩ := r
      refine ⟨a, e, nf, o, ?_⟩
      rcases w with w | w
      · exact oi a w
      · exact (s.none w).symm))
theorem outOf_le' {K : PySem.W.Frag} {D : Ends} {ρ ρ' : PEnv} {σ σ' : St} {Fz Fz' : FZ} {H H' : Hp} (s : Step ρ σ Fz H Fz' H') (oi : OwnIn ρ σ H ρ' σ') : (outOf K D ρ σ Fz H).le (outOf K D ρ' σ' Fz' H') :=
  outOf_le s oi (fun _ _ h => h) (fun _ _ h => h) (fun _ _ h => h) (fun _ _ h => h)

section
variable {X : Cx} {st : Stmt} {rest : List Stmt} {t u : TPS} {e : Expr} {te : TPE} {pos : Pos}
def pNext : TPS := fun ρ O => O.nx ρ
def pSeq (t u : TPS) : TPS := fun ρ O => t ρ { O with nx := Hold u O }
theorem puss_nil : PuSs X [] pNext where
  mono ρ O O' m h := m.nx _ h
  run := PSs.weak pss_nil fun D σ H h => by
    obtain ⟨ρ, Fz, R, h⟩ := h
    exact h σ Fz H (.of ⟨Same.refl H, fun _ h => h, fun _ h => .inl h, R.al⟩) (OwnIn.refl ρ σ H) R
theorem puss_one (h1 : PuS X st t) : PuSs X [st] t := ⟨h1.mono, pss_one h1.run⟩
theorem puss_cons (h1 : PuS X st t) (h2 : PuSs X rest u) : PuSs X (st :: rest) (pSeq t u) where
  mono ρ O O' m h := h1.mono ρ { O with nx := fun ρ' => u ρ' O } _ ⟨fun ρ' q => h2.mono ρ' _ _ m q, m.rt, m.bk, m.ct⟩ h
  run := PSs.weak (pss_cons h1.run h2.run) fun D σ H h => by
    obtain ⟨ρ, Fz, R, h⟩ := h
    refine ⟨ρ, Fz, R, h1.mono ρ { outOf X.K D ρ σ Fz H with nx := fun ρ' => u ρ' (outOf X.K D ρ σ Fz H) } _ ⟨fun ρ' q => ?_, fun _ _ q => q, fun _ q => q, fun _ q => q⟩ h⟩
    intro σ' Fz' H' s oi R'
    exact ⟨ρ', Fz', R', h2.mono ρ' _ _ (outOf_le' s oi) q⟩
theorem pus_pass : PuS X (.Pass pos) pNext where
  mono ρ O O' m h := m.nx _ h
  run := PS.weak ps_pass fun D σ H h => by
    obtain ⟨ρ, Fz, R, h⟩ := h
    exact h σ Fz H (.of ⟨Same.refl H, fun _ h => h, fun _ h => .inl h, R.al⟩) (OwnIn.refl ρ σ H) R
def pBreak : TPS := fun ρ O => O.bk ρ
def pCont : TPS := fun ρ O => O.ct ρ
theorem pus_break : PuS X (.Break pos) pBreak where
  mono ρ O O' m h := m.bk _ h
  run := PS.weak ps_break fun D σ H h => by
    obtain ⟨ρ, Fz, R, h⟩ := h
    exact h σ Fz H (.of ⟨Same.refl H, fun _ h => h, fun _ h => .inl h, R.al⟩) (OwnIn.refl ρ σ H) R
theorem pus_continue : PuS X (.Continue pos) pCont where
  mono ρ O O' m h := m.ct _ h
  run := PS.weak ps_continue fun D σ H h => by
    obtain ⟨ρ, Fz, R, h⟩ := h
    exact h σ Fz H (.of ⟨Same.refl H, fun _ h => h, fun _ h => .inl h, R.al⟩) (OwnIn.refl ρ σ H) R
/-- an expression, its value dropped -/
def pDrop (te : TPE) : TPS := fun ρ O => te ρ fun _ _ => O.nx ρ
theorem pus_expr (he : PuE X e te) (hs : swapsWith e none pos.line X.env = pure false := by rfl) : PuS X (.Expr e pos) (pDrop te) where
  mono ρ O O' m h := he.mono ρ _ _ (fun _ _ q => m.nx _ q) h
  run := PS.weak (ps_expr he.run hs) fun D σ H h => by
    obtain ⟨ρ, Fz, R, h⟩ := h
    exact ⟨ρ, Fz, R, he.mono ρ _ _ (fun d k q v Fz' H' p => q σ Fz' H' (.of p.ext) (OwnIn.refl ρ σ H) (R.ext p.ext)) h⟩
/-- return e: what is a name's own goes out as new -/
def pRet (te : TPE) : TPS := fun ρ O => te ρ fun d k => O.rt d (match k with | .frz => .frz | _ => .new)
theorem pus_ret (he : PuE X e te) : PuS X (.Return (some e) pos) (pRet te) where
  mono ρ O O' m h := he.mono ρ _ _ (fun _ _ q => m.rt _ _ q) h
  run := PS.weak (ps_ret he.run) fun D σ H h => by
    obtain ⟨ρ, Fz, R, h⟩ := h
    refine ⟨ρ, Fz, R, he.mono ρ _ _ (fun d k q v Fz' H' p => q v Fz' H' (.of p.ext) p.ext.al ?_) h⟩
    cases k with
    | frz => exact p.opd
    | new => obtain ⟨a, e, hn, nf, o⟩ := p.opd; exact ⟨a, e, nf, o, .inr hn⟩
    | own i =>
      obtain ⟨h1, h2⟩ := p.opd
      obtain ⟨a, e, nf, o⟩ := (R.ext p.ext).own i d h1
      rw [h2] at e; cases e
      exact ⟨a, rfl, nf, o, .inl ⟨i, d, h1, h2⟩⟩
def pRetN : TPS := fun ρ O => O.rt .non .frz
theorem pus_retN : PuS X (.Return none pos) pRetN where
  mono ρ O O' m h := m.rt _ _ h
  run := PS.weak ps_retN fun D σ H h => by
    obtain ⟨ρ, Fz, R, h⟩ := h
    exact h .non Fz H (.of ⟨Same.refl H, fun _ h => h, fun _ h => .inl h, R.al⟩) R.al (by show Den _ _ _ _ _; simp only [Den])
def pIf (c : TPT) (t u : TPS) : TPS := fun ρ O => c ρ fun b => if b = true then Hold t O ρ else Hold u O ρ
theorem pus_if {c : Expr} {a b : List Stmt} {tc : TPT} (hc : PuT X c tc) (ha : PuSs X a t) (hb : PuSs X b u) : PuS X (.If c a b pos) (pIf tc t u) where
  mono ρ O O' m h := hc.mono ρ _ _ (fun d q => by
    cases d with
    | true => rw [if_pos rfl] at q ⊢; exact ha.mono ρ _ _ m q
    | false => rw [if_neg Bool.false_ne_true] at q ⊢; exact hb.mono ρ _ _ m q) h
  run := PS.weak (ps_if hc.run ha.run hb.run) fun D σ H h => by
    obtain ⟨ρ, Fz, R, h⟩ := h
    refine ⟨ρ, Fz, R, hc.mono ρ _ _ (fun d q Fz' H' x => ?_) h⟩
    cases d with
    | true =>
      rw [if_pos rfl] at q ⊢
      exact ⟨ρ, Fz', R.ext x, ha.mono ρ _ _ (outOf_le' (.of x) (OwnIn.refl ρ σ H)) q⟩
    | false =>
      rw [if_neg Bool.false_ne_true] at q ⊢
      exact ⟨ρ, Fz', R.ext x, hb.mono ρ _ _ (outOf_le' (.of x) (OwnIn.refl ρ σ H)) q⟩
/-- a name's own thing is frozen, ahead of a statement -/
def frzAt (i : Nat) (ρ : PEnv) : PEnv := match ρ[i]? with
  | some (some (d, true)) => ρ.set i (some (d, false))
  | _ => ρ
def pFrz (i : Nat) (t : TPS) : TPS := fun ρ O => t (frzAt i ρ) O
end
section
variable {K : PySem.W.Frag} {Fz : FZ} {ρ : PEnv} {σ : St} {H : Hp}
/-- a name gets a frozen value -/
theorem Rel.set {i : Nat} {d : PV} {v : V} (R : Rel K Fz ρ σ H) (h : Den K Fz H d v) : Rel K Fz (ρ.set i (some (d, false))) (σ.set i (some v)) H where
  al := R.al
  len := by rw [List.length_set, List.length_set]; exact R.len
  frz j e he := by
    by_cases hij : i = j
    · subst hij
      by_cases hi : i < ρ.length
      · rw [List.getElem?_set_self hi] at he
        cases he
        exact ⟨v, by rw [List.getElem?_set_self (by rw [← R.len]; exact hi)], h⟩
      · rw [List.set_eq_of_length_le (by omega), List.getElem?_eq_none (by omega)] at he; cases he
    · rw [List.getElem?_set_ne hij] at he ⊢
      exact R.frz j e he
  own j e he := by
    by_cases hij : i = j
    · subst hij
      by_cases hi : i < ρ.length
      · rw [List.getElem?_set_self hi] at he; cases he
      · rw [List.set_eq_of_length_le (by omega), List.getElem?_eq_none (by omega)] at he; cases he
    · rw [List.getElem?_set_ne hij] at he ⊢
      exact R.own j e he
  inj j k d' e a h1 h2 h3 h4 := by
    have nj : i ≠ j := fun z => by
      subst z
      by_cases hi : i < ρ.length
      · rw [List.getElem?_set_self hi] at h1; cases h1
      · rw [List.set_eq_of_length_le (by omega), List.getElem?_eq_none (by omega)] at h1; cases h1
    have nk : i ≠ k := fun z => by
      subst z
      by_cases hi : i < ρ.length
      · rw [List.getElem?_set_self hi] at h2; cases h2
      · rw [List.set_eq_of_length_le (by omega), List.getElem?_eq_none (by omega)] at h2; cases h2
    rw [List.getElem?_set_ne nj] at h1 h3
    rw [List.getElem?_set_ne nk] at h2 h4
    exact R.inj j k d' e a h1 h2 h3 h4
theorem own_set {i : Nat} {d : PV} {v : V} : ∀ b, Owned (ρ.set i (some (d, false))) (σ.set i (some v)) b → Owned ρ σ b := fun b ⟨j, e, h1, h2⟩ => by
  have nj : i ≠ j := fun z => by
    subst z
    by_cases hi : i < ρ.length
    · rw [List.getElem?_set_self hi] at h1; cases h1
    · rw [List.set_eq_of_length_le (by omega), List.getElem?_eq_none (by omega)] at h1; cases h1
  rw [List.getElem?_set_ne nj] at h1 h2
  exact ⟨j, e, h1, h2⟩
/-- a name gets a new thing as its own -/
theorem Rel.setNew {i : Nat} {d : PV} {a : Addr} (R : Rel K Fz ρ σ H) (nf : ¬ Fz a) (h : Own K Fz H d a) (hno : ¬ Owned ρ σ a) : Rel K Fz (ρ.set i (some (d, true))) (σ.set i (some (.ref a))) H where
  al := R.al
  len := by rw [List.length_set, List.length_set]; exact R.len
  frz j e he := by
    by_cases hij : i = j
    · subst hij
      by_cases hi : i < ρ.length
      · rw [List.getElem?_set_self hi] at he; cases he
      · rw [List.set_eq_of_length_le (by omega), List.getElem?_eq_none (by omega)] at he; cases he
    · rw [List.getElem?_set_ne hij] at he ⊢
      exact R.frz j e he
  own j e he := by
    by_cases hij : i = j
    · subst hij
      by_cases hi : i < ρ.length
      · rw [List.getElem?_set_self hi] at he
        cases he
        exact ⟨a, by rw [List.getElem?_set_self (by rw [← R.len]; exact hi)], nf, h⟩
      · rw [List.set_eq_of_length_le (by omega), List.getElem?_eq_none (by omega)] at he; cases he
    · rw [List.getElem?_set_ne hij] at he ⊢
      exact R.own j e he
  inj j k d' e b h1 h2 h3 h4 := by
    by_cases hj : i = j
    · by_cases hk : i = k
      · rw [← hj, ← hk]
      · subst hj
        rw [List.getElem?_set_ne hk] at h2 h4
        by_cases hi : i < σ.length
        · rw [List.getElem?_set_self hi] at h3
          cases h3
          exact absurd ⟨k, e, h2, h4⟩ hno
        · rw [List.set_eq_of_length_le (by omega), List.getElem?_eq_none (by omega)] at h3; cases h3
    · by_cases hk : i = k
      · subst hk
        rw [List.getElem?_set_ne hj] at h1 h3
        by_cases hi : i < σ.length
        · rw [List.getElem?_set_self hi] at h4
          cases h4
          exact absurd ⟨j, d', h1, h3⟩ hno
        · rw [List.set_eq_of_length_le (by omega), List.getElem?_eq_none (by omega)] at h4; cases h4
      · rw [List.getElem?_set_ne hj] at h1 h3
        rw [List.getElem?_set_ne hk] at h2 h4
        exact R.inj j k d' e b h1 h2 h3 h4
theorem own_setNew {i : Nat} {d : PV} {a : Addr} : ∀ b, Owned (ρ.set i (some (d, true))) (σ.set i (some (.ref a))) b → b = a ∨ Owned ρ σ b := fun b ⟨j, e, h1, h2⟩ => by
  by_cases hij : i = j
  · subst hij
    by_cases hi : i < σ.length
    · rw [List.getElem?_set_self hi] at h2; cases h2; exact .inl rfl
    · rw [List.set_eq_of_length_le (by omega), List.getElem?_eq_none (by omega)] at h2; cases h2
  · rw [List.getElem?_set_ne hij] at h1 h2
    exact .inr ⟨j, e, h1, h2⟩
/-- what is a name's own is frozen -/
theorem Rel.frozen {i : Nat} (R : Rel K Fz ρ σ H) : ∃ Fz', Rel K Fz' (frzAt i ρ) σ H ∧ Step ρ σ Fz H Fz' H ∧ OwnIn ρ σ H (frzAt i ρ) σ := by
  unfold frzAt
  split
  · rename_i d he
    obtain ⟨a, e, nf, o⟩ := R.own i d he
    have R2 : Rel K (fun b => Fz b ∨ b = a) (ρ.set i (some (d, false))) (σ.set i (some (.ref a))) H := by
      have hno : ∀ j d', i ≠ j → ρ[j]? = some (some (d', true)) → σ[j]? ≠ some (some (.ref a)) := fun j d' hne h1 h2 => hne (R.inj i j d d' a he h1 e h2)
      have hal : ∀ b, (Fz b ∨ b = a) → H b ≠ none := fun b hb => by
        rcases hb with hb | rfl
        · exact R.al b hb
        · obtain ⟨o', q, _⟩ := o.at
          rw [q]; exact fun z => nomatch z
      refine ⟨hal, by rw [List.length_set, List.length_set]; exact R.len, fun j e' he' => ?_, fun j e' he' => ?_, fun j k d' e' b h1 h2 h3 h4 => ?_⟩
      · by_cases hij : i = j
        · subst hij
          have hi : i < ρ.length := (List.getElem?_eq_some_iff.mp he).1
          rw [List.getElem?_set_self hi] at he'
          cases he'
          exact ⟨_, by rw [List.getElem?_set_self (by rw [← R.len]; exact hi)], (o.mono (Fz' := fun b => Fz b ∨ b = a) (Keep.of (Same.refl _)) (fun _ h => .inl h) (fun _ h => h)).den (.inr rfl)⟩
        · rw [List.getElem?_set_ne hij] at he' ⊢
          obtain ⟨v, q1, q2⟩ := R.frz j e' he'
          exact ⟨v, q1, Den.mono (Keep.of (Same.refl _)) (fun _ h => .inl h) _ _ q2⟩
      · have hij : i ≠ j := fun z => by
          subst z
          have hi : i < ρ.length := (List.getElem?_eq_some_iff.mp he).1
          rw [List.getElem?_set_self hi] at he'; cases he'
        rw [List.getElem?_set_ne hij] at he' ⊢
        obtain ⟨b, q1, q2, q3⟩ := R.own j e' he'
        refine ⟨b, q1, fun z => ?_, q3.mono (Keep.of (Same.refl _)) (fun _ h => .inl h) (fun _ h => h)⟩
        rcases z with z | z
        · exact q2 z
        · subst z; exact hno j e' hij he' q1
      · have hi : i < ρ.length := (List.getElem?_eq_some_iff.mp he).1
        have nj : i ≠ j := fun z => by subst z; rw [List.getElem?_set_self hi] at h1; cases h1
        have nk : i ≠ k := fun z => by subst z; rw [List.getElem?_set_self hi] at h2; cases h2
        rw [List.getElem?_set_ne nj] at h1 h3
        rw [List.getElem?_set_ne nk] at h2 h4
        exact R.inj j k d' e' b h1 h2 h3 h4
    have es : σ.set i (some (.ref a)) = σ := List.ext_getElem? fun j => by
      by_cases hij : i = j
      · subst hij
        rw [List.getElem?_set_self (List.getElem?_eq_some_iff.mp e).1, e]
      · rw [List.getElem?_set_ne hij]
    refine ⟨fun b => Fz b ∨ b = a, by rw [es] at R2; exact R2, ⟨fun _ h => .inl h, fun b hb => ?_, fun b o e _ => e⟩, fun b hb => ?_⟩
    · rcases hb with hb | rfl
      · exact .inl hb
      · exact .inr (.inr ⟨i, d, he, e⟩)
    · have := own_set (ρ := ρ) (σ := σ) (i := i) (d := d) (v := .ref a) b (by rw [es]; exact hb)
      exact .inl this
  · exact ⟨Fz, R, .of ⟨Same.refl H, fun _ h => h, fun _ h => .inl h, R.al⟩, OwnIn.refl ρ σ H⟩
end
section
variable {X : Cx} {st : Stmt} {sts : List Stmt} {t : TPS}
theorem pus_frz (i : Nat) (h : PuS X st t) : PuS X st (pFrz i t) where
  mono ρ O O' m q := h.mono _ _ _ m q
  run := PS.weak h.run fun D σ H q => by
    obtain ⟨ρ, Fz, R, q⟩ := q
    obtain ⟨F2, R2, s2, o2⟩ := R.frozen (i := i)
    exact ⟨_, F2, R2, h.mono _ _ _ (outOf_le' s2 o2) q⟩
end
/-! name = value: a new thing becomes the name's own -/
def pSet (i : Nat) (te : TPE) : TPS := fun ρ O => te ρ fun d k => match k with
  | .frz => O.nx (ρ.set i (some (d, false)))
  | .new => O.nx (ρ.set i (some (d, true)))
  | .own _ => False
theorem set_lift {X : Cx} {e : Expr} {te : TPE} {i : Nat} (he : PuE X e te) {D : Ends} {σ : St} {H : Hp} (h : liftS X.K (pSet i te) D σ H) : tAsg (lift X.K te) (gName i) D σ H := by
  obtain ⟨ρ, Fz, R, h⟩ := h
  refine ⟨ρ, Fz, R, he.mono ρ _ _ (fun d k q v Fz' H' p => ?_) h⟩
  show D.nx (σ.set i (some v)) H'
  have R' := R.ext p.ext
  cases k with
  | frz => exact (show (outOf X.K D ρ σ Fz H).nx (ρ.set i (some (d, false))) from q) _ Fz' H' (.of p.ext) (fun b hb => .inl (own_set b hb)) (R'.set p.opd)
  | own j => exact q.elim
  | new =>
    obtain ⟨a, e, hn, nf, o⟩ := p.opd
    subst e
    have hno : ¬ Owned ρ σ a := fun ⟨j, e, h1, h2⟩ => by
      obtain ⟨b, q1, _, q2⟩ := R.own j e h1
      rw [h2] at q1; cases q1
      obtain ⟨o', q3, _⟩ := q2.at
      rw [hn] at q3; cases q3
    refine (show (outOf X.K D ρ σ Fz H).nx (ρ.set i (some (d, true))) from q) _ Fz' H' (.of p.ext) (fun b hb => ?_) (R'.setNew nf o hno)
    rcases own_setNew b hb with rfl | hb
    · exact .inr hn
    · exact .inl hb
theorem pSet_mono {X : Cx} {e : Expr} {te : TPE} {i : Nat} (he : PuE X e te) : ∀ ρ O O', POut.le O O' → pSet i te ρ O → pSet i te ρ O' := fun ρ O O' m h => he.mono ρ _ _ (fun d k q => by
  cases k with
  | frz => exact m.nx _ q
  | new => exact m.nx _ q
  | own j => exact q) h
section
variable {X : Cx} {e : Expr} {te : TPE} {pos : Pos}
theorem pus_set {i : Nat} {x : Str} {pos' : Pos} (hN : X.N.Nodup) (hi : X.N[i]? = some x) (hx : Loc X.env.scope x) (he : PuE X e te) (hs : swapsWith e (some (.Name x pos')) pos.line X.env = pure false := by rfl) (hf : X.fn x = true ∨ X.env.scope.names.lookup x = some .local := by first | exact .inl rfl | exact .inr rfl | assumption) :
    PuS X (.Assign [.Name x pos'] e pos) (pSet i te) :=
  ⟨pSet_mono he, PS.weak (ps_set hN hi hx he.run hs hf) fun _ _ _ h => set_lift he h⟩
end
end PL

set_option Elab.async false
set_option linter.all false
set_option maxRecDepth 100000
set_option maxHeartbeats 4000000
namespace PL
open PySem PySem.Spec L2
open PyProof.Rows hiding St

/-! ### targets -/
abbrev TPG := PV → PEnv → (PEnv → Prop) → Prop
abbrev TPGs := List PV → PEnv → (PEnv → Prop) → Prop
def liftG (K : PySem.W.Frag) (t : TPG) : TG := fun v σ H Q => ∃ ρ Fz d, Rel K Fz ρ σ H ∧ Den K Fz H d v ∧ t d ρ fun ρ' => ∀ σ', Rel K Fz ρ' σ' H → (∀ b, Owned ρ' σ' b → Owned ρ σ b) → Q σ' H
def liftGs (K : PySem.W.Frag) (t : TPGs) : TGs := fun vs σ H Q => ∃ ρ Fz ds, Rel K Fz ρ σ H ∧ DenL K Fz H ds vs ∧ t ds ρ fun ρ' => ∀ σ', Rel K Fz ρ' σ' H → (∀ b, Owned ρ' σ' b → Owned ρ σ b) → Q σ' H
structure PuG (X : Cx) (tg : Expr) (t : TPG) : Prop where
  mono : ∀ d ρ Q Q', (∀ ρ, Q ρ → Q' ρ) → t d ρ Q → t d ρ Q'
  run : PG X tg (liftG X.K t)
structure PuGs (X : Cx) (tgs : List Expr) (t : TPGs) : Prop where
  mono : ∀ ds ρ Q Q', (∀ ρ, Q ρ → Q' ρ) → t ds ρ Q → t ds ρ Q'
  run : PGs X tgs (liftGs X.K t)
theorem PG.weak {X : Cx} {e : Expr} {t t' : TG} (h : PG X e t) (w : ∀ v σ H Q, t' v σ H Q → t v σ H Q) : PG X e t' := fun pins s σ H v u Q I r q => h pins s σ H v u Q I r (w v σ H Q q)
theorem PGs.weak {X : Cx} {e : List Expr} {t t' : TGs} (h : PGs X e t) (w : ∀ v σ H Q, t' v σ H Q → t v σ H Q) : PGs X e t' := fun pins s σ H v u Q I r q => h pins s σ H v u Q I r (w v σ H Q q)
def gNameP (i : Nat) : TPG := fun d ρ Q => Q (ρ.set i (some (d, false)))
def gNilP : TPGs := fun ds ρ Q => ds = [] ∧ Q ρ
def gConsP (t : TPG) (u : TPGs) : TPGs := fun ds ρ Q => ∃ d r, ds = d :: r ∧ t d ρ fun ρ' => u r ρ' Q
def gTupP (n : Nat) (t : TPGs) : TPG := fun d ρ Q => ∃ ds, d = .tup ds ∧ ds.length = n ∧ t ds ρ Q
section
variable {X : Cx} {pos : Pos}
theorem pug_name {i : Nat} {x : Str} (hN : X.N.Nodup) (hi : X.N[i]? = some x) (hx : Loc X.env.scope x) (hf : X.fn x = true ∨ X.env.scope.names.lookup x = some .local := by first | exact .inl rfl | exact .inr rfl | assumption) : PuG X (.Name x pos) (gNameP i) where
  mono d ρ Q Q' m h := m _ h
  run := PG.weak (pg_name hN hi hx hf) fun v σ H Q h => by
    obtain ⟨ρ, Fz, d, R, hd, h⟩ := h
    exact h _ (R.set hd) (fun b hb => own_set b hb)
theorem pugs_nil : PuGs X [] gNilP where
  mono d ρ Q Q' m h := ⟨h.1, m _ h.2⟩
  run := PGs.weak pgs_nil fun v σ H Q h => by
    obtain ⟨ρ, Fz, ds, R, hd, e, h⟩ := h
    subst e
    simp only [DenL] at hd
    exact ⟨hd, h σ R (fun _ h => h)⟩
theorem pugs_cons {e : Expr} {es : List Expr} {t : TPG} {u : TPGs} (h1 : PuG X e t) (h2 : PuGs X es u)
    (hs : (assignEach (e :: es) X.env).map (·.2) = assign e X.env :: (assignEach es X.env).map (·.2) := by rfl) : PuGs X (e :: es) (gConsP t u) where
  mono ds ρ Q Q' m h := by
    obtain ⟨d, r, e, h⟩ := h
    exact ⟨d, r, e, h1.mono d ρ _ _ (fun ρ' q => h2.mono r ρ' _ _ m q) h⟩
  run := PGs.weak (pgs_cons h1.run h2.run hs) fun vs σ H Q h => by
    obtain ⟨ρ, Fz, ds, R, hd, d, r, e, h⟩ := h
    subst e
    simp only [DenL] at hd
    obtain ⟨v, rs, e, d1, d2⟩ := hd
    subst e
    refine ⟨v, rs, rfl, ρ, Fz, d, R, d1, h1.mono d ρ _ _ (fun ρ' q σ' R' o' => ?_) h⟩
    exact ⟨ρ', Fz, r, R', d2, h2.mono r ρ' _ _ (fun ρ2 q σ2 R2 o2 => q σ2 R2 (fun b hb => o' b (o2 b hb))) q⟩
theorem pug_tup {es : List Expr} {k : Nat} {t : TPGs} {n : Nat} (hc : X.calm = true) (h : PuGs X es t)
    (hn : (assignEach es X.env).length = n := by rfl) (hst : (assignEach es X.env).findIdx? (·.1) = none := by rfl) : PuG X (.Tuple es k pos) (gTupP n t) where
  mono d ρ Q Q' m q := by
    obtain ⟨ds, e, l, q⟩ := q
    exact ⟨ds, e, l, h.mono ds ρ _ _ m q⟩
  run := PG.weak (pg_tup hc h.run hn hst) fun v σ H Q q => by
    obtain ⟨ρ, Fz, d, R, hd, ds, e, l, q⟩ := q
    subst e
    simp only [Den] at hd
    obtain ⟨a, xs, e, h1, h2⟩ := hd
    have hl := h2.length
    exact ⟨a, xs, e, h1, by omega, ρ, Fz, ds, R, h2, q⟩
end
/-- only the first k names change -/
def LocG (k : Nat) (t : TPG) : Prop := ∀ d ρ Q, t d ρ Q → t d ρ fun ρ' => Q ρ' ∧ ρ'.length = ρ.length ∧ ∀ j, k ≤ j → ρ'[j]? = ρ[j]?
def LocGs (k : Nat) (t : TPGs) : Prop := ∀ d ρ Q, t d ρ Q → t d ρ fun ρ' => Q ρ' ∧ ρ'.length = ρ.length ∧ ∀ j, k ≤ j → ρ'[j]? = ρ[j]?
theorem loc_name {k i : Nat} (h : i < k) : LocG k (gNameP i) := fun d ρ Q q => ⟨q, by rw [List.length_set], fun j hj => by rw [List.getElem?_set_ne (by omega)]⟩
theorem loc_nil {k : Nat} : LocGs k gNilP := fun d ρ Q q => ⟨q.1, q.2, rfl, fun _ _ => rfl⟩
theorem loc_cons {X : Cx} {e : Expr} {es : List Expr} {k : Nat} {t : TPG} {u : TPGs} (p1 : ∀ d ρ Q Q', (∀ ρ, Q ρ → Q' ρ) → t d ρ Q → t d ρ Q') (p2 : ∀ d ρ Q Q', (∀ ρ, Q ρ → Q' ρ) → u d ρ Q → u d ρ Q') (h1 : LocG k t) (h2 : LocGs k u) : LocGs k (gConsP t u) := fun ds ρ Q q => by
  obtain ⟨d, r, e, q⟩ := q
  refine ⟨d, r, e, p1 d ρ _ _ (fun ρ' ⟨q, l, a⟩ => ?_) (h1 d ρ _ q)⟩
  refine p2 r ρ' _ _ (fun ρ2 ⟨q, l2, a2⟩ => ⟨q, by omega, fun j hj => by rw [a2 j hj, a j hj]⟩) (h2 r ρ' _ q)
theorem loc_tup {k n : Nat} {t : TPGs} (h : LocGs k t) : LocG k (gTupP n t) := fun d ρ Q q => by
  obtain ⟨ds, e, l, q⟩ := q
  exact ⟨ds, e, l, h ds ρ _ q⟩
/-! target = value, of a tuple of names -/
def pUnp (te : TPE) (g : TPG) : TPS := fun ρ O => te ρ fun d k => k = .frz ∧ g d ρ fun ρ' => O.nx ρ'
theorem pus_unp {X : Cx} {tg e : Expr} {te : TPE} {g : TPG} {pos : Pos} (he : PuE X e te) (hg : PuG X tg g) (hs : swapsWithSole [tg] e pos.line X.env = pure false := by rfl) (hw : swappedStores [tg] e X.env = pure none := by rfl)
    (h1 : (assignEach [tg] X.env).map (·.2) = [assign tg X.env] := by rfl) : PuS X (.Assign [tg] e pos) (pUnp te g) where
  mono ρ O O' m h := he.mono ρ _ _ (fun d k q => ⟨q.1, hg.mono d ρ _ _ (fun ρ' q => m.nx _ q) q.2⟩) h
  run := PS.weak (ps_asg he.run hg.run hs hw h1) fun D σ H h => by
    obtain ⟨ρ, Fz, R, h⟩ := h
    refine ⟨ρ, Fz, R, he.mono ρ _ _ (fun d k q v Fz' H' p => ?_) h⟩
    obtain ⟨rfl, q⟩ := q
    exact ⟨ρ, Fz', d, R.ext p.ext, p.opd, hg.mono d ρ _ _ (fun ρ' q σ' R' o' => q σ' Fz' H' (.of p.ext) (fun b hb => .inl (o' b hb)) R') q⟩

/-! ### what is walked -/
abbrev TPI := PEnv → (List PV → Bool → Prop) → Prop
/-- the items, as long as what is frozen (or: all) stays -/
def Walk (K : PySem.W.Frag) (Fz : FZ) (o : Bool) (J : It) (its : List PV) (H : Hp) : Prop := ∀ H2, (Same H H2 ∨ (o = false ∧ Keep Fz H H2)) → ∀ i : Nat,
  (∀ d, its[i]? = some d → J.go i H2 ∧ ∀ x H3, J.yld i H2 x H3 → Same H2 H3 ∧ Den K Fz H3 d x) ∧ (its.length ≤ i → J.stop i H2)
def liftI (K : PySem.W.Frag) (t : TPI) : TI := fun σ H R => ∃ ρ Fz, Rel K Fz ρ σ H ∧ t ρ fun its o => ∀ J Fz' H', Ext Fz H Fz' H' → Walk K Fz' o J its H' → R J H'
structure PuI (X : Cx) (tg iter : Expr) (t : TPI) : Prop where
  mono : ∀ ρ Q Q', (∀ its o, Q its o → Q' its o) → t ρ Q → t ρ Q'
  run : PI X tg iter (liftI X.K t)
theorem PI.weak {X : Cx} {tg e : Expr} {t t' : TI} (h : PI X tg e t) (w : ∀ σ H Q, t' σ H Q → t σ H Q) : PI X tg e t' := fun pins s σ H Q I q => h pins s σ H Q I (w σ H Q q)
def isOwn : Kd → Bool
  | .own _ => true
  | _ => false
def iSeq (te : TPE) : TPI := fun ρ Q => te ρ fun d k => ∃ ds, (d = .lst ds ∨ d = .tup ds) ∧ Q ds (isOwn k)
def iLst (te : TPE) : TPI := fun ρ Q => te ρ fun d k => ∃ ds, d = .lst ds ∧ Q ds (isOwn k)
def iTupl (te : TPE) : TPI := fun ρ Q => te ρ fun d k => ∃ ds, d = .tup ds ∧ Q ds false
section
variable {X : Cx} {tg e : Expr} {te : TPE}
theorem pui_list (he : PuE X e te) : PuI X tg e (iLst te) where
  mono ρ Q Q' m h := he.mono ρ _ _ (fun d k ⟨ds, e, q⟩ => ⟨ds, e, m _ _ q⟩) h
  run := PI.weak (pi_list he.run) fun σ H Rr h => by
    obtain ⟨ρ, Fz, R, h⟩ := h
    refine ⟨ρ, Fz, R, he.mono ρ _ _ (fun d k q v Fz' H' p => ?_) h⟩
    obtain ⟨ds, e, q⟩ := q
    subst e
    have rt := p.root R
    obtain ⟨a, xs, rfl, h1, h2⟩ := root_lst rt
    refine ⟨a, rfl, ⟨xs, h1⟩, ?_⟩
    -- the walk, once the list is known to stay
    have walk : ∀ (F2 : FZ) (o : Bool), (∀ b, Fz' b → F2 b) → (∀ H2, (Same H' H2 ∨ (o = false ∧ Keep F2 H' H2)) → SqL X.K H2 a xs ∧ Keep F2 H' H2) → Walk X.K F2 o (Itl X.K a) ds H' := fun F2 o s2 st H2 hH i => by
      obtain ⟨g1, g2⟩ := st H2 hH
      have g3 : DenL X.K F2 H2 ds xs := DenL.mono g2 (fun _ h => h) _ _ (DenL.mono (Keep.of (Same.refl _)) s2 _ _ h2)
      have hl := g3.length
      refine ⟨fun d hd => ?_, fun hi => ⟨xs, g1, by omega⟩⟩
      obtain ⟨v, q1, q2⟩ := g3.get hd
      exact ⟨⟨xs, v, g1, q1⟩, fun x H3 ⟨e, y⟩ => by
        subst e
        have := y xs g1
        rw [q1] at this; cases this
        exact ⟨Same.refl _, q2⟩⟩
    cases k with
    | own i => exact q _ Fz' H' p.ext (walk Fz' true (fun _ h => h) fun H2 hH => by
        rcases hH with hH | ⟨z, _⟩
        · exact ⟨hH.seq h1, .of hH⟩
        · cases z)
    | frz =>
      have pd : Den X.K Fz' H' (.lst ds) (.ref a) := p.opd
      simp only [Den] at pd
      obtain ⟨a', xs', e, h3, h4⟩ := pd
      cases e
      refine q _ Fz' H' p.ext ?_
      intro H2 hH i
      have kp : Keep Fz' H' H2 := hH.elim (fun z => .of z) (·.2)
      have g1 : SqL X.K H2 a xs' := h3.elim (fun h => .inl (kp.rd (.inl h.1) h.2)) KX.sq
      have g3 : DenL X.K Fz' H2 ds xs' := DenL.mono kp (fun _ h => h) _ _ h4
      have hl := g3.length
      refine ⟨fun d hd => ?_, fun hi => ⟨xs', g1, by omega⟩⟩
      obtain ⟨v, q1, q2⟩ := g3.get hd
      exact ⟨⟨xs', v, g1, q1⟩, fun x H3 ⟨e, y⟩ => by
        subst e
        have := y xs' g1
        rw [q1] at this; cases this
        exact ⟨Same.refl _, q2⟩⟩
    | new =>
      obtain ⟨b, e, hn, nf, o⟩ := p.opd
      cases e
      obtain ⟨xs', o1, o2⟩ := o
      refine q _ (fun b => Fz' b ∨ b = a) H' (p.ext.add hn (by rw [o1]; exact fun z => nomatch z)) ?_
      intro H2 hH i
      have kp : Keep (fun b => Fz' b ∨ b = a) H' H2 := hH.elim (fun z => .of z) (·.2)
      have g1 : SqL X.K H2 a xs' := .inl (kp.rd (.inl (.inr rfl)) (.inl o1))
      have g3 : DenL X.K (fun b => Fz' b ∨ b = a) H2 ds xs' := DenL.mono kp (fun _ h => h) _ _ (DenL.mono (Keep.of (Same.refl _)) (fun _ h => .inl h) _ _ o2)
      have hl := g3.length
      refine ⟨fun d hd => ?_, fun hi => ⟨xs', g1, by omega⟩⟩
      obtain ⟨v, q1, q2⟩ := g3.get hd
      exact ⟨⟨xs', v, g1, q1⟩, fun x H3 ⟨e, y⟩ => by
        subst e
        have := y xs' g1
        rw [q1] at this; cases this
        exact ⟨Same.refl _, q2⟩⟩
theorem pui_tup (he : PuE X e te) : PuI X tg e (iTupl te) where
  mono ρ Q Q' m h := he.mono ρ _ _ (fun d k ⟨ds, e, q⟩ => ⟨ds, e, m _ _ q⟩) h
  run := PI.weak (pi_tup he.run) fun σ H Rr h => by
    obtain ⟨ρ, Fz, R, h⟩ := h
    refine ⟨ρ, Fz, R, he.mono ρ _ _ (fun d k q v Fz' H' p => ?_) h⟩
    obtain ⟨ds, e, q⟩ := q
    subst e
    obtain ⟨a, xs, rfl, h1, h2⟩ := root_tup (p.root R)
    refine ⟨a, rfl, ⟨xs, h1⟩, q _ Fz' H' p.ext ?_⟩
    intro H2 hH i
    have kp : Keep Fz' H' H2 := hH.elim (fun z => .of z) (·.2)
    have g1 : SqT X.K H2 a xs := kp.sqT h1
    have g3 : DenL X.K Fz' H2 ds xs := DenL.mono kp (fun _ h => h) _ _ h2
    have hl := g3.length
    refine ⟨fun d hd => ?_, fun hi => ⟨xs, g1, by omega⟩⟩
    obtain ⟨v, q1, q2⟩ := g3.get hd
    exact ⟨⟨xs, v, g1, q1⟩, fun x H3 ⟨e, y⟩ => by
      subst e
      have := y xs g1
      rw [q1] at this; cases this
      exact ⟨Same.refl _, q2⟩⟩
end
def rngP (lo : Int) (n : Nat) : List PV := (List.range n).map fun (i : Nat) => PV.int (lo + i)
theorem rngP_len (lo : Int) (n : Nat) : (rngP lo n).length = n := by simp [rngP]
theorem rngP_get {lo : Int} {n i : Nat} {d : PV} (h : (rngP lo n)[i]? = some d) : i < n ∧ d = .int (lo + i) := by
  have hi : i < n := by have := (List.getElem?_eq_some_iff.mp h).1; rw [rngP_len] at this; exact this
  refine ⟨hi, ?_⟩
  unfold rngP at h
  rw [List.getElem?_map, List.getElem?_range hi] at h
  exact (Option.some.inj h).symm
def iRange1 (t : TPA) : TPI := fun ρ Q => t ρ fun ops => ∃ j : Int, ops.map (·.1) = [.int j] ∧ -(2 ^ 62) ≤ j ∧ j < 2 ^ 62 ∧ Q (rngP 0 j.toNat) false
def iRange2 (t : TPA) : TPI := fun ρ Q => t ρ fun ops => ∃ i j : Int, ops.map (·.1) = [.int i, .int j] ∧ (-(2 ^ 62) ≤ i ∧ i < 2 ^ 62 ∧ -(2 ^ 62) ≤ j ∧ j < 2 ^ 62) ∧ Q (rngP i (j - i).toNat) false
theorem walk_rng {K : PySem.W.Frag} {Fz : FZ} {lo : Int} {n : Nat} {H : Hp} : Walk K Fz false (Itr lo n) (rngP lo n) H := fun H2 _ i => by
  refine ⟨fun d hd => ?_, fun hi => by rw [rngP_len] at hi; exact hi⟩
  obtain ⟨h1, rfl⟩ := rngP_get hd
  exact ⟨h1, fun x H3 ⟨e, y⟩ => by subst e y; exact ⟨Same.refl _, by simp only [Den]⟩⟩
section
variable {X : Cx} {tg a b : Expr} {t : TPA} {p pos : Pos}
theorem pui_range1 (hg : Gl X "range") (hm : X.mg "range" = none) (ha : PuA X [a] t) (hs : starEach [a] X.env = [(false, eval a X.env)] := by rfl) : PuI X tg (.Call (.Name "range" p) [a] [] pos) (iRange1 t) where
  mono ρ Q Q' m h := ha.mono ρ _ _ (fun ops ⟨j, e, h1, h2, q⟩ => ⟨j, e, h1, h2, m _ _ q⟩) h
  run := PI.weak (pi_range1 hg hm ha.run hs) fun σ H Rr h => by
    obtain ⟨ρ, Fz, R, h⟩ := h
    refine ⟨ρ, Fz, R, ha.mono ρ _ _ (fun ops q vs Fz' H' x o => ?_) h⟩
    obtain ⟨j, e, h1, h2, q⟩ := q
    have rl := o.root R x
    rw [e] at rl
    cases rl with
    | cons r1 r2 =>
      cases r2
      exact ⟨j, by rw [root_int r1], h1, h2, q _ Fz' H' x walk_rng⟩
theorem pui_range2 (hg : Gl X "range") (hm : X.mg "range" = none) (ha : PuA X [a, b] t) (hs : starEach [a, b] X.env = [(false, eval a X.env), (false, eval b X.env)] := by rfl) (hs2 : starEach [b] X.env = [(false, eval b X.env)] := by rfl) : PuI X tg (.Call (.Name "range" p) [a, b] [] pos) (iRange2 t) where
  mono ρ Q Q' m h := ha.mono ρ _ _ (fun ops ⟨i, j, e, h1, q⟩ => ⟨i, j, e, h1, m _ _ q⟩) h
  run := PI.weak (pi_range2 hg hm ha.run hs hs2) fun σ H Rr h => by
    obtain ⟨ρ, Fz, R, h⟩ := h
    refine ⟨ρ, Fz, R, ha.mono ρ _ _ (fun ops q vs Fz' H' x o => ?_) h⟩
    obtain ⟨i, j, e, h1, q⟩ := q
    have rl := o.root R x
    rw [e] at rl
    cases rl with
    | cons r1 r2 =>
      cases r2 with
      | cons r3 r4 =>
        cases r4
        exact ⟨i, j, by rw [root_int r1, root_int r3], h1, q _ Fz' H' x walk_rng⟩
end

/-! ### for, while -/
def pFor (ti : TPI) (g : TPG) (tb : TPS) : TPS := fun ρ O => ti ρ fun its o => o = false ∧ ∃ Inv : Nat → PEnv → Prop, Inv 0 ρ ∧
  (∀ i d ρ', its[i]? = some d → Inv i ρ' → g d ρ' (Hold tb { O with nx := Inv (i + 1), ct := Inv (i + 1), bk := O.nx })) ∧ ∀ ρ', Inv its.length ρ' → O.nx ρ'
def pWhile (c : TPT) (tb : TPS) : TPS := fun ρ O => ∃ Inv : Nat → PEnv → Prop, (∃ m, Inv m ρ) ∧ ∀ m ρ', Inv m ρ' → HoldT c ρ' fun b => if b = true
  then Hold tb { O with nx := fun ρ2 => ∃ m', m' < m ∧ Inv m' ρ2, ct := fun ρ2 => ∃ m', m' < m ∧ Inv m' ρ2, bk := O.nx } ρ' else O.nx ρ'
theorem Step.kept {K : PySem.W.Frag} {ρ : PEnv} {σ : St} {Fz Fz' : FZ} {H H' : Hp} (R : Rel K Fz ρ σ H) (s : Step ρ σ Fz H Fz' H') : Keep Fz H H' := fun b o e w => by
  refine s.keep b o e fun ⟨i, d, h1, h2⟩ => ?_
  obtain ⟨a, q1, q2, q3⟩ := R.own i d h1
  rw [h2] at q1; cases q1
  rcases w with w | w
  · exact q2 w
  · obtain ⟨o', q4, q5⟩ := q3.at
    rw [e] at q4; cases q4
    exact q5 w
section
variable {X : Cx} {tg iter c : Expr} {body : List Stmt} {ti : TPI} {g : TPG} {tb : TPS} {tc : TPT} {pos : Pos}
theorem pus_for (hc : X.calm = true) (hp : PassesOwn (model X.prog X.w) X.A X.env X.xe) (hi : PuI X tg iter ti) (hg : PuG X tg g) (hb : PuSs X body tb) (hs : ∀ x, foldedSetIterable iter X.env x = pure x := by intro _; rfl) : PuS X (.For tg iter body [] pos) (pFor ti g tb) where
  mono ρ O O' m h := hi.mono ρ _ _ (fun its o ⟨e, I, h0, hs, hd⟩ => ⟨e, I, h0, fun i d ρ' hi hI => hg.mono d ρ' _ _ (fun ρ2 q => hb.mono ρ2 { O with nx := I (i + 1), ct := I (i + 1), bk := O.nx } _ ⟨fun _ q => q, m.rt, m.nx, fun _ q => q⟩ q) (hs i d ρ' hi hI), fun ρ' hI => m.nx _ (hd ρ' hI)⟩) h
  run := PS.weak (ps_for hp hc hi.run hg.run hb.run hs) fun D σ H h => by
    obtain ⟨ρ, Fz, R, h⟩ := h
    refine ⟨ρ, Fz, R, hi.mono ρ _ _ (fun its o q J Fz1 H1 x wk => ?_) h⟩
    obtain ⟨rfl, Iv, h0, hstep, hdone⟩ := q
    have R1 := R.ext x
    -- the state at a turn
    refine ⟨fun i m σ' H' => m = its.length - i ∧ i ≤ its.length ∧ ∃ ρ' F', Rel X.K F' ρ' σ' H' ∧ Iv i ρ' ∧ Step ρ σ Fz1 H1 F' H' ∧ OwnIn ρ σ H1 ρ' σ',
      ⟨its.length, by omega, Nat.zero_le _, ρ, Fz1, R1, h0, .of ⟨Same.refl _, fun _ h => h, fun _ h => .inl h, R1.al⟩, OwnIn.refl ρ σ H1⟩, ?_⟩
    rintro i m σ' H' ⟨rfl, hle, ρ', F', R', hI, s', o'⟩
    have kp : Keep Fz1 H1 H' := s'.kept R1
    obtain ⟨wgo, wstop⟩ := wk H' (.inr ⟨rfl, kp⟩) i
    have s0 : Step ρ σ Fz H F' H' := Step.trans (.of x) (OwnIn.refl ρ σ H) ⟨s'.sub, s'.new, s'.keep⟩
    have o0 : OwnIn ρ σ H ρ' σ' := OwnIn.trans (Step.of x) (OwnIn.refl ρ σ H) o'
    by_cases hlt : i < its.length
    · obtain ⟨go, yl⟩ := wgo its[i] (List.getElem?_eq_getElem hlt)
      refine .inr ⟨go, fun σ2 H2 => ∃ ρ2 F2, Rel X.K F2 ρ2 σ2 H2 ∧ Iv (i + 1) ρ2 ∧ Step ρ σ Fz1 H1 F2 H2 ∧ OwnIn ρ σ H1 ρ2 σ2, fun σ2 H2 hN => ⟨its.length - (i + 1), by omega, rfl, hlt, hN⟩, fun xv H2 y => ?_⟩
      obtain ⟨sm, dn⟩ := yl xv H2 y
      have x2 : Ext F' H' F' H2 := ⟨sm, fun _ h => h, fun _ h => .inl h, fun b hb z => R'.al b hb (sm.free z)⟩
      refine ⟨ρ', F', its[i], R'.ext x2, Den.mono (Keep.of (Same.refl _)) s'.sub _ _ dn, hg.mono _ ρ' _ _ (fun ρ2 q σ2 R2 o2 => ?_) (hstep i its[i] ρ' (List.getElem?_eq_getElem hlt) hI)⟩
      refine ⟨ρ2, F', R2, hb.mono ρ2 _ _ ⟨fun ρ3 q σ3 F3 H3 s3 o3 R3 => ?_, fun d k q v F3 H3 s3 al r => ?_, fun ρ3 q σ3 F3 H3 s3 o3 R3 => ?_, fun ρ3 q σ3 F3 H3 s3 o3 R3 => ?_⟩ q⟩
      · have so : OwnIn ρ σ H1 ρ2 σ2 := fun b hb => o' b (o2 b hb)
        have st : Step ρ σ Fz1 H1 F' H2 := s'.trans o' (.of x2)
        exact ⟨ρ3, F3, R3, q, st.trans so s3, OwnIn.trans st so o3⟩
      · have so : OwnIn ρ σ H ρ2 σ2 := fun b hb => o0 b (o2 b hb)
        have st : Step ρ σ Fz H F' H2 := s0.trans o0 (.of x2)
        refine q v F3 H3 (st.trans so s3) al ?_
        cases k with
        | frz => exact r
        | own j => exact r
        | new =>
          obtain ⟨a, e, nf, ow, w⟩ := r
          refine ⟨a, e, nf, ow, ?_⟩
          rcases w with w | w
          · exact so a w
          · exact (st.none w).symm
      · have so : OwnIn ρ σ H ρ2 σ2 := fun b hb => o0 b (o2 b hb)
        have st : Step ρ σ Fz H F' H2 := s0.trans o0 (.of x2)
        exact q σ3 F3 H3 (st.trans so s3) (OwnIn.trans st so o3) R3
      · have so : OwnIn ρ σ H1 ρ2 σ2 := fun b hb => o' b (o2 b hb)
        have st : Step ρ σ Fz1 H1 F' H2 := s'.trans o' (.of x2)
        exact ⟨ρ3, F3, R3, q, st.trans so s3, OwnIn.trans st so o3⟩
    · have e : i = its.length := by omega
      subst e
      exact .inl ⟨wstop (Nat.le_refl _), hdone ρ' hI σ' F' H' s0 o0 R'⟩
theorem pus_while (hp : PassesOwn (model X.prog X.w) X.A X.env X.xe) (hc : PuT X c tc) (hb : PuSs X body tb) : PuS X (.While c body [] pos) (pWhile tc tb) where
  mono ρ O O' m h := by
    obtain ⟨Iv, h0, h⟩ := h
    refine ⟨Iv, h0, fun n ρ' hI => hc.mono ρ' _ _ (fun b q => ?_) (h n ρ' hI)⟩
    cases b with
    | true => rw [if_pos rfl] at q ⊢; exact hb.mono ρ' { O with nx := fun ρ2 => ∃ m', m' < n ∧ Iv m' ρ2, ct := fun ρ2 => ∃ m', m' < n ∧ Iv m' ρ2, bk := O.nx } _ ⟨fun _ q => q, m.rt, m.nx, fun _ q => q⟩ q
    | false => rw [if_neg Bool.false_ne_true] at q ⊢; exact m.nx _ q
  run := PS.weak (ps_while hp hc.run hb.run) fun D σ H h => by
    obtain ⟨ρ, Fz, R, Iv, ⟨m0, h0⟩, h⟩ := h
    refine ⟨fun m σ' H' => ∃ ρ' F', Rel X.K F' ρ' σ' H' ∧ Iv m ρ' ∧ Step ρ σ Fz H F' H' ∧ OwnIn ρ σ H ρ' σ',
      ⟨m0, ρ, Fz, R, h0, .of ⟨Same.refl _, fun _ h => h, fun _ h => .inl h, R.al⟩, OwnIn.refl ρ σ H⟩, ?_⟩
    rintro m σ' H' ⟨ρ', F', R', hI, s', o'⟩
    refine ⟨ρ', F', R', hc.mono ρ' _ _ (fun b q F2 H2 x2 => ?_) (h m ρ' hI)⟩
    have st : Step ρ σ Fz H F2 H2 := s'.trans o' (.of x2)
    cases b with
    | true =>
      rw [if_pos rfl] at q
      refine iteT ?_
      refine ⟨fun σ3 H3 => ∃ m', m' < m ∧ ∃ ρ3 F3, Rel X.K F3 ρ3 σ3 H3 ∧ Iv m' ρ3 ∧ Step ρ σ Fz H F3 H3 ∧ OwnIn ρ σ H ρ3 σ3, fun σ3 H3 hN => hN, ρ', F2, R'.ext x2, hb.mono ρ' _ _ ⟨fun ρ3 q σ3 F3 H3 s3 o3 R3 => ?_, fun d k q v F3 H3 s3 al r => ?_, fun ρ3 q σ3 F3 H3 s3 o3 R3 => ?_, fun ρ3 q σ3 F3 H3 s3 o3 R3 => ?_⟩ q⟩
      · obtain ⟨m', hm, hI'⟩ := q
        exact ⟨m', hm, ρ3, F3, R3, hI', st.trans o' s3, OwnIn.trans st o' o3⟩
      · refine q v F3 H3 (st.trans o' s3) al ?_
        cases k with
        | frz => exact r
        | own j => exact r
        | new =>
          obtain ⟨a, e, nf, ow, w⟩ := r
          refine ⟨a, e, nf, ow, ?_⟩
          rcases w with w | w
          · exact o' a w
          · exact (st.none w).symm
      · exact q σ3 F3 H3 (st.trans o' s3) (OwnIn.trans st o' o3) R3
      · obtain ⟨m', hm, hI'⟩ := q
        exact ⟨m', hm, ρ3, F3, R3, hI', st.trans o' s3, OwnIn.trans st o' o3⟩
    | false =>
      rw [if_neg Bool.false_ne_true] at q
      exact iteF (q σ' F2 H2 st o' (R'.ext x2))
end
end PL

set_option Elab.async false
set_option linter.all false
set_option maxRecDepth 100000
set_option maxHeartbeats 4000000
namespace PL
open PySem PySem.Spec L2
open PyProof.Rows hiding St

theorem _root_.L2.Same.upd' {H H' : Hp} {l : Addr} {o : HO} (s : Same H H') (h : H l = none) : Same H (L2.upd H' l o) := fun b u e => by
  rw [upd_ne (ne_of_none e h)]; exact s b u e
/-! ### comprehensions -/
structure PuTs (X : Cx) (ifs : List Expr) (t : TPT) : Prop where
  mono : ∀ ρ Q Q', (∀ b, Q b → Q' b) → t ρ Q → t ρ Q'
  run : PTs X ifs (liftT X.K t)
def tTrue : TPT := fun _ Q => Q true
theorem PTs.weak {X : Cx} {e : List Expr} {t t' : TT} (h : PTs X e t) (w : ∀ σ H Q, t' σ H Q → t σ H Q) : PTs X e t' := fun pins s σ H Q I q => h pins s σ H Q I (w σ H Q q)
theorem puts_nil {X : Cx} : PuTs X [] tTrue where
  mono ρ Q Q' m h := m _ h
  run := PTs.weak pts_nil fun σ H Q h => by
    obtain ⟨ρ, Fz, R, h⟩ := h
    exact h Fz H ⟨Same.refl H, fun _ h => h, fun _ h => .inl h, R.al⟩
theorem puts_one {X : Cx} {c : Expr} {t : TPT} (h : PuT X c t) : PuTs X [c] t := ⟨h.mono, pts_one h.run⟩
/-- a block's names at its start -/
def blkP (k : Nat) (js : List Nat) (ρ : PEnv) : PEnv := List.replicate k none ++ js.map fun j => (ρ[j]?).getD none
def pComp (k : Nat) (js : List Nat) (ti : TPI) (g : TPG) (tt : TPT) (te : TPE) : TPE := fun ρ Q => ti ρ fun its _ => its.length ≤ sizeLine ∧ ∃ Pv : Nat → List PV → Prop, Pv 0 [] ∧
  (∀ i d out, its[i]? = some d → out.length ≤ i → Pv i out → g d (blkP k js ρ) fun ρ2 => tt ρ2 fun b => if b = true then te ρ2 fun e ke => isOwn ke = false ∧ Pv (i + 1) (out ++ [e]) else Pv (i + 1) out) ∧
  ∀ out, out.length ≤ its.length → Pv its.length out → Q (.lst out) .new
structure PBlk (X : Cx) (N : List Str) (sc : Scope) (tg : Expr) (ifs : List Expr) (elt : Expr) (g : TPG) (tt : TPT) (te : TPE) : Prop where
  tgt : ∀ C cells fp s H, PuG (cxB X N sc C cells fp s H) tg g
  tst : ∀ C cells fp s H, PuTs (cxB X N sc C cells fp s H) ifs tt
  val : ∀ C cells fp s H, PuE (cxB X N sc C cells fp s H) elt te
theorem PBlk.blk {X : Cx} {N : List Str} {sc : Scope} {tg : Expr} {ifs : List Expr} {elt : Expr} {g : TPG} {tt : TPT} {te : TPE} (B : PBlk X N sc tg ifs elt g tt te) : Blk X N sc tg ifs elt (liftG X.K g) (liftT X.K tt) (lift X.K te) :=
  ⟨fun C cells fp s H => (B.tgt C cells fp s H).run, fun C cells fp s H => (B.tst C cells fp s H).run, fun C cells fp s H => (B.val C cells fp s H).run⟩
theorem blk_get {k : Nat} {js : List Nat} {ρ : PEnv} {i : Nat} {d : PV} {b : Bool} (h : (blkP k js ρ)[i]? = some (some (d, b))) : ∃ i' j, i = k + i' ∧ js[i']? = some j ∧ ρ[j]? = some (some (d, b)) := by
  unfold blkP at h
  have hik : k ≤ i := by
    by_cases hik : k ≤ i
    · exact hik
    · rw [List.getElem?_append_left (by simp; omega), List.getElem?_replicate] at h
      split at h <;> cases h
  obtain ⟨i', rfl⟩ : ∃ i', i = k + i' := ⟨i - k, by omega⟩
  rw [List.getElem?_append_right (by simp), List.length_replicate, show k + i' - k = i' by omega, List.getElem?_map] at h
  cases hj : js[i']? with
  | none => rw [hj] at h; cases h
  | some j =>
    rw [hj] at h
    refine ⟨i', j, rfl, hj, ?_⟩
    have h' : (ρ[j]?).getD none = some (d, b) := Option.some.inj h
    cases q : ρ[j]? with
    | none => rw [q] at h'; cases h'
    | some o => rw [q] at h'; exact congrArg some h'
theorem blkSt_get {k : Nat} {js : List Nat} {σ : St} {i' j : Nat} {o : Option V} (hj : js[i']? = some j) (h : σ[j]? = some o) : (blkSt k js σ)[k + i']? = some o := by
  unfold blkSt
  rw [List.getElem?_append_right (by simp), List.length_replicate, show k + i' - k = i' by omega, List.getElem?_map, hj]
  show some ((σ[j]?).getD none) = _
  rw [h]; rfl
theorem Rel.block {K : PySem.W.Frag} {Fz : FZ} {ρ : PEnv} {σ : St} {H : Hp} {k : Nat} {js : List Nat} (R : Rel K Fz ρ σ H) (nd : js.Nodup) : Rel K Fz (blkP k js ρ) (blkSt k js σ) H where
  al := R.al
  len := by unfold blkP blkSt; simp
  frz i d h := by
    obtain ⟨i', j, rfl, hj, h⟩ := blk_get h
    obtain ⟨v, e, q⟩ := R.frz j d h
    exact ⟨v, blkSt_get hj e, q⟩
  own i d h := by
    obtain ⟨i', j, rfl, hj, h⟩ := blk_get h
    obtain ⟨a, e, n, q⟩ := R.own j d h
    exact ⟨a, blkSt_get hj e, n, q⟩
  inj i1 i2 d e a h1 h2 h3 h4 := by
    obtain ⟨i', j, rfl, hj, h1⟩ := blk_get h1
    obtain ⟨i'', j', rfl, hj', h2⟩ := blk_get h2
    obtain ⟨a1, e1, _, _⟩ := R.own j d h1
    obtain ⟨a2, e2, _, _⟩ := R.own j' e h2
    rw [blkSt_get hj e1] at h3
    rw [blkSt_get hj' e2] at h4
    have ea1 : a1 = a := by have := Option.some.inj (Option.some.inj h3); injection this
    have ea2 : a2 = a := by have := Option.some.inj (Option.some.inj h4); injection this
    subst ea1
    subst ea2
    have ej := R.inj j j' d e _ h1 h2 e1 e2
    subst ej
    have l1 : i' < js.length := (List.getElem?_eq_some_iff.mp hj).1
    have e1' : i' = i'' := (List.getElem?_inj l1 nd).mp (hj.trans hj'.symm)
    rw [e1']
theorem own_blk {ρ : PEnv} {σ : St} {k : Nat} {js : List Nat} {Fz : FZ} {K : PySem.W.Frag} {H : Hp} (R : Rel K Fz ρ σ H) {b : Addr} (h : Owned (blkP k js ρ) (blkSt k js σ) b) : Owned ρ σ b := by
  obtain ⟨i, d, h1, h2⟩ := h
  obtain ⟨i', j, rfl, hj, h1⟩ := blk_get h1
  obtain ⟨a1, e1, _, _⟩ := R.own j d h1
  rw [blkSt_get hj e1] at h2
  cases h2
  exact ⟨j, d, h1, e1⟩
/-- back to the block's start -/
theorem Rel.unblock {K : PySem.W.Frag} {Fz : FZ} {ρ ρ' : PEnv} {σ : St} {H : Hp} {k : Nat} {js : List Nat} (R : Rel K Fz ρ' σ H) (hl : ρ'.length = (blkP k js ρ).length) (hs : ∀ j, k ≤ j → ρ'[j]? = (blkP k js ρ)[j]?) : Rel K Fz (blkP k js ρ) σ H := by
  have tr : ∀ i d b, (blkP k js ρ)[i]? = some (some (d, b)) → ρ'[i]? = some (some (d, b)) := fun i d b h => by
    obtain ⟨i', j, rfl, _⟩ := blk_get h
    rw [hs _ (by omega)]; exact h
  exact ⟨R.al, by rw [← hl]; exact R.len, fun i d h => R.frz i d (tr _ _ _ h), fun i d h => R.own i d (tr _ _ _ h), fun i j d e a h1 h2 => R.inj i j d e a (tr _ _ _ h1) (tr _ _ _ h2)⟩
/-- a place that is neither frozen nor a name's own changes -/
theorem Rel.other {K : PySem.W.Frag} {Fz : FZ} {ρ : PEnv} {σ : St} {H : Hp} {l : Addr} {o u : HO} (R : Rel K Fz ρ σ H) (h : H l = some u) (hi : ¬ Imm u) (nf : ¬ Fz l) (no : ¬ Owned ρ σ l) : Rel K Fz ρ σ (upd H l o) := by
  have kp : Keep Fz H (upd H l o) := fun b w e hw => by
    have ne : b ≠ l := fun z => by
      subst z
      rcases hw with hw | hw
      · exact nf hw
      · rw [h] at e; cases e; exact hi hw
    rw [upd_ne ne]; exact e
  refine ⟨fun b hb => ?_, R.len, fun i d e => ?_, fun i d e => ?_, R.inj⟩
  · have ne : b ≠ l := fun z => by subst z; exact nf hb
    rw [upd_ne ne]; exact R.al b hb
  · obtain ⟨v, q1, q2⟩ := R.frz i d e
    exact ⟨v, q1, Den.mono kp (fun _ h => h) _ _ q2⟩
  · obtain ⟨a, q1, q2, q3⟩ := R.own i d e
    refine ⟨a, q1, q2, q3.mono kp (fun _ h => h) fun w hw => ?_⟩
    have ne : a ≠ l := fun z => by subst z; exact no ⟨i, d, e, q1⟩
    rw [upd_ne ne]; exact hw
section
variable {X : Cx} {elt tg iter : Expr} {ifs : List Expr} {sc : Scope} {pos : Pos} {N : List Str} {k : Nat} {js : List Nat} {ti : TPI} {g : TPG} {tt : TPT} {te : TPE}
theorem comp_mono (hi : PuI X tg iter ti) (B : PBlk X N sc tg ifs elt g tt te) : ∀ ρ Q Q', (∀ d k, Q d k → Q' d k) → pComp k js ti g tt te ρ Q → pComp k js ti g tt te ρ Q' :=
  fun ρ Q Q' m h => hi.mono ρ _ _ (fun its o ⟨hz, Pv, h0, hs, hd⟩ => ⟨hz, Pv, h0, hs, fun out hl hp => m _ _ (hd out hl hp)⟩) h
theorem comp_lift (nd : js.Nodup) (hloc : LocG k g) (hi : PuI X tg iter ti) (B : PBlk X N sc tg ifs elt g tt te) {σ : St} {H : Hp} {Q : VK} (h : lift X.K (pComp k js ti g tt te) σ H Q) :
    tComp k js (liftI X.K ti) (liftG X.K g) (liftT X.K tt) (lift X.K te) σ H Q := by
  obtain ⟨ρ, Fz, R, h⟩ := h
  refine ⟨ρ, Fz, R, hi.mono ρ _ _ (fun its o q J Fz1 H1 x wk l hl => ?_) h⟩
  obtain ⟨hz, Pv, h0, hstep, hdone⟩ := q
  have R1 := R.ext x
  have mg := (B.tgt 0 [] [] X.s₀ H).mono
  have mt := (B.tst 0 [] [] X.s₀ H).mono
  have me := (B.val 0 [] [] X.s₀ H).mono
  have nf1 : ¬ Fz1 l := fun z => R1.al l z hl
  have no1 : ¬ Owned ρ σ l := fun ⟨i, d, h1, h2⟩ => by
    obtain ⟨a, q1, _, q3⟩ := R1.own i d h1
    rw [h2] at q1; cases q1
    obtain ⟨o', q4, _⟩ := q3.at
    rw [hl] at q4; cases q4
  refine ⟨fun i m σ' H' => m = its.length - i ∧ i ≤ its.length ∧ ∃ F' out xs, Rel X.K F' (blkP k js ρ) σ' H' ∧ (∀ b, Owned (blkP k js ρ) σ' b → Owned ρ σ b) ∧ H' l = some (.lst xs) ∧ DenL X.K F' H' out xs ∧ ¬ F' l ∧ out.length ≤ i ∧ Pv i out ∧ Same H1 H' ∧ (∀ b, Fz1 b → F' b) ∧ (∀ b, F' b → Fz1 b ∨ H1 b = none),
    ⟨its.length, by omega, Nat.zero_le _, Fz1, [], [], ?_, fun b hb => own_blk R1 hb, upd_same, DenL.nil, nf1, Nat.zero_le _, h0, (Same.refl H1).upd' hl, fun _ h => h, fun _ h => .inl h⟩, ?_⟩
  · have x0 : Ext Fz1 H1 Fz1 (upd H1 l (.lst [])) := Ext.laid ⟨Same.refl _, fun _ h => h, fun _ h => .inl h, R1.al⟩ hl
    exact (R1.block nd).ext x0
  rintro i m σ' H' ⟨rfl, hle, F', out, xs, Rb, ob, hlx, hout, nfl, hol, hP, sm, s1, s2⟩
  obtain ⟨wgo, wstop⟩ := wk H' (.inl sm) i
  by_cases hlt : i < its.length
  · obtain ⟨go, yl⟩ := wgo its[i] (List.getElem?_eq_getElem hlt)
    refine .inr ⟨go, fun xv H2 y => ?_⟩
    obtain ⟨sm2, dn⟩ := yl xv H2 y
    have x2 : Ext F' H' F' H2 := ⟨sm2, fun _ h => h, fun _ h => .inl h, fun b hb z => Rb.al b hb (sm2.free z)⟩
    refine ⟨blkP k js ρ, F', its[i], Rb.ext x2, Den.mono (Keep.of (Same.refl _)) s1 _ _ dn, mg _ _ _ _ (fun ρ2 ⟨q, l2, a2⟩ σ2 R2 o2 => ?_) (hloc _ _ _ (hstep i its[i] out (List.getElem?_eq_getElem hlt) hol hP))⟩
    refine ⟨ρ2, F', R2, mt ρ2 _ _ (fun b q F4 H4 x4 => ?_) q⟩
    have R4 : Rel X.K F4 ρ2 σ2 H4 := R2.ext x4
    have own2 : ∀ b, Owned (blkP k js ρ) σ2 b → Owned ρ σ b := fun b ⟨j, d, h1, h2⟩ => by
      refine ob b (o2 b ⟨j, d, ?_, h2⟩)
      obtain ⟨i', j', e, _⟩ := blk_get h1
      rw [a2 j (by omega)]; exact h1
    have hl4 : H4 l = some (.lst xs) := x4.same _ _ (sm2 _ _ hlx)
    have nf4 : ¬ F4 l := fun z => by
      rcases x4.new l z with z | z
      · exact nfl z
      · rw [sm2 _ _ hlx] at z; cases z
    cases b with
    | false =>
      rw [if_neg Bool.false_ne_true] at q
      refine iteF ⟨its.length - (i + 1), by omega, rfl, hlt, F4, out, xs, Rel.unblock R4 l2 a2, own2, hl4, DenL.mono (.of (sm2.trans x4.same)) x4.sub _ _ hout, nf4, by omega, q, sm.trans (sm2.trans x4.same), fun b hb => x4.sub b (s1 b hb), fun b hb => ?_⟩
      rcases x4.new b hb with z | z
      · exact s2 b z
      · exact .inr (sm.free (sm2.free z))
    | true =>
      rw [if_pos rfl] at q
      refine iteT ⟨ρ2, F4, R4, me ρ2 _ _ (fun e ke ⟨hk, q⟩ v F5 H5 p5 => ?_) q⟩
      have hk' : ke = .frz ∨ ke = .new := by
        cases ke with
        | frz => exact .inl rfl
        | new => exact .inr rfl
        | own j => cases hk
      obtain ⟨F6, x6, s6, d6⟩ := p5.frozen hk'
      have hl5 : H5 l = some (.lst xs) := x6.same _ _ hl4
      have nf6 : ¬ F6 l := fun z => by
        rcases x6.new l z with z | z
        · exact nf4 z
        · rw [hl4] at z; cases z
      have R6 : Rel X.K F6 ρ2 σ2 H5 := R4.ext x6
      have Rb6 : Rel X.K F6 (blkP k js ρ) σ2 H5 := Rel.unblock R6 l2 a2
      have no6 : ¬ Owned (blkP k js ρ) σ2 l := fun z => no1 (own2 l z)
      have kp : Keep F6 H5 (upd H5 l (.lst (xs ++ [v]))) := fun b w e hw => by
        have ne : b ≠ l := fun z => by
          subst z
          rcases hw with hw | hw
          · exact nf6 hw
          · rw [hl5] at e; cases e; exact hw
        rw [upd_ne ne]; exact e
      have hxl := hout.length
      refine ⟨xs, hl5, by omega, its.length - (i + 1), by omega, rfl, hlt, F6, out ++ [e], xs ++ [v], Rb6.other hl5 (fun z => z) nf6 no6, own2, upd_same, ?_, nf6, by rw [List.length_append]; simp; omega, q, ?_, fun b hb => x6.sub b (x4.sub b (s1 b hb)), fun b hb => ?_⟩
      · exact DenL.mono kp (fun _ h => h) _ _ (DenL.snoc (DenL.mono (.of (sm2.trans (x4.same.trans x6.same))) (fun b hb => x6.sub b (x4.sub b hb)) _ _ hout) d6)
      · exact (sm.trans (sm2.trans (x4.same.trans x6.same))).upd' hl
      · rcases x6.new b hb with z | z
        · rcases x4.new b z with z | z
          · exact s2 b z
          · exact .inr (sm.free (sm2.free z))
        · exact .inr (sm.free (sm2.free (x4.same.free z)))
  · have e : i = its.length := by omega
    subst e
    refine .inl ⟨wstop (Nat.le_refl _), hdone out hol hP _ F' H' ⟨x.trans ⟨sm, s1, s2, Rb.al⟩, l, rfl, x.same.free hl, nfl, xs, hlx, hout⟩⟩
theorem pu_comp (hc : X.calm = true) (S : CpScope X N k js sc) (nd : js.Nodup) (hloc : LocG k g) (hi : PuI X tg iter ti) (B : PBlk X N sc tg ifs elt g tt te) (hs : ∀ x, foldedSetIterable iter X.env x = pure x := by intro _; rfl) :
    PuE X (.ListComp elt [⟨tg, iter, ifs, 0⟩] sc pos) (pComp k js ti g tt te) :=
  ⟨comp_mono hi B, PE.weak (pe_comp hc S hi.run B.blk hs) fun _ _ _ h => comp_lift nd hloc hi B h⟩
/-- name = [..], the name a local one -/
theorem pus_comp {i : Nat} {x : Str} {pos' pos2 : Pos} (hc : X.calm = true) (S : CpScope X N k js sc) (nd : js.Nodup) (hloc : LocG k g) (hi : PuI X tg iter ti) (B : PBlk X N sc tg ifs elt g tt te) (hN : X.N.Nodup) (hx : X.N[i]? = some x) (hk : X.env.scope.names.lookup x = some .local)
    (hsw : swapsWith (.ListComp elt [⟨tg, iter, ifs, 0⟩] sc pos) (some (.Name x pos')) pos2.line X.env = pure true := by rfl) (hs : ∀ x, foldedSetIterable iter X.env x = pure x := by intro _; rfl) :
    PuS X (.Assign [.Name x pos'] (.ListComp elt [⟨tg, iter, ifs, 0⟩] sc pos) pos2) (pSet i (pComp k js ti g tt te)) where
  mono := pSet_mono (pu_comp (pos := pos) hc S nd hloc hi B hs)
  run := PS.weak (ps_comp hc S hi.run B.blk hN hx hk hsw hs) fun D σ H h => by
    have q := set_lift (pu_comp (pos := pos) hc S nd hloc hi B hs) h
    exact comp_lift nd hloc hi B q
end
end PL

set_option Elab.async false
set_option linter.all false
set_option maxRecDepth 100000
set_option maxHeartbeats 4000000
namespace PL
open PySem PySem.Spec L2
open PyProof.Rows hiding St

/-! ### a def, by its body -/
def startP (N : List Str) (ds : List PV) : PEnv := ds.map (fun d => some (d, false)) ++ List.replicate (N.length - ds.length) none
def retOut (Q : PV → Kd → Prop) : POut := ⟨fun _ => Q .non .frz, Q, fun _ => False, fun _ => False⟩
theorem spP_len {K : PySem.W.Frag} {F : PF} {ps : List Str} (h : ∀ ds Q, F ds Q → ds.length = ps.length) : ∀ vs H Q E, spP K F vs H Q E → vs.length = ps.length := fun vs H Q E ⟨Fz, ds, _, hd, q⟩ => by rw [← hd.length]; exact h _ _ q
theorem start_rel {K : PySem.W.Frag} {Fz : FZ} {H : Hp} {N : List Str} {ds : List PV} {vs : List V} (al : ∀ b, Fz b → H b ≠ none) (h : DenL K Fz H ds vs) : Rel K Fz (startP N ds) (start N vs) H ∧ ∀ σ b, ¬ Owned (startP N ds) σ b := by
  have hl := h.length
  have get : ∀ (i : Nat) (d : PV) (b : Bool), (startP N ds)[i]? = some (some (d, b)) → b = false ∧ ds[i]? = some d := fun i d b e => by
    unfold startP at e
    by_cases hi : i < ds.length
    · rw [List.getElem?_append_left (by simpa using hi), List.getElem?_map, List.getElem?_eq_getElem hi] at e
      have e' : (some (ds[i], false) : Option (PV × Bool)) = some (d, b) := Option.some.inj e
      have e2 := Option.some.inj e'
      exact ⟨(congrArg Prod.snd e2).symm, by rw [List.getElem?_eq_getElem hi]; exact congrArg some (congrArg Prod.fst e2)⟩
    · rw [List.getElem?_append_right (by simpa using hi), List.getElem?_replicate] at e
      split at e <;> cases e
  refine ⟨⟨al, by unfold startP L2.start; simp [hl], fun i d e => ?_, fun i d e => ?_, fun i j d e a h1 => ?_⟩, fun σ b ⟨i, d, e, _⟩ => ?_⟩
  · obtain ⟨_, e'⟩ := get i d false e
    obtain ⟨v, q1, q2⟩ := h.get e'
    have hi : i < vs.length := (List.getElem?_eq_some_iff.mp q1).1
    refine ⟨v, ?_, q2⟩
    unfold L2.start
    rw [List.getElem?_append_left (by simpa using hi), List.getElem?_map, q1]
    rfl
  · exact absurd (get i d true e).1 (by decide)
  · exact absurd (get i d true h1).1 (by decide)
  · exact absurd (get i d true e).1 (by decide)
section
variable {P : Program} {w : World} {K : PySem.W.Frag} {mg : Str → Option Value} {base : Heap}
theorem fn_pure {x qual : Str} {st : Stmt} {f : Addr} {fd : FuncData} {N ps : List Str} {k : Nat} {F : PF} (Fn : Fun K x qual st f fd) (S : FnScope N ps (defScope st)) (len : ∀ ds Q, F ds Q → ds.length = ps.length)
    (hbody : ∀ (cdv : Value) (A : Around) (outer : List Env) (s : Shared) (H : Hp) (E : XK), Room k (A.deeper (envOfC qual (defScope st) s.heap.objs.size f cdv)) →
      ∃ t, PuSs (cxOf CX0 P w K mg base N qual (defScope st) f cdv A outer s H E).nox (defBody st) t ∧ ∀ ds Q, F ds Q → t (startP N ds) (retOut Q)) : FnOk P w K mg base CX0 (k + 1) f fd ps (spP K F) := by
  refine Fn.ok S (spP_len len) (fun cdv A outer s H vs Q E hr h => ?_)
  obtain ⟨t, ht, hq⟩ := hbody cdv A outer s H E hr
  obtain ⟨Fz, ds, al, hd, h⟩ := h
  obtain ⟨R, no⟩ := start_rel (N := N) al hd
  refine ⟨_, ht.run, startP N ds, Fz, R, ht.mono _ (retOut _) _ ⟨fun ρ' q σ' F' H' s' o' R' => ?_, fun d k q v F' H' s' al' r => ?_, fun _ z => z.elim, fun _ z => z.elim⟩ (hq ds _ h)⟩
  · exact q .non F' H' ⟨⟨fun b o e => s'.keep b o e (no _ b), s'.sub, fun b hb => (s'.new b hb).elim .inl (fun z => z.elim .inr (fun z => (no _ b z).elim)), R'.al⟩, by show Den _ _ _ _ _; simp only [Den]⟩
  · refine q v F' H' ⟨⟨fun b o e => s'.keep b o e (no _ b), s'.sub, fun b hb => (s'.new b hb).elim .inl (fun z => z.elim .inr (fun z => (no _ b z).elim)), al'⟩, ?_⟩
    cases k with
    | frz => exact r
    | own i => exact r.elim
    | new =>
      obtain ⟨a, e, nf, o, w⟩ := r
      exact ⟨a, e, w.resolve_left (no _ a), nf, o⟩
end

/-! ### what is a name's own changes -/
theorem Rel.mut {K : PySem.W.Frag} {Fz : FZ} {ρ : PEnv} {σ : St} {H : Hp} {i : Nat} {d d' : PV} {a : Addr} {o u : HO} (R : Rel K Fz ρ σ H) (hi : ρ[i]? = some (some (d, true))) (hs : σ[i]? = some (some (.ref a))) (hu : H a = some u)
    (ho : Own K Fz (upd H a o) d' a) : Rel K Fz (ρ.set i (some (d', true))) σ (upd H a o) ∧ Step ρ σ Fz H Fz (upd H a o) ∧ OwnIn ρ σ H (ρ.set i (some (d', true))) σ := by
  obtain ⟨a', e', nf, ow⟩ := R.own i d hi
  rw [hs] at e'; cases e'
  have hil : i < ρ.length := (List.getElem?_eq_some_iff.mp hi).1
  have im : ¬ Imm u := by obtain ⟨o', q1, q2⟩ := ow.at; rw [hu] at q1; cases q1; exact q2
  have kp : Keep Fz H (upd H a o) := fun b w e hw => by
    have ne : b ≠ a := fun z => by
      subst z
      rcases hw with hw | hw
      · exact nf hw
      · rw [hu] at e; cases e; exact im hw
    rw [upd_ne ne]; exact e
  have st : ∀ j e, (ρ.set i (some (d', true)))[j]? = some (some (e, true)) → ∃ e0, ρ[j]? = some (some (e0, true)) := fun j e h => by
    by_cases hij : i = j
    · subst hij; exact ⟨d, hi⟩
    · rw [List.getElem?_set_ne hij] at h; exact ⟨e, h⟩
  refine ⟨⟨fun b hb => ?_, by rw [List.length_set]; exact R.len, fun j e h => ?_, fun j e h => ?_, fun j k e1 e2 b h1 h2 h3 h4 => ?_⟩, ⟨fun _ h => h, fun _ h => .inl h, fun b w e n => ?_⟩, fun b ⟨j, e, h1, h2⟩ => ?_⟩
  · have ne : b ≠ a := fun z => by subst z; exact nf hb
    rw [upd_ne ne]; exact R.al b hb
  · by_cases hij : i = j
    · subst hij; rw [List.getElem?_set_self hil] at h; cases h
    · rw [List.getElem?_set_ne hij] at h
      obtain ⟨v, q1, q2⟩ := R.frz j e h
      exact ⟨v, q1, Den.mono kp (fun _ h => h) _ _ q2⟩
  · by_cases hij : i = j
    · subst hij; rw [List.getElem?_set_self hil] at h; cases h
      exact ⟨a, hs, nf, ho⟩
    · rw [List.getElem?_set_ne hij] at h
      obtain ⟨b, q1, q2, q3⟩ := R.own j e h
      refine ⟨b, q1, q2, q3.mono kp (fun _ h => h) fun w hw => ?_⟩
      have ne : b ≠ a := fun z => by subst z; exact hij (R.inj i j d e _ hi h hs q1)
      rw [upd_ne ne]; exact hw
  · obtain ⟨e1', g1⟩ := st j e1 h1
    obtain ⟨e2', g2⟩ := st k e2 h2
    exact R.inj j k e1' e2' b g1 g2 h3 h4
  · have ne : b ≠ a := fun z => by subst z; exact n ⟨i, d, hi, hs⟩
    rw [upd_ne ne]; exact e
  · obtain ⟨e', g⟩ := st j e h1
    exact .inl ⟨j, e', g, h2⟩
/-! expressions that change a name's own thing -/
abbrev TPM := PEnv → (PV → PEnv → Prop) → Prop
def liftM (K : PySem.W.Frag) (t : TPM) : TE := fun σ H Q => ∃ ρ Fz, Rel K Fz ρ σ H ∧ t ρ fun d ρ' => ∀ v Fz' H', Step ρ σ Fz H Fz' H' → OwnIn ρ σ H ρ' σ → Rel K Fz' ρ' σ H' → Den K Fz' H' d v → Q v H'
structure PuM (X : Cx) (e : Expr) (t : TPM) : Prop where
  mono : ∀ ρ Q Q', (∀ d ρ, Q d ρ → Q' d ρ) → t ρ Q → t ρ Q'
  run : PE X e (liftM X.K t)
/-- x.append(e), x.append(m) -/
def mApp (i : Nat) (te : TPE) : TPM := fun ρ Q => ∃ ds, ρ[i]? = some (some (.lst ds, true)) ∧ ds.length < sizeLine ∧ te ρ fun d k => isOwn k = false ∧ Q .non (ρ.set i (some (.lst (ds ++ [d]), true)))
def mAppM (i : Nat) (te : TPM) : TPM := fun ρ Q => ∃ ds0, ρ[i]? = some (some (.lst ds0, true)) ∧ te ρ fun d ρ' => ∃ ds, ρ'[i]? = some (some (.lst ds, true)) ∧ ds.length < sizeLine ∧ Q .non (ρ'.set i (some (.lst (ds ++ [d]), true)))
def mPopAt (i : Nat) (te : TPE) : TPM := fun ρ Q => ∃ ds, ρ[i]? = some (some (.lst ds, true)) ∧ te ρ fun e _ => ∃ (j : Int) (k : Nat) (d : PV), e = .int j ∧ -(2 ^ 63) ≤ j ∧ j < 2 ^ 63 ∧ seqIndex? j ds.length = some k ∧ ds[k]? = some d ∧ Q d (ρ.set i (some (.lst (ds.eraseIdx k), true)))
def mPop (i : Nat) : TPM := fun ρ Q => ∃ ds d, ρ[i]? = some (some (.lst ds, true)) ∧ ds[ds.length - 1]? = some d ∧ Q d (ρ.set i (some (.lst ds.dropLast, true)))
def mExtT (i : Nat) (te : TPE) : TPM := fun ρ Q => ∃ ds, ρ[i]? = some (some (.lst ds, true)) ∧ te ρ fun d _ => ∃ es, d = .tup es ∧ ds.length + es.length ≤ sizeLine ∧ Q .non (ρ.set i (some (.lst (ds ++ es), true)))
theorem own_lst {K : PySem.W.Frag} {Fz : FZ} {ρ : PEnv} {σ : St} {H : Hp} {i : Nat} {ds : List PV} (R : Rel K Fz ρ σ H) (h : ρ[i]? = some (some (.lst ds, true))) : ∃ a xs, σ[i]? = some (some (.ref a)) ∧ H a = some (.lst xs) ∧ DenL K Fz H ds xs ∧ ¬ Fz a := by
  obtain ⟨a, e, nf, xs, h1, h2⟩ := R.own i _ h
  exact ⟨a, xs, e, h1, h2, nf⟩
theorem DenL.dropLast {K : PySem.W.Frag} {Fz : FZ} {H : Hp} {ds : List PV} {xs : List V} (h : DenL K Fz H ds xs) : DenL K Fz H ds.dropLast xs.dropLast := by
  have hl := h.length
  rw [List.dropLast_eq_take, List.dropLast_eq_take, hl]
  exact h.take _
/-- the rest of a list that is a name's own stays as it is denoted, when the list is rewritten -/
theorem DenL.rew {K : PySem.W.Frag} {Fz : FZ} {H : Hp} {ds : List PV} {xs ys : List V} {a : Addr} {o : HO} (ha : H a = some (.lst ys)) (nf : ¬ Fz a) (h : DenL K Fz H ds xs) : DenL K Fz (upd H a o) ds xs :=
  DenL.mono (fun b w e hw => by
    have ne : b ≠ a := fun z => by
      subst z
      rcases hw with hw | hw
      · exact nf hw
      · rw [ha] at e; cases e; exact hw
    rw [upd_ne ne]; exact e) (fun _ h => h) _ _ h
section
variable {X : Cx} {x : Str} {e : Expr} {te : TPE} {tm : TPM} {p apos cpos : Pos}
theorem pum_append (i : Nat) (he : PuE X e te) (hN : X.N[i]? = some x := by rfl) (hv : Vis X.env.scope x := by first | exact Or.inl rfl | exact Or.inr (Or.inl rfl) | exact Or.inr (Or.inr rfl)) (hd : (x == ("__debug__" : Str)) = false := by decide) (hcd : (x == ("__classdict__" : Str)) = false := by decide)
    (hbase : attributeBase (.Name x p) "append" X.env (eval (.Name x p) X.env) = eval (.Name x p) X.env := by rfl)
    (hfew : ((backTo cpos (starEach [e] X.env)).all (fun x => !x.1) && (backToKw cpos (keywordEach [] X.env)).all (fun x => x.1.isSome) && decide ([e].length + ([] : List Keyword).length + (if ([] : List Keyword).isEmpty then 0 else 1) < 30)) = true := by rfl)
    (hline : (apos.endLine == cpos.line) = true := by rfl) (hs : starEach [e] X.env = (false, eval e X.env) :: starEach [] X.env := by rfl) (hplain : (backTo cpos (starEach [] X.env)).any (·.1) = false := by rfl) : PuM X (.Call (.Attribute (.Name x p) "append" apos) [e] [] cpos) (mApp i te) where
  mono ρ Q Q' m h := by
    obtain ⟨ds, e1, e2, h⟩ := h
    exact ⟨ds, e1, e2, he.mono ρ _ _ (fun d k ⟨hk, q⟩ => ⟨hk, m _ _ q⟩) h⟩
  run := PE.weak (pe_bm PySem.F.plainAttrs_list PySem.F.slot_list_append PySem.F.type_list_append mt_append (pe_var hN hv hd hcd) (pa_cons he.run pa_nil hs) hbase hfew hline hs hplain) fun σ H Q h => by
    obtain ⟨ρ, Fz, R, ds, e1, e2, h⟩ := h
    obtain ⟨a, xs, hs, ha, hd, nf⟩ := own_lst R e1
    refine ⟨_, hs, .inl ⟨rfl, xs, SqL.of ha⟩, ρ, Fz, R, he.mono ρ _ _ (fun d k q v F1 H1 p1 => ?_) h⟩
    obtain ⟨hk, q⟩ := q
    have hk' : k = .frz ∨ k = .new := by
      cases k with
      | frz => exact .inl rfl
      | new => exact .inr rfl
      | own j => cases hk
    obtain ⟨F2, x2, s2, d2⟩ := p1.frozen hk'
    have R2 := R.ext x2
    obtain ⟨a', xs', hs', ha', hd', nf'⟩ := own_lst R2 e1
    rw [hs] at hs'; cases hs'
    have hl := hd'.length
    refine ⟨a, xs', v, rfl, rfl, ha', by omega, ?_⟩
    have ow : Own X.K F2 (upd H1 a (.lst (xs' ++ [v]))) (.lst (ds ++ [d])) a := ⟨_, upd_same, (DenL.rew ha' nf' (DenL.snoc hd' d2))⟩
    obtain ⟨R3, s3, o3⟩ := R2.mut e1 hs ha' ow
    exact q .non F2 _ ((Step.of x2).trans (OwnIn.refl ρ σ H) s3) (OwnIn.trans (Step.of x2) (OwnIn.refl ρ σ H) o3) R3 (by simp only [Den])
theorem pum_appendM (i : Nat) (he : PuM X e tm) (hN : X.N[i]? = some x := by rfl) (hv : Vis X.env.scope x := by first | exact Or.inl rfl | exact Or.inr (Or.inl rfl) | exact Or.inr (Or.inr rfl)) (hd : (x == ("__debug__" : Str)) = false := by decide) (hcd : (x == ("__classdict__" : Str)) = false := by decide)
    (hbase : attributeBase (.Name x p) "append" X.env (eval (.Name x p) X.env) = eval (.Name x p) X.env := by rfl)
    (hfew : ((backTo cpos (starEach [e] X.env)).all (fun x => !x.1) && (backToKw cpos (keywordEach [] X.env)).all (fun x => x.1.isSome) && decide ([e].length + ([] : List Keyword).length + (if ([] : List Keyword).isEmpty then 0 else 1) < 30)) = true := by rfl)
    (hline : (apos.endLine == cpos.line) = true := by rfl) (hs : starEach [e] X.env = (false, eval e X.env) :: starEach [] X.env := by rfl) (hplain : (backTo cpos (starEach [] X.env)).any (·.1) = false := by rfl) : PuM X (.Call (.Attribute (.Name x p) "append" apos) [e] [] cpos) (mAppM i tm) where
  mono ρ Q Q' m h := by
    obtain ⟨ds0, e0, h⟩ := h
    exact ⟨ds0, e0, he.mono ρ _ _ (fun d ρ' ⟨ds, e1, e2, q⟩ => ⟨ds, e1, e2, m _ _ q⟩) h⟩
  run := PE.weak (pe_bm PySem.F.plainAttrs_list PySem.F.slot_list_append PySem.F.type_list_append mt_append (pe_var hN hv hd hcd) (pa_cons he.run pa_nil hs) hbase hfew hline hs hplain) fun σ H Q h => by
    obtain ⟨ρ, Fz, R, ds0, e0, h⟩ := h
    obtain ⟨a, xs, hs, ha, hd, nf⟩ := own_lst R e0
    refine ⟨_, hs, .inl ⟨rfl, xs, SqL.of ha⟩, ρ, Fz, R, he.mono ρ _ _ (fun d ρ1 q v F1 H1 s1 o1 R1 d1 => ?_) h⟩
    obtain ⟨ds, e1, e2, q⟩ := q
    obtain ⟨a', xs', hs', ha', hd', nf'⟩ := own_lst R1 e1
    rw [hs] at hs'; cases hs'
    have hl := hd'.length
    refine ⟨a, xs', v, rfl, rfl, ha', by omega, ?_⟩
    have ow : Own X.K F1 (upd H1 a (.lst (xs' ++ [v]))) (.lst (ds ++ [d])) a := ⟨_, upd_same, (DenL.rew ha' nf' (DenL.snoc hd' d1))⟩
    obtain ⟨R3, s3, o3⟩ := R1.mut e1 hs ha' ow
    exact q .non F1 _ (s1.trans o1 s3) (OwnIn.trans s1 o1 o3) R3 (by simp only [Den])
theorem pum_popAt (i : Nat) (he : PuE X e te) (hN : X.N[i]? = some x := by rfl) (hv : Vis X.env.scope x := by first | exact Or.inl rfl | exact Or.inr (Or.inl rfl) | exact Or.inr (Or.inr rfl)) (hd : (x == ("__debug__" : Str)) = false := by decide) (hcd : (x == ("__classdict__" : Str)) = false := by decide)
    (hbase : attributeBase (.Name x p) "pop" X.env (eval (.Name x p) X.env) = eval (.Name x p) X.env := by rfl)
    (hfew : ((backTo cpos (starEach [e] X.env)).all (fun x => !x.1) && (backToKw cpos (keywordEach [] X.env)).all (fun x => x.1.isSome) && decide ([e].length + ([] : List Keyword).length + (if ([] : List Keyword).isEmpty then 0 else 1) < 30)) = true := by rfl)
    (hline : (apos.endLine == cpos.line) = true := by rfl) (hs : starEach [e] X.env = (false, eval e X.env) :: starEach [] X.env := by rfl) (hplain : (backTo cpos (starEach [] X.env)).any (·.1) = false := by rfl) : PuM X (.Call (.Attribute (.Name x p) "pop" apos) [e] [] cpos) (mPopAt i te) where
  mono ρ Q Q' m h := by
    obtain ⟨ds, e1, h⟩ := h
    exact ⟨ds, e1, he.mono ρ _ _ (fun d _ ⟨j, k, c, q1, q2, q3, q4, q5, q⟩ => ⟨j, k, c, q1, q2, q3, q4, q5, m _ _ q⟩) h⟩
  run := PE.weak (pe_bm PySem.F.plainAttrs_list PySem.F.slot_list_pop PySem.F.type_list_pop mt_popAt (pe_var hN hv hd hcd) (pa_cons he.run pa_nil hs) hbase hfew hline hs hplain) fun σ H Q h => by
    obtain ⟨ρ, Fz, R, ds, e1, h⟩ := h
    obtain ⟨a, xs, hs, ha, hd, nf⟩ := own_lst R e1
    refine ⟨_, hs, .inl ⟨rfl, xs, SqL.of ha⟩, ρ, Fz, R, he.mono ρ _ _ (fun d k q v F1 H1 p1 => ?_) h⟩
    obtain ⟨j, k, c, rfl, q2, q3, q4, q5, q⟩ := q
    have R2 := R.ext p1.ext
    obtain ⟨a', xs', hs', ha', hd', nf'⟩ := own_lst R2 e1
    rw [hs] at hs'; cases hs'
    have hl := hd'.length
    obtain ⟨y, y1, y2⟩ := hd'.get q5
    refine ⟨a, xs', j, k, y, rfl, by rw [root_int (p1.root R)], ha', q2, q3, by rw [← hl]; exact q4, y1, ?_⟩
    have ow : Own X.K F1 (upd H1 a (.lst (xs'.eraseIdx k))) (.lst (ds.eraseIdx k)) a := ⟨_, upd_same, (DenL.rew ha' nf' (DenL.eraseIdx k hd'))⟩
    obtain ⟨R3, s3, o3⟩ := R2.mut e1 hs ha' ow
    refine q y F1 _ ((Step.of p1.ext).trans (OwnIn.refl ρ σ H) s3) (OwnIn.trans (Step.of p1.ext) (OwnIn.refl ρ σ H) o3) R3 ?_
    have := DenL.rew (o := .lst (xs'.eraseIdx k)) ha' nf' (DenL.cons y2 DenL.nil)
    simp only [DenL] at this
    obtain ⟨v', r', e', g1, _⟩ := this
    cases e'
    exact g1
theorem pum_extT (i : Nat) (he : PuE X e te) (hN : X.N[i]? = some x := by rfl) (hv : Vis X.env.scope x := by first | exact Or.inl rfl | exact Or.inr (Or.inl rfl) | exact Or.inr (Or.inr rfl)) (hd : (x == ("__debug__" : Str)) = false := by decide) (hcd : (x == ("__classdict__" : Str)) = false := by decide)
    (hbase : attributeBase (.Name x p) "extend" X.env (eval (.Name x p) X.env) = eval (.Name x p) X.env := by rfl)
    (hfew : ((backTo cpos (starEach [e] X.env)).all (fun x => !x.1) && (backToKw cpos (keywordEach [] X.env)).all (fun x => x.1.isSome) && decide ([e].length + ([] : List Keyword).length + (if ([] : List Keyword).isEmpty then 0 else 1) < 30)) = true := by rfl)
    (hline : (apos.endLine == cpos.line) = true := by rfl) (hs : starEach [e] X.env = (false, eval e X.env) :: starEach [] X.env := by rfl) (hplain : (backTo cpos (starEach [] X.env)).any (·.1) = false := by rfl) : PuM X (.Call (.Attribute (.Name x p) "extend" apos) [e] [] cpos) (mExtT i te) where
  mono ρ Q Q' m h := by
    obtain ⟨ds, e1, h⟩ := h
    exact ⟨ds, e1, he.mono ρ _ _ (fun d _ ⟨es, q1, q2, q⟩ => ⟨es, q1, q2, m _ _ q⟩) h⟩
  run := PE.weak (pe_bm PySem.F.plainAttrs_list PySem.F.slot_list_extend PySem.F.type_list_extend mt_extT (pe_var hN hv hd hcd) (pa_cons he.run pa_nil hs) hbase hfew hline hs hplain) fun σ H Q h => by
    obtain ⟨ρ, Fz, R, ds, e1, h⟩ := h
    obtain ⟨a, xs, hs, ha, hd, nf⟩ := own_lst R e1
    refine ⟨_, hs, .inl ⟨rfl, xs, SqL.of ha⟩, ρ, Fz, R, he.mono ρ _ _ (fun d k q v F1 H1 p1 => ?_) h⟩
    obtain ⟨es, rfl, q2, q⟩ := q
    have R2 := R.ext p1.ext
    obtain ⟨a', xs', hs', ha', hd', nf'⟩ := own_lst R2 e1
    rw [hs] at hs'; cases hs'
    obtain ⟨b, zs, rfl, hb, hz⟩ := root_tup (p1.root R)
    have hl := hd'.length
    have hl2 := hz.length
    refine ⟨a, b, xs', zs, rfl, rfl, ha', hb, by omega, ?_⟩
    have ow : Own X.K F1 (upd H1 a (.lst (xs' ++ zs))) (.lst (ds ++ es)) a := ⟨_, upd_same, (DenL.rew ha' nf' (hd'.append hz))⟩
    obtain ⟨R3, s3, o3⟩ := R2.mut e1 hs ha' ow
    exact q .non F1 _ ((Step.of p1.ext).trans (OwnIn.refl ρ σ H) s3) (OwnIn.trans (Step.of p1.ext) (OwnIn.refl ρ σ H) o3) R3 (by simp only [Den])
/-- m as a statement; name = m -/
def pDropM (tm : TPM) : TPS := fun ρ O => tm ρ fun _ ρ' => O.nx ρ'
def pSetM (i : Nat) (tm : TPM) : TPS := fun ρ O => tm ρ fun d ρ' => O.nx (ρ'.set i (some (d, false)))
variable {pos : Pos}
theorem pus_exprM (he : PuM X e tm) (hs : swapsWith e none pos.line X.env = pure false := by rfl) : PuS X (.Expr e pos) (pDropM tm) where
  mono ρ O O' m h := he.mono ρ _ _ (fun _ _ q => m.nx _ q) h
  run := PS.weak (ps_expr he.run hs) fun D σ H h => by
    obtain ⟨ρ, Fz, R, h⟩ := h
    exact ⟨ρ, Fz, R, he.mono ρ _ _ (fun d ρ' q v F' H' s' o' R' _ => q σ F' H' s' o' R') h⟩
theorem pus_setM {i : Nat} {y : Str} {pos' : Pos} (hN : X.N.Nodup) (hi : X.N[i]? = some y) (hx : Loc X.env.scope y) (he : PuM X e tm) (hs : swapsWith e (some (.Name y pos')) pos.line X.env = pure false := by rfl) (hf : X.fn y = true ∨ X.env.scope.names.lookup y = some .local := by first | exact .inl rfl | exact .inr rfl | assumption) :
    PuS X (.Assign [.Name y pos'] e pos) (pSetM i tm) where
  mono ρ O O' m h := he.mono ρ _ _ (fun _ _ q => m.nx _ q) h
  run := PS.weak (ps_set hN hi hx he.run hs hf) fun D σ H h => by
    obtain ⟨ρ, Fz, R, h⟩ := h
    exact ⟨ρ, Fz, R, he.mono ρ _ _ (fun d ρ' q v F' H' s' o' R' dn => q _ F' H' s' (fun b hb => o' b (own_set b hb)) (R'.set dn)) h⟩
end
end PL

set_option Elab.async false
set_option linter.all false
set_option maxRecDepth 100000
set_option maxHeartbeats 4000000
namespace PL
open PySem PySem.Spec L2
open PyProof.Rows hiding St

/-! ### items -/
theorem atI_den {K : PySem.W.Frag} {Fz : FZ} {H : Hp} {ds : List PV} {xs : List V} {i : Int} {d : PV} (h : DenL K Fz H ds xs) (e : atI ds i = some d) : ∃ v, atI xs i = some v ∧ Den K Fz H d v := by
  unfold atI at e ⊢
  rw [← h.length]
  cases q : ixN ds.length i with
  | none => rw [q] at e; cases e
  | some j =>
    rw [q] at e
    obtain ⟨v, h1, h2⟩ := h.get (i := j) (d := d) e
    exact ⟨v, h1, h2⟩
/-- xs[i], t[i], text[i] -/
def pIx : P2 := fun d e Q => (∃ ds i x, (d = .lst ds ∨ d = .tup ds) ∧ e = .int i ∧ atI ds i = some x ∧ Q x .frz) ∨ ∃ z i c, d = .str z ∧ e = .int i ∧ z.length ≤ sizeLine ∧ atI z.cps.toList i = some c ∧ Q (.str ⟨#[c]⟩) .frz
theorem po_ix {K : PySem.W.Frag} : POp K (rIx K) pIx where
  mono d e Q Q' m h := by
    rcases h with ⟨ds, i, x, e1, e2, e3, q⟩ | ⟨z, i, c, e1, e2, e3, e4, q⟩
    · exact .inl ⟨ds, i, x, e1, e2, e3, m _ _ q⟩
    · exact .inr ⟨z, i, c, e1, e2, e3, e4, m _ _ q⟩
  run Fz H x y d e Q al rx ry h := by
    rcases h with ⟨ds, i, x', e1, rfl, e3, q⟩ | ⟨z, i, c, rfl, rfl, e3, e4, q⟩
    · rcases e1 with rfl | rfl
      · obtain ⟨a, xs, rfl, h1, h2⟩ := root_lst rx
        obtain ⟨v, g1, g2⟩ := atI_den h2 e3
        exact .inl ⟨a, xs, i, v, rfl, root_int ry, h1, g1, q v Fz H (.val al g2)⟩
      · obtain ⟨a, xs, rfl, h1, h2⟩ := root_tup rx
        obtain ⟨v, g1, g2⟩ := atI_den h2 e3
        exact .inr (.inl ⟨a, xs, i, v, rfl, root_int ry, h1, g1, q v Fz H (.val al g2)⟩)
    · exact .inr (.inr ⟨z, i, c, root_str rx, root_int ry, e3, e4, q _ Fz H (.val al (by simp only [Den]))⟩)
section
variable {X : Cx} {a b : Expr} {ta tb : TPE} {pos : Pos}
theorem pu_item (ha : PuE X a ta) (hb : PuE X b tb) (hs : PlainIx b := by exact fun _ _ => rfl) : PuE X (.Subscript a b pos) (t2 pIx ta tb) := pu_ix ix_seq po_ix ha hb hs
/-! ### == of any plain data -/
theorem pu_eq (hu : X.A.units + 16 < cLine) (ha : PuE X a ta) (hb : PuE X b tb) (hm : behindInMarks .Eq b = false := by first | exact nomark _ | rfl) : PuE X (.Compare a [.Eq] [b] pos) (t2 (pEq false) ta tb) := pu_cmp (op_eqP hu) po_eqP ha hb hm
theorem pu_ne (hu : X.A.units + 16 < cLine) (ha : PuE X a ta) (hb : PuE X b tb) (hm : behindInMarks .NotEq b = false := by first | exact nomark _ | rfl) : PuE X (.Compare a [.NotEq] [b] pos) (t2 (pEq true) ta tb) := pu_cmp (op_neP hu) po_eqP ha hb hm
theorem put_eq (hu : X.A.units + 16 < cLine) (ha : PuE X a ta) (hb : PuE X b tb) (hm : behindInMarks .Eq b = false := by first | exact nomark _ | rfl) : PuT X (.Compare a [.Eq] [b] pos) (tBl (t2 (pEq false) ta tb)) := put_cmp (op_eqP hu) po_eqP ha hb hm
theorem put_ne (hu : X.A.units + 16 < cLine) (ha : PuE X a ta) (hb : PuE X b tb) (hm : behindInMarks .NotEq b = false := by first | exact nomark _ | rfl) : PuT X (.Compare a [.NotEq] [b] pos) (tBl (t2 (pEq true) ta tb)) := put_cmp (op_neP hu) po_eqP ha hb hm
theorem put_lt (ha : PuE X a ta) (hb : PuE X b tb) (hm : behindInMarks .Lt b = false := by first | exact nomark _ | rfl) : PuT X (.Compare a [.Lt] [b] pos) (tBl (pLt ta tb)) := put_cmp op_lt po_bool0 ha hb hm
theorem put_le (ha : PuE X a ta) (hb : PuE X b tb) (hm : behindInMarks .LtE b = false := by first | exact nomark _ | rfl) : PuT X (.Compare a [.LtE] [b] pos) (tBl (pLe ta tb)) := put_cmp op_le po_bool0 ha hb hm
theorem put_gt (ha : PuE X a ta) (hb : PuE X b tb) (hm : behindInMarks .Gt b = false := by first | exact nomark _ | rfl) : PuT X (.Compare a [.Gt] [b] pos) (tBl (pGt ta tb)) := put_cmp op_gt po_bool0 ha hb hm
theorem put_ge (ha : PuE X a ta) (hb : PuE X b tb) (hm : behindInMarks .GtE b = false := by first | exact nomark _ | rfl) : PuT X (.Compare a [.GtE] [b] pos) (tBl (pGe ta tb)) := put_cmp op_ge po_bool0 ha hb hm
theorem pu_lt (ha : PuE X a ta) (hb : PuE X b tb) (hm : behindInMarks .Lt b = false := by first | exact nomark _ | rfl) : PuE X (.Compare a [.Lt] [b] pos) (pLt ta tb) := pu_cmp op_lt po_bool0 ha hb hm
theorem pu_le (ha : PuE X a ta) (hb : PuE X b tb) (hm : behindInMarks .LtE b = false := by first | exact nomark _ | rfl) : PuE X (.Compare a [.LtE] [b] pos) (pLe ta tb) := pu_cmp op_le po_bool0 ha hb hm
theorem pu_gt (ha : PuE X a ta) (hb : PuE X b tb) (hm : behindInMarks .Gt b = false := by first | exact nomark _ | rfl) : PuE X (.Compare a [.Gt] [b] pos) (pGt ta tb) := pu_cmp op_gt po_bool0 ha hb hm
theorem pu_ge (ha : PuE X a ta) (hb : PuE X b tb) (hm : behindInMarks .GtE b = false := by first | exact nomark _ | rfl) : PuE X (.Compare a [.GtE] [b] pos) (pGe ta tb) := pu_cmp op_ge po_bool0 ha hb hm
end

/-! ### in, not in: plain data in a list or a tuple -/
def rInP (K : PySem.W.Frag) (neg : Bool) : R2 := fun x y H Q => ∃ Fz d ds p xs, Root K Fz H d x ∧ y = .ref p ∧ (SqL K H p xs ∨ SqT K H p xs) ∧ DenL K Fz H ds xs ∧ plain 6 d = true ∧ ds.all (plain 6) = true ∧ Q (.bl (if neg then !decide (d ∈ ds) else decide (d ∈ ds))) H
def pIn (neg : Bool) : P2 := fun d e Q => ∃ ds, (e = .lst ds ∨ e = .tup ds) ∧ plain 6 d = true ∧ ds.all (plain 6) = true ∧ Q (.bl (if neg then !decide (d ∈ ds) else decide (d ∈ ds))) .frz
theorem po_in {K : PySem.W.Frag} {neg : Bool} : POp K (rInP K neg) (pIn neg) where
  mono d e Q Q' m h := by obtain ⟨ds, e1, e2, e3, q⟩ := h; exact ⟨ds, e1, e2, e3, m _ _ q⟩
  run Fz H x y d e Q al rx ry h := by
    obtain ⟨ds, e1, e2, e3, q⟩ := h
    rcases e1 with rfl | rfl
    · obtain ⟨a, xs, rfl, h1, h2⟩ := root_lst ry
      exact ⟨Fz, d, ds, a, xs, rx, rfl, .inl h1, h2, e2, e3, q _ Fz H (.val al (by simp only [Den]))⟩
    · obtain ⟨a, xs, rfl, h1, h2⟩ := root_tup ry
      exact ⟨Fz, d, ds, a, xs, rx, rfl, .inr h1, h2, e2, e3, q _ Fz H (.val al (by simp only [Den]))⟩
noncomputable def dcd (p : Prop) : Bool := @decide p (Classical.propDecidable p)
theorem dcd_true {p : Prop} (h : p) : dcd p = true := @decide_eq_true p (Classical.propDecidable p) h
theorem dcd_false {p : Prop} (h : ¬ p) : dcd p = false := @decide_eq_false p (Classical.propDecidable p) h
theorem dcd_iff {p : Prop} : dcd p = true ↔ p := @decide_eq_true_iff p (Classical.propDecidable p)
section
variable {X : Cx} {pins : List (Addr × Obj)} {σ : St} {H : Hp} {s : Shared} {Fz : FZ}
/-- the items' answers -/
theorem in_items (I : Inv X pins σ H s) {A : Around} (hu : A.units + 16 < cLine) {d : PV} {ds : List PV} {x : V} {xs : List V} {v : Value} {its : List Value} (hx : Root X.K Fz H d x) (rx : RelV x v) (r : Vals xs its) (h : DenL X.K Fz H ds xs) (pd : plain 6 d = true) (ps : ds.all (plain 6) = true) :
    ∃ e : Value → Bool, (∀ y, y ∈ its.toArray → SeqAt.EqAt A.in1 s y v (e y)) ∧ its.toArray.any e = decide (d ∈ ds) := by
  refine ⟨fun u => dcd (∃ j : Nat, its[j]? = some u ∧ ds[j]? = some d), fun u hu' => ?_, ?_⟩
  · obtain ⟨j, hj⟩ := List.mem_iff_getElem?.mp (show u ∈ its by simpa using hu')
    have l1 := r.length
    have l2 := h.length
    have hjl : j < its.length := (List.getElem?_eq_some_iff.mp hj).1
    have e1 : ds[j]? = some ds[j] := List.getElem?_eq_getElem (by omega)
    obtain ⟨y, e2, q2⟩ := h.get e1
    obtain ⟨u', e3, q3⟩ := r.get e2
    rw [hj] at e3; cases e3
    have pj : plain 6 ds[j] = true := List.all_eq_true.mp ps _ (List.getElem_mem _)
    have w : dcd (∃ j' : Nat, its[j']? = some u ∧ ds[j']? = some d) = decide (ds[j] = d) := by
      by_cases hd : ds[j] = d
      · rw [decide_eq_true hd, dcd_true ⟨j, hj, by rw [e1, hd]⟩]
      · rw [decide_eq_false hd]
        refine dcd_false ?_
        rintro ⟨j', g1, g2⟩
        obtain ⟨y', e2', q2'⟩ := h.get g2
        obtain ⟨u', e3', q3'⟩ := r.get e2'
        rw [g1] at e3'; cases e3'
        have ey : y = y' := q3.inj q3'
        subst ey
        exact hd (root_inj I 6 _ _ _ pj pd q2.root q2'.root)
    show SeqAt.EqAt A.in1 s u v (dcd (∃ j' : Nat, its[j']? = some u ∧ ds[j']? = some d))
    rw [w]
    exact (rc_eq I 6 A.in1 ds[j] d y x u v pj pd (by show A.units + 1 + 6 < cLine; omega) q2.root hx q3 rx).2.2
  · have l1 := r.length
    have l2 := h.length
    by_cases hd : d ∈ ds
    · rw [decide_eq_true hd]
      obtain ⟨j, hj⟩ := List.mem_iff_getElem?.mp hd
      have hjl : j < ds.length := (List.getElem?_eq_some_iff.mp hj).1
      rw [Array.any_eq_true]
      refine ⟨j, by simpa using (by omega : j < its.length), ?_⟩
      refine dcd_true ⟨j, ?_, hj⟩
      simp
    · rw [decide_eq_false hd]
      rw [Array.any_eq_false]
      intro i hi
      intro z
      obtain ⟨j, g1, g2⟩ := dcd_iff.mp z
      exact hd (List.mem_of_getElem? g2)
theorem op_inP (hu : X.A.units + 16 < cLine) : OpR X (compareOp .In) (rInP X.K false) := by
  intro pins s σ H x y v u Q I rx ry h
  obtain ⟨Fz, d, ds, p, xs, hx, rfl, hq, hd, p1, p2, q⟩ := h
  cases ry
  rcases hq with hq | hq
  · obtain ⟨its, r, pl, hz⟩ := I.list hq
    obtain ⟨e, h1, h2⟩ := in_items I hu hx rx r hd p1 p2
    exact SeqAt.in_listAt e pl.isList h1 ⟨.bl _, H, I, rfl, by rw [h2]; exact q⟩
  · obtain ⟨its, r, pl, hz⟩ := I.tuple hq
    obtain ⟨e, h1, h2⟩ := in_items I hu hx rx r hd p1 p2
    exact SeqAt.in_tupleAt e pl h1 ⟨.bl _, H, I, rfl, by rw [h2]; exact q⟩
theorem op_notInP (hu : X.A.units + 16 < cLine) : OpR X (compareOp .NotIn) (rInP X.K true) := by
  intro pins s σ H x y v u Q I rx ry h
  obtain ⟨Fz, d, ds, p, xs, hx, rfl, hq, hd, p1, p2, q⟩ := h
  cases ry
  rcases hq with hq | hq
  · obtain ⟨its, r, pl, hz⟩ := I.list hq
    obtain ⟨e, h1, h2⟩ := in_items I hu hx rx r hd p1 p2
    exact SeqAt.notIn_listAt e pl.isList h1 ⟨.bl _, H, I, rfl, by rw [h2]; exact q⟩
  · obtain ⟨its, r, pl, hz⟩ := I.tuple hq
    obtain ⟨e, h1, h2⟩ := in_items I hu hx rx r hd p1 p2
    exact SeqAt.notIn_tupleAt e pl h1 ⟨.bl _, H, I, rfl, by rw [h2]; exact q⟩
variable {a b : Expr} {ta tb : TPE} {pos : Pos}
theorem pu_in (hu : X.A.units + 16 < cLine) (ha : PuE X a ta) (hb : PuE X b tb) (hm : behindInMarks .In b = false := by first | exact nomark _ | rfl) : PuE X (.Compare a [.In] [b] pos) (t2 (pIn false) ta tb) := pu_cmp (op_inP hu) po_in ha hb hm
theorem pu_notIn (hu : X.A.units + 16 < cLine) (ha : PuE X a ta) (hb : PuE X b tb) (hm : behindInMarks .NotIn b = false := by first | exact nomark _ | rfl) : PuE X (.Compare a [.NotIn] [b] pos) (t2 (pIn true) ta tb) := pu_cmp (op_notInP hu) po_in ha hb hm
theorem put_in (hu : X.A.units + 16 < cLine) (ha : PuE X a ta) (hb : PuE X b tb) (hm : behindInMarks .In b = false := by first | exact nomark _ | rfl) : PuT X (.Compare a [.In] [b] pos) (tBl (t2 (pIn false) ta tb)) := put_cmp (op_inP hu) po_in ha hb hm
theorem put_notIn (hu : X.A.units + 16 < cLine) (ha : PuE X a ta) (hb : PuE X b tb) (hm : behindInMarks .NotIn b = false := by first | exact nomark _ | rfl) : PuT X (.Compare a [.NotIn] [b] pos) (tBl (t2 (pIn true) ta tb)) := put_cmp (op_notInP hu) po_in ha hb hm
end
/-! ### is None -/
def pIsN (neg : Bool) : P2 := fun d e Q => e = .non ∧ Q (.bl (if neg then !decide (d = .non) else decide (d = .non))) .frz
theorem root_isN {K : PySem.W.Frag} {Fz : FZ} {H : Hp} {d : PV} {x : V} (r : Root K Fz H d x) : decide (x = V.non) = decide (d = .non) := by
  cases d with
  | non => rw [root_non r]; simp
  | bl b => rw [root_bl r]; simp
  | int b => rw [root_int r]; simp
  | str b => rw [root_str r]; simp
  | tup ds => obtain ⟨a, xs, rfl, _⟩ := root_tup r; simp
  | lst ds => obtain ⟨a, xs, rfl, _⟩ := root_lst r; simp
  | ty n => simp only [Root, Den] at r; rw [r]; simp
  | dK ks ds => simp only [Root] at r; obtain ⟨a, xs, rfl, _⟩ := r; simp
  | dT ks ds => simp only [Root] at r; obtain ⟨a, xs, rfl, _⟩ := r; simp
theorem po_isN {K : PySem.W.Frag} : POp K (fun x y H Q => y = .non ∧ Q (.bl (decide (x = .non))) H) (pIsN false) where
  mono d e Q Q' m h := ⟨h.1, m _ _ h.2⟩
  run Fz H x y d e Q al rx ry h := by
    obtain ⟨rfl, q⟩ := h
    refine ⟨root_non ry, ?_⟩
    rw [root_isN rx]
    exact q _ Fz H (.val al (by simp only [Den]; rfl))
theorem po_notN {K : PySem.W.Frag} : POp K (fun x y H Q => y = .non ∧ Q (.bl (!decide (x = .non))) H) (pIsN true) where
  mono d e Q Q' m h := ⟨h.1, m _ _ h.2⟩
  run Fz H x y d e Q al rx ry h := by
    obtain ⟨rfl, q⟩ := h
    refine ⟨root_non ry, ?_⟩
    rw [root_isN rx]
    exact q _ Fz H (.val al (by simp only [Den]; rfl))
section
variable {X : Cx} {a b : Expr} {ta tb : TPE} {pos : Pos}
theorem pu_isN (ha : PuE X a ta) (hb : PuE X b tb) (hm : behindInMarks .Is b = false := by first | exact nomark _ | rfl) : PuE X (.Compare a [.Is] [b] pos) (t2 (pIsN false) ta tb) := pu_cmp op_isN po_isN ha hb hm
theorem pu_notN (ha : PuE X a ta) (hb : PuE X b tb) (hm : behindInMarks .IsNot b = false := by first | exact nomark _ | rfl) : PuE X (.Compare a [.IsNot] [b] pos) (t2 (pIsN true) ta tb) := pu_cmp op_notN po_notN ha hb hm
theorem put_isN (ha : PuE X a ta) (hb : PuE X b tb) (hm : behindInMarks .Is b = false := by first | exact nomark _ | rfl) : PuT X (.Compare a [.Is] [b] pos) (tBl (t2 (pIsN false) ta tb)) := put_cmp op_isN po_isN ha hb hm
theorem put_notN (ha : PuE X a ta) (hb : PuE X b tb) (hm : behindInMarks .IsNot b = false := by first | exact nomark _ | rfl) : PuT X (.Compare a [.IsNot] [b] pos) (tBl (t2 (pIsN true) ta tb)) := put_cmp op_notN po_notN ha hb hm
end
end PL

set_option Elab.async false
set_option linter.all false
set_option maxRecDepth 100000
set_option maxHeartbeats 4000000
namespace PL
open PySem PySem.Spec L2
open PyProof.Rows hiding St

theorem bList : bootBuiltins "list" = some (.type "list") := by decide +kernel
theorem bTuple : bootBuiltins "tuple" = some (.type "tuple") := by decide +kernel
theorem bSet : bootBuiltins "set" = some (.type "set") := by decide +kernel
theorem bDict : bootBuiltins "dict" = some (.type "dict") := by decide +kernel
theorem bStr : bootBuiltins "str" = some (.type "str") := by decide +kernel
theorem bInt : bootBuiltins "int" = some (.type "int") := by decide +kernel
theorem bBool : bootBuiltins "bool" = some (.type "bool") := by decide +kernel
theorem bLen : bootBuiltins "len" = some (.builtin "len") := by decide +kernel
theorem bSorted : bootBuiltins "sorted" = some (.builtin "sorted") := by decide +kernel
theorem bIsi : bootBuiltins "isinstance" = some (.builtin "isinstance") := by decide +kernel
theorem bMax : bootBuiltins "max" = some (.builtin "max") := by decide +kernel
theorem bMin : bootBuiltins "min" = some (.builtin "min") := by decide +kernel

theorem rootL1 {K : PySem.W.Frag} {Fz : FZ} {H : Hp} {d : PV} {vs : List V} (h : RootL K Fz H [d] vs) : ∃ v, vs = [v] ∧ Root K Fz H d v := by
  cases h with
  | cons r t => cases t; exact ⟨_, rfl, r⟩
theorem rootL2 {K : PySem.W.Frag} {Fz : FZ} {H : Hp} {d e : PV} {vs : List V} (h : RootL K Fz H [d, e] vs) : ∃ v u, vs = [v, u] ∧ Root K Fz H d v ∧ Root K Fz H e u := by
  cases h with
  | cons r t =>
    cases t with
    | cons r2 t => cases t; exact ⟨_, _, rfl, r, r2⟩
/-- a new list of frozen items -/
theorem Post.newL {K : PySem.W.Frag} {Fz : FZ} {H : Hp} {p : Addr} {ds : List PV} {xs : List V} (al : ∀ b, Fz b → H b ≠ none) (hp : H p = none) (h : DenL K Fz H ds xs) : Post K [] [] Fz H Fz (upd H p (.lst xs)) (.lst ds) .new (.ref p) :=
  ⟨Ext.laid ⟨Same.refl H, fun _ h => h, fun _ h => .inl h, al⟩ hp, p, rfl, hp, fun z => al p z hp, xs, upd_same, DenL.mono (Keep.of (fun b u e => by rw [upd_ne (ne_of_none e hp)]; exact e)) (fun _ h => h) _ _ h⟩
theorem Post.newT {K : PySem.W.Frag} {Fz : FZ} {H : Hp} {p : Addr} {ds : List PV} {xs : List V} (al : ∀ b, Fz b → H b ≠ none) (hp : H p = none) (h : DenL K Fz H ds xs) : Post K [] [] Fz H Fz (upd H p (.tup xs)) (.tup ds) .frz (.ref p) := by
  refine ⟨Ext.laid ⟨Same.refl H, fun _ h => h, fun _ h => .inl h, al⟩ hp, ?_⟩
  show Den _ _ _ _ _
  simp only [Den]
  exact ⟨p, xs, rfl, SqT.of upd_same, DenL.mono (Keep.of (fun b u e => by rw [upd_ne (ne_of_none e hp)]; exact e)) (fun _ h => h) _ _ h⟩

/-! ### len -/
def LenP : PV → Nat → Prop
  | .str y, n => y.length ≤ sizeLine ∧ n = y.length
  | .lst ds, n => n = ds.length
  | .tup ds, n => n = ds.length
  | .dK ks _, n => n = ks.length
  | _, _ => False
def fLen : PF := fun ds Q => ∃ d n, ds = [d] ∧ LenP d n ∧ Q (.int n) .frz
def rLen (K : PySem.W.Frag) : List V → Hp → VK → Prop := fun xs H Q => (∃ x n, xs = [x] ∧ LenV K x H n ∧ Q (.int n) H) ∨ ∃ a kvs, xs = [.ref a] ∧ Rd H a (.dK kvs) ∧ Q (.int kvs.length) H
theorem call_lenP {X : Cx} : CallR X (.builtin "len") (rLen X.K) := by
  intro pins s σ H xs us Q I r h
  rcases h with h | ⟨a, kvs, rfl, ha, q⟩
  · exact call_len pins s σ H xs us Q I r h
  · obtain ⟨u, rfl, ru⟩ := vals1 r
    cases ru
    exact d_len I ha fun t s' I' => ⟨.int kvs.length, H, I', ⟨t, rfl⟩, q⟩
theorem pc_len {K : PySem.W.Frag} : PCall K (rLen K) fLen where
  mono ds Q Q' m h := by obtain ⟨d, n, e1, e2, q⟩ := h; exact ⟨d, n, e1, e2, m _ _ q⟩
  run Fz H ds vs Q al r h := by
    obtain ⟨d, n, rfl, e, q⟩ := h
    obtain ⟨v, rfl, rv⟩ := rootL1 r
    have q' := q (.int n) Fz H (.val al (by simp only [Den]))
    cases d with
    | str y => cases root_str rv; exact .inl ⟨_, n, rfl, e, q'⟩
    | lst ds => obtain ⟨a, xs, rfl, h1, h2⟩ := root_lst rv; exact .inl ⟨_, n, rfl, .inl ⟨xs, h1, by rw [← h2.length]; exact e⟩, q'⟩
    | tup ds => obtain ⟨a, xs, rfl, h1, h2⟩ := root_tup rv; exact .inl ⟨_, n, rfl, .inr ⟨xs, h1, by rw [← h2.length]; exact e⟩, q'⟩
    | dK ks ds =>
      simp only [Root] at rv
      obtain ⟨a, xs, rfl, h1, h2, h3⟩ := rv
      have e' : n = ks.length := e
      refine .inr ⟨a, _, rfl, h1, ?_⟩
      rw [List.length_zip, ← h2, Nat.min_self, ← e']
      exact q'
    | non => exact e.elim
    | bl b => exact e.elim
    | int i => exact e.elim
    | ty n => exact e.elim
    | dT ks ds => exact e.elim
/-! ### list(x), tuple(x) of a list or tuple -/
def fList : PF := fun ds Q => ∃ es, (ds = [.lst es] ∨ ds = [.tup es]) ∧ Q (.lst es) .new
def fTuple : PF := fun ds Q => ∃ es, (ds = [.lst es] ∨ ds = [.tup es]) ∧ Q (.tup es) .frz
theorem pc_list {K : PySem.W.Frag} : PCall K (rListOf K) fList where
  mono ds Q Q' m h := by obtain ⟨es, e, q⟩ := h; exact ⟨es, e, m _ _ q⟩
  run Fz H ds vs Q al r h := by
    obtain ⟨es, e, q⟩ := h
    rcases e with rfl | rfl
    · obtain ⟨v, rfl, rv⟩ := rootL1 r
      obtain ⟨a, xs, rfl, h1, h2⟩ := root_lst rv
      exact ⟨a, xs, rfl, .inl h1, fun l hl => q _ Fz _ (.newL al hl h2)⟩
    · obtain ⟨v, rfl, rv⟩ := rootL1 r
      obtain ⟨a, xs, rfl, h1, h2⟩ := root_tup rv
      exact ⟨a, xs, rfl, .inr h1, fun l hl => q _ Fz _ (.newL al hl h2)⟩
theorem pc_tuple {K : PySem.W.Frag} : PCall K (rTupOf K) fTuple where
  mono ds Q Q' m h := by obtain ⟨es, e, q⟩ := h; exact ⟨es, e, m _ _ q⟩
  run Fz H ds vs Q al r h := by
    obtain ⟨es, e, q⟩ := h
    rcases e with rfl | rfl
    · obtain ⟨v, rfl, rv⟩ := rootL1 r
      obtain ⟨a, xs, rfl, h1, h2⟩ := root_lst rv
      exact ⟨a, xs, rfl, .inl ⟨h1, fun l hl => q _ Fz _ (.newT al hl h2)⟩⟩
    · obtain ⟨v, rfl, rv⟩ := rootL1 r
      obtain ⟨a, xs, rfl, h1, h2⟩ := root_tup rv
      exact ⟨a, xs, rfl, .inr ⟨h1, q _ Fz H (.val al (by simp only [Den]; exact ⟨a, xs, rfl, h1, h2⟩))⟩⟩
/-! ### sorted of texts -/
theorem denl_strs {K : PySem.W.Frag} {Fz : FZ} {H : Hp} : ∀ {ss : List Str} {xs : List V}, DenL K Fz H (ss.map PV.str) xs → xs = ss.map V.str
  | [], xs, h => by rw [List.map_nil] at h; simp only [DenL] at h; exact h
  | s :: r, xs, h => by
    rw [List.map_cons] at h
    simp only [DenL] at h
    obtain ⟨v, t, z, h1, h2⟩ := h
    simp only [Den] at h1
    subst z h1
    rw [List.map_cons, denl_strs h2]
theorem strs_denl {K : PySem.W.Frag} {Fz : FZ} {H : Hp} : ∀ (ss : List Str), DenL K Fz H (ss.map PV.str) (ss.map V.str)
  | [] => DenL.nil
  | s :: r => by rw [List.map_cons, List.map_cons]; exact DenL.cons (by simp only [Den]) (strs_denl r)
def fSortS : PF := fun ds Q => ∃ ss : List Str, ds = [.lst (ss.map PV.str)] ∧ ss.length < 64 ∧ ∀ zs, zs.Perm ss → sortedS zs = true → Q (.lst (zs.map PV.str)) .new
theorem pc_sortS {X : Cx} : PCall X.K (fun xs H Q => ∃ (p : Addr) (ss : List Str), xs = [.ref p] ∧ SqL X.K H p (ss.map V.str) ∧ ss.length < 64 ∧ ∀ l zs, H l = none → zs.Perm ss → sortedS zs = true → Q (.ref l) (upd H l (.lst (zs.map V.str)))) fSortS where
  mono ds Q Q' m h := by obtain ⟨ss, e1, e2, q⟩ := h; exact ⟨ss, e1, e2, fun zs h1 h2 => m _ _ (q zs h1 h2)⟩
  run Fz H ds vs Q al r h := by
    obtain ⟨ss, rfl, e2, q⟩ := h
    obtain ⟨v, rfl, rv⟩ := rootL1 r
    obtain ⟨a, xs, rfl, h1, h2⟩ := root_lst rv
    have := denl_strs h2
    subst this
    exact ⟨a, ss, rfl, h1, e2, fun l zs hl hz hs => q zs hz hs _ Fz _ (.newL al hl (strs_denl zs))⟩
section
variable {X : Cx} {e : Expr} {es : List Expr} {te : TPE} {t : TPA} {p p1 p2 pos pos2 : Pos}
theorem pu_len (hg : Gl X "len") (hm : X.mg "len" = none) (ha : PuA X (e :: es) t) (he : starEach (e :: es) X.env = (false, eval e X.env) :: starEach es X.env := by rfl) (hpl : (backTo pos (starEach es X.env)).any (·.1) = false := by rfl) : PuE X (.Call (.Name "len" p) (e :: es) [] pos) (tB fLen t) :=
  pu_callB call_lenP pc_len hg hm bLen ha (by decide) (by decide) he hpl
theorem pu_list (hg : Gl X "list") (hm : X.mg "list" = none) (ha : PuA X (e :: es) t) (he : starEach (e :: es) X.env = (false, eval e X.env) :: starEach es X.env := by rfl) (hpl : (backTo pos (starEach es X.env)).any (·.1) = false := by rfl) : PuE X (.Call (.Name "list" p) (e :: es) [] pos) (tB fList t) :=
  pu_callTy call_list_of pc_list hg hm bList ha (by decide) (by decide) he hpl
theorem pu_tuple (hg : Gl X "tuple") (hm : X.mg "tuple" = none) (ha : PuA X (e :: es) t) (he : starEach (e :: es) X.env = (false, eval e X.env) :: starEach es X.env := by rfl) (hpl : (backTo pos (starEach es X.env)).any (·.1) = false := by rfl) : PuE X (.Call (.Name "tuple" p) (e :: es) [] pos) (tB fTuple t) :=
  pu_callTy call_tuple_of pc_tuple hg hm bTuple ha (by decide) (by decide) he hpl
theorem pu_sortS (hg : Gl X "sorted") (hm : X.mg "sorted" = none) (ha : PuA X (e :: es) t) (he : starEach (e :: es) X.env = (false, eval e X.env) :: starEach es X.env := by rfl) (hpl : (backTo pos (starEach es X.env)).any (·.1) = false := by rfl) : PuE X (.Call (.Name "sorted" p) (e :: es) [] pos) (tB fSortS t) :=
  pu_callB call_sortS pc_sortS hg hm bSorted ha (by decide) (by decide) he hpl
/-- sorted(set(e)), e a list of texts -/
def pSortSet (te : TPE) : TPE := fun ρ Q => te ρ fun d _ => ∃ ss : List Str, d = .lst (ss.map PV.str) ∧ ss.length < 64 ∧ ∀ zs, zs.Nodup → (∀ x, x ∈ zs ↔ x ∈ ss) → sortedS zs = true → Q (.lst (zs.map PV.str)) .new
theorem nodup_addS : ∀ (ys xs : List Str), xs.Nodup → (ys.foldl JS.addS xs).Nodup
  | [], _, h => h
  | y :: ys, xs, h => by
    rw [List.foldl_cons]
    refine nodup_addS ys _ ?_
    unfold JS.addS
    split
    · exact h
    · rename_i hy
      exact List.nodup_cons.mpr ⟨hy, h⟩
theorem pu_sortSet (hc : X.calm = true) (hg : Gl X "sorted") (hm : X.mg "sorted" = none) (hg2 : Gl X "set") (hm2 : X.mg "set" = none) (he : PuE X e te)
    (hs1 : starEach [e] X.env = (false, eval e X.env) :: starEach [] X.env := by rfl) (hpl1 : (backTo pos2 (starEach [] X.env)).any (·.1) = false := by rfl)
    (hs2 : starEach [Expr.Call (.Name "set" p2) [e] [] pos2] X.env = (false, eval (Expr.Call (.Name "set" p2) [e] [] pos2) X.env) :: starEach [] X.env := by rfl) (hpl2 : (backTo pos (starEach [] X.env)).any (·.1) = false := by rfl) :
    PuE X (.Call (.Name "sorted" p) [.Call (.Name "set" p2) [e] [] pos2] [] pos) (pSortSet te) where
  mono ρ Q Q' m h := he.mono ρ _ _ (fun d k ⟨ss, e1, e2, q⟩ => ⟨ss, e1, e2, fun zs h1 h2 h3 => m _ _ (q zs h1 h2 h3)⟩) h
  run := PE.weak (pe_callB (call_sortSet hc) hg hm bSorted (pa_cons (pe_callTy (call_setS hc) hg2 hm2 bSet (pa_cons he.run pa_nil hs1) (by decide) (by decide) hs1 hpl1) pa_nil hs2) (by decide) (by decide) hs2 hpl2) fun σ H Q h => by
    obtain ⟨ρ, Fz, R, h⟩ := h
    refine ⟨ρ, Fz, R, he.mono ρ _ _ (fun d k q v F1 H1 p1 => ?_) h⟩
    obtain ⟨ss, rfl, e2, q⟩ := q
    obtain ⟨a, xs, rfl, h1, h2⟩ := root_lst (p1.root R)
    have := denl_strs h2
    subst this
    refine ⟨a, ss, rfl, h1, by unfold scanBound; omega, fun st hst => ?_⟩
    have q1 := JS.len_foldS ss []
    simp only [List.length_nil, Nat.zero_add] at q1
    refine ⟨st, _, rfl, upd_same, by omega, fun l zs hl hz hs => ?_⟩
    have hne : l ≠ st := fun z => by subst z; rw [upd_same] at hl; cases hl
    have hl' : H1 l = none := by rw [upd_ne hne] at hl; exact hl
    have x2 : Ext F1 H1 F1 (upd H1 st (SetO X.prog X.w st (ss.foldl JS.addS []))) := Ext.laid ⟨Same.refl _, fun _ h => h, fun _ h => .inl h, p1.ext.al⟩ hst
    have p3 : Post X.K [] [] F1 (upd H1 st (SetO X.prog X.w st (ss.foldl JS.addS []))) F1 (upd (upd H1 st (SetO X.prog X.w st (ss.foldl JS.addS []))) l (.lst (zs.map V.str))) (.lst (zs.map PV.str)) .new (.ref l) := Post.newL x2.al hl (strs_denl zs)
    refine q zs (hz.nodup_iff.mpr (nodup_addS ss [] List.nodup_nil)) (fun x => ?_) hs _ F1 _ (p3.behind (p1.ext.trans x2))
    rw [hz.mem_iff, JS.mem_foldS]
    simp
/-! ### sep.join(e), sep a written text -/
def pJoin (sep : Str) (te : TPE) : TPE := fun ρ Q => te ρ fun d _ => ∃ ss : List Str, d = .lst (ss.map PV.str) ∧ (ss.map (·.length)).sum + ss.length * sep.length ≤ 16777216 ∧ Q (.str (Txt.join sep ss)) .frz
theorem pu_join {sep : Str} {j : Nat} {apos cpos sp : Pos} (he : PuE X e te) (hbase : attributeBase (.Constant (.str sep) j sp) "join" X.env (eval (.Constant (.str sep) j sp) X.env) = eval (.Constant (.str sep) j sp) X.env := by rfl)
    (hfew : ((backTo cpos (starEach [e] X.env)).all (fun x => !x.1) && (backToKw cpos (keywordEach [] X.env)).all (fun x => x.1.isSome) && decide ([e].length + ([] : List Keyword).length + (if ([] : List Keyword).isEmpty then 0 else 1) < 30)) = true := by rfl)
    (hline : (apos.endLine == cpos.line) = true := by rfl) (hs : starEach [e] X.env = (false, eval e X.env) :: starEach [] X.env := by rfl) (hplain : (backTo cpos (starEach [] X.env)).any (·.1) = false := by rfl) :
    PuE X (.Call (.Attribute (.Constant (.str sep) j sp) "join" apos) [e] [] cpos) (pJoin sep te) where
  mono ρ Q Q' m h := he.mono ρ _ _ (fun d k ⟨ss, e1, e2, q⟩ => ⟨ss, e1, e2, m _ _ q⟩) h
  run := PE.weak (pe_bm PySem.F.plainAttrs_str PySem.F.slot_str_join PySem.F.type_str_join mt_join pe_str (pa_cons he.run pa_nil hs) hbase hfew hline hs hplain) fun σ H Q h => by
    obtain ⟨ρ, Fz, R, h⟩ := h
    refine ⟨rfl, ρ, Fz, R, he.mono ρ _ _ (fun d k q v F1 H1 p1 => ?_) h⟩
    obtain ⟨ss, rfl, e2, q⟩ := q
    obtain ⟨a, xs, rfl, h1, h2⟩ := root_lst (p1.root R)
    have := denl_strs h2
    subst this
    exact ⟨sep, a, ss, rfl, rfl, h1, e2, q _ F1 H1 ⟨p1.ext, by show Den _ _ _ _ _; simp only [Den]⟩⟩
end
/-! ### isinstance -/
def tyP : PV → String
  | .non => "NoneType"
  | .bl _ => "bool"
  | .int _ => "int"
  | .str _ => "str"
  | .ty _ => "type"
  | .tup _ => "tuple"
  | .lst _ => "list"
  | .dK _ _ => "dict"
  | .dT _ _ => "dict"
theorem kit_root {X : Cx} {pins : List (Addr × Obj)} {σ : St} {H : Hp} {s : Shared} {Fz : FZ} {d : PV} {x : V} {u : Value} (I : Inv X pins σ H s) (r : Root X.K Fz H d x) (rx : RelV x u) (hd : ∀ n, d ≠ .ty n) : ∃ P : Heap → Prop, PySem.W.KitX X.K u (.type (tyP d)) P ∧ P s.heap ∧ u ≠ .builtin "__main__.__loader__#opaque" := by
  cases d with
  | non => cases root_non r; cases (show u = Value.none from rx); exact ⟨_, PySem.W.kitx_none, True.intro, fun z => nomatch z⟩
  | bl y => cases root_bl r; cases (show u = Value.bool y from rx); exact ⟨_, PySem.W.kitx_bool, True.intro, fun z => nomatch z⟩
  | int i => cases root_int r; obtain ⟨t, q⟩ := (show ∃ t, u = Value.int i t from rx); cases q; exact ⟨_, PySem.W.kitx_int, True.intro, fun z => nomatch z⟩
  | str y => cases root_str r; obtain ⟨t, q⟩ := (show ∃ t, u = Value.str y t from rx); cases q; exact ⟨_, PySem.W.kitx_str, True.intro, fun z => nomatch z⟩
  | ty n => exact absurd rfl (hd n)
  | lst ds =>
    obtain ⟨a, xs, rfl, h1, _⟩ := root_lst r
    cases (show u = Value.ref a from rx)
    obtain ⟨its, _, ⟨o, n, e, c, _⟩, _⟩ := I.list h1
    exact ⟨_, PySem.W.kitx_list, ⟨o, e, c⟩, fun z => nomatch z⟩
  | tup ds =>
    obtain ⟨a, xs, rfl, h1, _⟩ := root_tup r
    cases (show u = Value.ref a from rx)
    obtain ⟨its, _, ⟨o, e, c, _⟩, _⟩ := I.tuple h1
    exact ⟨_, PySem.W.kitx_tuple, ⟨o, e, c⟩, fun z => nomatch z⟩
  | dK ks ds =>
    simp only [Root] at r
    obtain ⟨a, xs, rfl, h1, _⟩ := r
    cases (show u = Value.ref a from rx)
    obtain ⟨_, _, vs, _, o, es, ep, e, ex, _⟩ := dk_rd I.hok h1
    exact ⟨_, PySem.W.kitx_dict, ⟨o, e, ex.1⟩, fun z => nomatch z⟩
  | dT ks ds =>
    simp only [Root] at r
    obtain ⟨a, xs, rfl, h1, _⟩ := r
    cases (show u = Value.ref a from rx)
    obtain ⟨_, _, vs, _, o, es, ep, e, ex, _⟩ := dt_rd I.hok h1
    exact ⟨_, PySem.W.kitx_dict, ⟨o, e, ex.1⟩, fun z => nomatch z⟩
/-- isinstance(x, c), isinstance(x, (c, ..)) -/
def fIsi (K : PySem.W.Frag) : PF := fun ds Q => (∃ d c, ds = [d, .ty c] ∧ (∀ n, d ≠ .ty n) ∧ ∃ b, PySem.W.kitOne K (.type (tyP d)) (.type c) = some b ∧ Q (.bl b) .frz) ∨
  ∃ d es, ds = [d, .tup es] ∧ (∀ n, d ≠ .ty n) ∧ ∃ (cs : List String) (b : Bool), es = cs.map PV.ty ∧ PySem.W.kitAny K (.type (tyP d)) (cs.map Value.type) = some b ∧ Q (.bl b) .frz
def rIsiP (K : PySem.W.Frag) : List V → Hp → VK → Prop := fun xs H Q => ∃ Fz d x b, Root K Fz H d x ∧ (∀ n, d ≠ .ty n) ∧ ((∃ c, xs = [x, .ty c] ∧ PySem.W.kitOne K (.type (tyP d)) (.type c) = some b) ∨ ∃ (p : Addr) (cs : List String), xs = [x, .ref p] ∧ SqT K H p (cs.map V.ty) ∧ PySem.W.kitAny K (.type (tyP d)) (cs.map Value.type) = some b) ∧ Q (.bl b) H
theorem call_isiP {X : Cx} : CallR X (.builtin "isinstance") (rIsiP X.K) := by
  intro pins s σ H xs us Q I r h
  obtain ⟨Fz, d, x, b, rt, hd, e, q⟩ := h
  rcases e with ⟨c, rfl, e⟩ | ⟨p, cs, rfl, hp, e⟩
  · obtain ⟨u, w', rfl, r1, r2⟩ := vals2 r
    cases r2
    obtain ⟨P, Z, hP, ne⟩ := kit_root I rt r1 hd
    exact PySem.W.kia_one Z I.kIn hP e ne fun tk => ⟨.bl b, H, I.tok tk, rfl, q⟩
  · obtain ⟨u, w', rfl, r1, r2⟩ := vals2 r
    cases r2
    obtain ⟨P, Z, hP, ne⟩ := kit_root I rt r1 hd
    obtain ⟨its, rv, ⟨⟨cls, dd, data, sl⟩, ho, hc, n, hdt⟩, hzz⟩ := I.tuple hp
    simp only at hc hdt
    subst hc hdt
    have ei : its = cs.map Value.type := by
      clear hp ho e hzz
      induction cs generalizing its with
      | nil => cases rv; rfl
      | cons c cs ih =>
        cases rv with
        | cons q1 q2 => rw [show _ = Value.type c from q1, ih _ q2]; rfl
    subst ei
    exact PySem.W.kia_tup Z I.kIn hP ho e ne fun tk => ⟨.bl b, H, I.tok tk, rfl, q⟩
theorem denl_tys {K : PySem.W.Frag} {Fz : FZ} {H : Hp} : ∀ {ss : List String} {xs : List V}, DenL K Fz H (ss.map PV.ty) xs → xs = ss.map V.ty
  | [], xs, h => by rw [List.map_nil] at h; simp only [DenL] at h; exact h
  | s :: r, xs, h => by
    rw [List.map_cons] at h
    simp only [DenL] at h
    obtain ⟨v, t, z, h1, h2⟩ := h
    simp only [Den] at h1
    subst z h1
    rw [List.map_cons, denl_tys h2]
theorem pc_isi {K : PySem.W.Frag} : PCall K (rIsiP K) (fIsi K) where
  mono ds Q Q' m h := by
    rcases h with ⟨d, c, e, hd, b, e2, q⟩ | ⟨d, es, e, hd, cs, b, e2, e3, q⟩
    · exact .inl ⟨d, c, e, hd, b, e2, m _ _ q⟩
    · exact .inr ⟨d, es, e, hd, cs, b, e2, e3, m _ _ q⟩
  run Fz H ds vs Q al r h := by
    rcases h with ⟨d, c, rfl, hd, b, e, q⟩ | ⟨d, es, rfl, hd, cs, b, rfl, e, q⟩
    · have q' := q (.bl b) Fz H (.val al (by simp only [Den]))
      obtain ⟨v, u, rfl, r1, r2⟩ := rootL2 r
      simp only [Root, Den] at r2
      subst r2
      exact ⟨Fz, d, v, b, r1, hd, .inl ⟨c, rfl, e⟩, q'⟩
    · have q' := q (.bl b) Fz H (.val al (by simp only [Den]))
      obtain ⟨v, u, rfl, r1, r2⟩ := rootL2 r
      obtain ⟨a, xs, rfl, h1, h2⟩ := root_tup r2
      have := denl_tys h2
      subst this
      exact ⟨Fz, d, v, b, r1, hd, .inr ⟨a, cs, rfl, h1, e⟩, q'⟩
section
variable {X : Cx} {e : Expr} {es : List Expr} {te : TPE} {t : TPA} {p p1 p2 pos pos2 : Pos}
theorem pu_isi {K : PySem.W.Frag} (hK : X.K = K) (hg : Gl X "isinstance") (hm : X.mg "isinstance" = none) (ha : PuA X (e :: es) t) (he : starEach (e :: es) X.env = (false, eval e X.env) :: starEach es X.env := by rfl) (hpl : (backTo pos (starEach es X.env)).any (·.1) = false := by rfl) : PuE X (.Call (.Name "isinstance" p) (e :: es) [] pos) (tB (fIsi K) t) := by
  subst hK
  exact pu_callB call_isiP pc_isi hg hm bIsi ha (by decide) (by decide) he hpl
end
/-! ### slices of a list, list + list -/
abbrev TPO := PEnv → (Option Int → Prop) → Prop
def liftO (K : PySem.W.Frag) (t : TPO) : TO := fun σ H Q => ∃ ρ Fz, Rel K Fz ρ σ H ∧ t ρ fun o => ∀ Fz' H', Ext Fz H Fz' H' → Q o H'
structure PuO (X : Cx) (e : Option Expr) (t : TPO) : Prop where
  mono : ∀ ρ Q Q', (∀ o, Q o → Q' o) → t ρ Q → t ρ Q'
  run : PO X e (liftO X.K t)
theorem PO.weak {X : Cx} {e : Option Expr} {t t' : TO} (h : PO X e t) (w : ∀ σ H Q, t' σ H Q → t σ H Q) : PO X e t' := fun pins s σ H Q I q => h pins s σ H Q I (w σ H Q q)
def oNone : TPO := fun _ Q => Q none
def oSome (te : TPE) : TPO := fun ρ Q => te ρ fun d _ => ∃ i, d = .int i ∧ Q (some i)
theorem puo_none {X : Cx} : PuO X none oNone where
  mono ρ Q Q' m h := m _ h
  run := PO.weak po_none fun σ H Q h => by
    obtain ⟨ρ, Fz, R, h⟩ := h
    exact h Fz H ⟨Same.refl H, fun _ h => h, fun _ h => .inl h, R.al⟩
theorem puo_some {X : Cx} {e : Expr} {te : TPE} (h : PuE X e te) : PuO X (some e) (oSome te) where
  mono ρ Q Q' m q := h.mono ρ _ _ (fun d k ⟨i, e, q⟩ => ⟨i, e, m _ q⟩) q
  run := PO.weak (po_some h.run) fun σ H Q q => by
    obtain ⟨ρ, Fz, R, q⟩ := q
    exact ⟨ρ, Fz, R, h.mono ρ _ _ (fun d k ⟨i, e, q⟩ v F1 H1 p1 => ⟨i, by subst e; exact root_int (p1.root R), q F1 H1 p1.ext⟩) q⟩
def cutP (xs : List PV) (lo hi : Option Int) : List PV := (xs.drop (HT.sIx xs.length 0 lo)).take (HT.sIx xs.length xs.length hi - HT.sIx xs.length 0 lo)
def pSlL (te : TPE) (tl th : TPO) : TPE := fun ρ Q => te ρ fun d _ => tl ρ fun l => th ρ fun u => ∃ ds, d = .lst ds ∧ Q (.lst (cutP ds l u)) .new
theorem cut_den {K : PySem.W.Frag} {Fz : FZ} {H : Hp} {ds : List PV} {xs : List V} {lo hi : Option Int} (h : DenL K Fz H ds xs) : DenL K Fz H (cutP ds lo hi) (cutV xs lo hi) := by
  unfold cutP cutV
  rw [h.length]
  exact (h.drop _).take _
section
variable {X : Cx} {e a b : Expr} {te ta tb : TPE} {lo hi : Option Expr} {tl th : TPO} {pos p2 : Pos}
theorem pu_slice (he : PuE X e te) (hl : PuO X lo tl) (hu : PuO X hi th) : PuE X (.Subscript e (.Slice lo hi none p2) pos) (pSlL te tl th) where
  mono ρ Q Q' m h := he.mono ρ _ _ (fun d k h => hl.mono ρ _ _ (fun l h => hu.mono ρ _ _ (fun u ⟨ds, e, q⟩ => ⟨ds, e, m _ _ q⟩) h) h) h
  run := PE.weak (pe_slice sl_list he.run hl.run hu.run) fun σ H Q h => by
    obtain ⟨ρ, Fz, R, h⟩ := h
    refine ⟨ρ, Fz, R, he.mono ρ _ _ (fun d k q v F1 H1 p1 => ?_) h⟩
    refine ⟨ρ, F1, R.ext p1.ext, hl.mono ρ _ _ (fun l q F2 H2 x2 => ?_) q⟩
    refine ⟨ρ, F2, (R.ext p1.ext).ext x2, hu.mono ρ _ _ (fun u q3 F3 H3 x3 => ?_) q⟩
    obtain ⟨ds, e3, q4⟩ := q3
    subst e3
    obtain ⟨a, xs, rfl, h1, h2⟩ := root_lst (((p1.root R).mono x2.same x2.sub).mono x3.same x3.sub)
    exact ⟨a, xs, rfl, h1, fun p hp => q4 _ F3 _ ((Post.newL x3.al hp (cut_den h2)).behind (p1.ext.trans (x2.trans x3)))⟩
def pRev (te : TPE) : TPE := fun ρ Q => te ρ fun d _ => ∃ ds, d = .lst ds ∧ Q (.lst ds.reverse) .new
theorem pu_rev {j : Nat} {q1 q2 q3 : Pos} (he : PuE X e te) : PuE X (.Subscript e (.Slice none none (some (.UnaryOp .USub (.Constant (.int 1) j q1) q2)) q3) pos) (pRev te) where
  mono ρ Q Q' m h := he.mono ρ _ _ (fun d k ⟨ds, e, q⟩ => ⟨ds, e, m _ _ q⟩) h
  run := PE.weak (pe_rev he.run) fun σ H Q h => by
    obtain ⟨ρ, Fz, R, h⟩ := h
    refine ⟨ρ, Fz, R, he.mono ρ _ _ (fun d k q v F1 H1 p1 => ?_) h⟩
    obtain ⟨ds, rfl, q⟩ := q
    obtain ⟨a, xs, rfl, h1, h2⟩ := root_lst (p1.root R)
    exact ⟨a, xs, rfl, h1, fun p hp => q _ F1 _ ((Post.newL p1.ext.al hp h2.reverse).behind p1.ext)⟩
def rCatP (K : PySem.W.Frag) : R2 := fun x y H Q => ∃ l b xs zs, x = .ref l ∧ y = .ref b ∧ (Rd H l (.lst xs) ∨ KX K l xs) ∧ (Rd H b (.lst zs) ∨ KX K b zs) ∧ xs.length + zs.length ≤ sizeLine ∧ ∀ p, H p = none → Q (.ref p) (upd H p (.lst (xs ++ zs)))
theorem lx_at {pins : List (Addr × Obj)} {σ : St} {H : Hp} {s : Shared} {l : Addr} {xs : List V} (I : Inv X pins σ H s) (h : Rd H l (.lst xs) ∨ KX X.K l xs) : ∃ (its : List Value) (n : Nat), Vals xs its ∧ s.heap.get? l = some { cls := .type "list", data := .seq its.toArray n } := by
  rcases h with h | ⟨its, n, h1, _, h3⟩
  · obtain ⟨z, its, n, r, e⟩ := (show ObjOk X.prog X.w H s.heap l (.lst xs) from h.ok I.hok)
    exact ⟨its, n, r, e⟩
  · exact ⟨its.toList, n, h3, by rw [Array.toArray_toList]; exact I.kIn l _ h1⟩
theorem op_catP : OpR X (binaryOp .Add) (rCatP X.K) := by
  intro pins s σ H x y v u Q I rx ry h
  obtain ⟨l, b, xs, zs, rfl, rfl, hH, hB, hz, q⟩ := h
  cases rx
  cases ry
  obtain ⟨its, n, r, e⟩ := lx_at I hH
  obtain ⟨its2, n2, r2, e2⟩ := lx_at I hB
  have l1 := r.length
  have l2 := r2.length
  refine PySem.P.add_list e e2 ?_ (by rw [List.size_toArray, List.size_toArray]; omega)
  have ea : its.toArray ++ its2.toArray = (its ++ its2).toArray := by simp
  rw [ea]
  exact ⟨.ref _, _, I.lnew (t' := s.toks) (r.append r2) (by rw [List.length_append]; omega), rfl, q _ I.fresh⟩
def pCat : P2 := fun d e Q => ∃ ds es, d = .lst ds ∧ e = .lst es ∧ ds.length + es.length ≤ sizeLine ∧ Q (.lst (ds ++ es)) .new
theorem po_cat {K : PySem.W.Frag} : POp K (rCatP K) pCat where
  mono d e Q Q' m h := by obtain ⟨ds, es, e1, e2, e3, q⟩ := h; exact ⟨ds, es, e1, e2, e3, m _ _ q⟩
  run Fz H x y d e Q al rx ry h := by
    obtain ⟨ds, es, rfl, rfl, e3, q⟩ := h
    obtain ⟨a, xs, rfl, h1, h2⟩ := root_lstR rx
    obtain ⟨b, ys, rfl, g1, g2⟩ := root_lstR ry
    have l1 := h2.length
    have l2 := g2.length
    exact ⟨a, b, xs, ys, rfl, rfl, h1, g1, by omega, fun p hp => q _ Fz _ (.newL al hp (h2.append g2))⟩
theorem pu_cat (ha : PuE X a ta) (hb : PuE X b tb) : PuE X (.BinOp a .Add b pos) (t2 pCat ta tb) := pu_op op_catP po_cat ha hb
end
end PL

set_option Elab.async false
set_option linter.all false
set_option maxRecDepth 100000
set_option maxHeartbeats 4000000
namespace PL
open PySem PySem.Spec L2
open PyProof.Rows hiding St
/-- a def of the text, and how it is called -/
structure Fx (K : PySem.W.Frag) (mg : Str → Option Value) (x : Str) (st : Stmt) (ps : List Str) (f : Addr) (fd : FuncData) : Prop where
  fn : Fun K x x st f fd
  bd : Binds K fd ps []
  mg : mg x = some (.ref f)
/-- the built-in names that the text does not bind -/
structure Bl (mg : Str → Option Value) : Prop where
  range : mg "range" = none
  len : mg "len" = none
  list : mg "list" = none
  tuple : mg "tuple" = none
  sorted : mg "sorted" = none
  set : mg "set" = none
  isi : mg "isinstance" = none
  str : mg "str" = none
  int : mg "int" = none
  bool : mg "bool" = none
  dict : mg "dict" = none
  enumerate : mg "enumerate" = none
  zip : mg "zip" = none
  min : mg "min" = none
  max : mg "max" = none
  sum : mg "sum" = none
  all : mg "all" = none
  any : mg "any" = none
  reversed : mg "reversed" = none
  abs : mg "abs" = none
/-- isinstance of a built-in class, whatever the text -/
theorem kit_built {K : PySem.W.Frag} {T c : String} {b : Bool} (h1 : PySem.W.kitMeta c = true) (h2 : (fastBuiltinMro T).map (·.contains (.type c)) = some b) (h3 : (Value.type T == Value.type c) = false) : PySem.W.kitOne K (.type T) (.type c) = some b := by
  unfold PySem.W.kitOne PySem.W.kitCls
  rw [if_neg (by rw [h3]; decide)]
  dsimp only
  rw [if_pos h1]
  exact h2
theorem kit_same {K : PySem.W.Frag} {T : String} : PySem.W.kitOne K (.type T) (.type T) = some true := by
  unfold PySem.W.kitOne
  rw [if_pos (by simp)]
theorem kit_int_str {K : PySem.W.Frag} : PySem.W.kitOne K (.type "int") (.type "str") = some false := kit_built (by decide +kernel) (by decide +kernel) (by decide +kernel)
theorem kit_int_bool {K : PySem.W.Frag} : PySem.W.kitOne K (.type "int") (.type "bool") = some false := kit_built (by decide +kernel) (by decide +kernel) (by decide +kernel)
theorem kit_bool_int {K : PySem.W.Frag} : PySem.W.kitOne K (.type "bool") (.type "int") = some true := kit_built (by decide +kernel) (by decide +kernel) (by decide +kernel)
theorem kit_tuple_str {K : PySem.W.Frag} : PySem.W.kitOne K (.type "tuple") (.type "str") = some false := kit_built (by decide +kernel) (by decide +kernel) (by decide +kernel)
theorem kit_tuple_list {K : PySem.W.Frag} : PySem.W.kitOne K (.type "tuple") (.type "list") = some false := kit_built (by decide +kernel) (by decide +kernel) (by decide +kernel)
theorem kit_list_tuple {K : PySem.W.Frag} : PySem.W.kitOne K (.type "list") (.type "tuple") = some false := kit_built (by decide +kernel) (by decide +kernel) (by decide +kernel)
theorem loc1 {k i : Nat} (h : i < k) : LocGs k (gConsP (gNameP i) gNilP) := fun ds ρ Q ⟨d, r, e, q⟩ =>
  ⟨d, r, e, q.1, q.2, by rw [List.length_set], fun j hj => by rw [List.getElem?_set_ne (by omega)]⟩
theorem loc2 {k i j : Nat} (h : i < k) (h2 : j < k) : LocGs k (gConsP (gNameP i) (gConsP (gNameP j) gNilP)) := fun ds ρ Q ⟨d, r, e, d2, r2, e2, q⟩ =>
  ⟨d, r, e, d2, r2, e2, q.1, q.2, by rw [List.length_set, List.length_set], fun l hl => by rw [List.getElem?_set_ne (by omega), List.getElem?_set_ne (by omega)]⟩
theorem loc3 {k i j l : Nat} (h : i < k) (h2 : j < k) (h3 : l < k) : LocGs k (gConsP (gNameP i) (gConsP (gNameP j) (gConsP (gNameP l) gNilP))) := fun ds ρ Q ⟨d, r, e, d2, r2, e2, d3, r3, e3, q⟩ =>
  ⟨d, r, e, d2, r2, e2, d3, r3, e3, q.1, q.2, by rw [List.length_set, List.length_set, List.length_set], fun l hl => by rw [List.getElem?_set_ne (by omega), List.getElem?_set_ne (by omega), List.getElem?_set_ne (by omega)]⟩
end PL

set_option linter.all false
set_option maxRecDepth 100000
namespace K01
open PySem PySem.Spec PyProof.Rows
/-- a stands not behind b -/
def leS (a b : Str) : Prop := a.cps.toList ≤ b.cps.toList
theorem leS_trans {a b c : Str} (h1 : leS a b) (h2 : leS b c) : leS a c := List.le_trans h1 h2
theorem leS_antisymm {a b : Str} (h1 : leS a b) (h2 : leS b a) : a = b := by
  have e : a.cps.toList = b.cps.toList := List.le_antisymm h1 h2
  cases a; cases b
  simp only [Str.mk.injEq]
  exact Array.toList_inj.mp e
theorem leS_of {a b : Str} (h : ltCps b.cps.toList a.cps.toList = false) : leS a b := by
  rw [ltCps_eq] at h
  exact List.not_lt.mp (of_decide_eq_false h)
theorem rising_pw : ∀ (p : Str) (l : List Str), risingS p l = true → (p :: l).Pairwise leS
  | p, [], _ => List.pairwise_singleton _ _
  | p, x :: r, h => by
    have h' : (!ltCps x.cps.toList p.cps.toList && risingS x r) = true := h
    rw [Bool.and_eq_true] at h'
    have h1 : leS p x := leS_of (by simpa using h'.1)
    have ih := rising_pw x r h'.2
    refine List.pairwise_cons.mpr ⟨fun y hy => ?_, ih⟩
    rcases List.mem_cons.mp hy with e | hy
    · rw [e]; exact h1
    · exact leS_trans h1 ((List.pairwise_cons.mp ih).1 y hy)
theorem sorted_pw : ∀ (l : List Str), sortedS l = true → l.Pairwise leS
  | [], _ => List.Pairwise.nil
  | x :: r, h => rising_pw x r h
/-- two lists in order, each once, of the same texts are one -/
theorem sorted_ext : ∀ {xs ys : List Str}, xs.Pairwise leS → ys.Pairwise leS → xs.Nodup → ys.Nodup → (∀ x, x ∈ xs ↔ x ∈ ys) → xs = ys
  | [], [], _, _, _, _, _ => rfl
  | [], y :: ys, _, _, _, _, h => absurd ((h y).mpr List.mem_cons_self) (by simp)
  | x :: xs, [], _, _, _, _, h => absurd ((h x).mp List.mem_cons_self) (by simp)
  | x :: xs, y :: ys, p, q, n, m, h => by
    obtain ⟨p1, p2⟩ := List.pairwise_cons.mp p
    obtain ⟨q1, q2⟩ := List.pairwise_cons.mp q
    obtain ⟨n1, n2⟩ := List.nodup_cons.mp n
    obtain ⟨m1, m2⟩ := List.nodup_cons.mp m
    have e : x = y := by
      rcases List.mem_cons.mp ((h x).mp List.mem_cons_self) with e | hx
      · exact e
      · rcases List.mem_cons.mp ((h y).mpr List.mem_cons_self) with e | hy
        · exact e.symm
        · exact leS_antisymm (p1 y hy) (q1 x hx)
    subst e
    rw [sorted_ext p2 q2 n2 m2 fun z => ?_]
    constructor
    · intro hz
      rcases List.mem_cons.mp ((h z).mp (List.mem_cons_of_mem _ hz)) with e | hz'
      · subst e; exact absurd hz n1
      · exact hz'
    · intro hz
      rcases List.mem_cons.mp ((h z).mpr (List.mem_cons_of_mem _ hz)) with e | hz'
      · subst e; exact absurd hz m1
      · exact hz'
/-- the letters by the law's own road and by the program's -/
theorem known_eq {ls zs ks : List Str} {sh : List (List Str)} (hz : zs.Perm ls) (nl : ls.Nodup) (sz : sortedS zs = true) (nk : ks.Nodup) (sk : sortedS ks = true) (hk : ∀ x, x ∈ ks ↔ ∃ p ∈ sh, x ∈ p) (hsub : ∀ p ∈ sh, ∀ x ∈ p, x ∈ ls) (f : Str → Bool)
    (hf : ∀ x, f x = true ↔ ∃ p ∈ sh, x ∈ p) : zs.filter f = ks := by
  refine sorted_ext ((sorted_pw zs sz).filter f) (sorted_pw ks sk) ((hz.nodup_iff.mpr nl).filter f) nk fun x => ?_
  rw [List.mem_filter, hk, hf]
  constructor
  · exact fun h => h.2
  · rintro ⟨p, hp, hx⟩
    exact ⟨hz.mem_iff.mpr (hsub p hp x hx), p, hp, hx⟩

def mix (c j : Int) : Int :=
  if c % 2 = 1 ∧ c / 2 ^ 27 ≠ 0 then (c / 2 ^ (1 + 20 * j).toNat) % 1048576
  else (((c * (2 * j + 3) + j) % 2147483629 * ((c * (2 * j + 3) + j) % 2147483629) + 1) * 48271 % 2147483629) * (((c * (2 * j + 3) + j) % 2147483629 * ((c * (2 * j + 3) + j) % 2147483629) + 1) * 48271 % 2147483629) % 2147483587
theorem mix_nn (c j : Int) : 0 ≤ mix c j := by
  unfold mix
  split
  · exact Int.emod_nonneg _ (by decide)
  · exact Int.emod_nonneg _ (by decide)
def abc (n : Nat) : Str := ⟨#[65 + n]⟩
def stepOf (i : Nat) : Nat := [1, 3, 5, 7, 9, 11].getD i 1
def lettersN (start step : Nat) : List Str := (List.range 6).map fun k => abc ((start + step * k) % 26)
theorem lettersN_nodup : ∀ start, start < 26 → ∀ i, i < 6 → ((List.range 6).map fun k => (start + stepOf i * k) % 26).Nodup := by decide +kernel
theorem abc_inj {a b : Nat} (h : abc a = abc b) : a = b := by
  unfold abc at h
  simp only [Str.mk.injEq, Array.mk.injEq, List.cons.injEq] at h
  omega
theorem letters_nd (start i : Nat) (h1 : start < 26) (h2 : i < 6) : (lettersN start (stepOf i)).Nodup := by
  have h := lettersN_nodup start h1 i h2
  unfold lettersN
  rw [show ((List.range 6).map fun k => abc ((start + stepOf i * k) % 26)) = ((List.range 6).map fun k => (start + stepOf i * k) % 26).map abc by rw [List.map_map]; rfl]
  exact List.Pairwise.map abc (fun a b hab e => hab (abc_inj e)) h
end K01

set_option Elab.async false
set_option linter.all false
set_option maxRecDepth 100000
set_option maxHeartbeats 4000000
namespace Q01
open PySem PySem.Spec L2 PL
open PyProof.Rows hiding St
open K01 (mix mix_nn abc stepOf lettersN letters_nd)
def top (i : Nat) : Stmt := PySem.Challenge.pw_joinwood_k01_shapes.main.body.getD i (.Pass ⟨0, 0, 0, 0⟩)
abbrev sShape : Stmt := top 1
abbrev sLettersOf : Stmt := top 2
abbrev sMix : Stmt := top 4
abbrev sLetters : Stmt := top 5
abbrev sName : Stmt := top 6
abbrev sPattern : Stmt := top 7
abbrev sIs : Stmt := top 8
abbrev sRight : Stmt := top 9
abbrev sLaw : Stmt := top 10
def fMix : PF := fun ds Q => ∃ c j : Int, ds = [.int c, .int j] ∧ 0 ≤ j ∧ j ≤ 1000 ∧ Q (.int (mix c j)) .frz
local macro_rules | `(tactic| walk_at "pu") => `(tactic| simp only [pSeq, pSet, pRet, pRetN, pIf, pDrop, pNext, pBreak, pCont, pDropM, pSetM, mApp, mAppM, mPopAt, mExtT, pUnp, gNameP, gNilP, gConsP, gTupP, t2, i0, i2, pVar, pC, pCons, pNil, pTup, pLst, noOwn, isOwn, tBl, tAndP, tOrP, tNotP, tTru, tTrue, TruP, tNotE, tAndE, tOrE, tIfE, pEq, pIn, pIsN, pIx, pCat, PL.tB, fLen, LenP, fList, fTuple, fSortS, fIsi, tCallP, pSortSet, pJoin, pSlL, pRev, oNone, oSome, pComp, iRange1, iRange2, iLst, iTupl, pFor, pWhile, PL.plain, startP, retOut, blkP, List.map_cons, List.map_nil, List.length_cons, List.length_nil, List.cons_append, List.nil_append, List.replicate, List.getElem?_cons_zero, List.getElem?_cons_succ, List.getElem?_nil, Option.getD_some, Option.getD_none, List.set_cons_zero, List.set_cons_succ, List.cons.injEq,
  Option.some.injEq, Prod.mk.injEq, PV.int.injEq, PV.bl.injEq, PV.str.injEq, PV.lst.injEq, PV.tup.injEq, PV.ty.injEq, exists_eq_left', exists_eq_left, exists_eq', exists_eq, exists_and_left, exists_and_right, exists_eq_right, true_and, and_true, reduceCtorEq, false_and, and_false, false_or, or_false, exists_false, exists_const, Bool.false_eq_true, if_true, if_false, and_assoc, ite_true, ite_false, Bool.not_eq_true', decide_eq_true_eq, decide_eq_false_iff_not, Bool.not_false, Bool.not_true, true_or, or_true, not_true_eq_false, not_false_eq_true, Bool.and_eq_true, Nat.zero_add, Nat.sub_self, Nat.reduceAdd, Nat.reduceSub, implies_true, ne_eq, noMutR, noMut, noMutL, Bool.true_and, Bool.and_true, List.all_nil, fMix])
local macro_rules | `(tactic| walk_at "go") => `(tactic| ((first | (with_reducible refine hold ?_) | (with_reducible refine holdT ?_)); walk_at "pu"))
local macro_rules | `(tactic| walk_at "side") => `(tactic| first | assumption | decide | omega | exact Or.inl ⟨by omega, by omega⟩ | exact Or.inr ⟨by omega, by omega⟩)
local macro_rules | `(tactic| walk_at "auto") => `(tactic| repeat (first | ((with_reducible refine hold ?_); walk_at "pu") | ((with_reducible refine holdT ?_); walk_at "pu") | ((with_reducible refine And.intro ?_ ?_); (· walk_at "side"))))

theorem mono_Mix : MonoF fMix := fun ds Q Q' m ⟨c, j, e, h1, h2, q⟩ => ⟨c, j, e, h1, h2, m _ _ q⟩
section
variable {P : Program} {w : World} {K : PySem.W.Frag} {mg : Str → Option Value} {base : Heap}
theorem scMix : FnScope ["_law_cell", "_law_j", "_law_number"] ["_law_cell", "_law_j"] (defScope sMix) := ⟨rfl, rfl, rfl, by decide +kernel, rfl, by decide +kernel, by decide +kernel⟩
theorem ok_Mix {f : Addr} {fd : FuncData} (F : Fun K "_law_mix" "_law_mix" sMix f fd) : FnOk P w K mg base CX0 1 f fd ["_law_cell", "_law_j"] (spP K fMix) := by
  refine fn_pure F scMix (fun ds Q ⟨c, j, e, _⟩ => by rw [e]; rfl) (fun cdv A outer s H E hr => ?_)
  have hu : (A.deeper (envOfC "_law_mix" (defScope sMix) s.heap.objs.size f cdv)).units + 16 < cLine := by have q := hr.units; omega
  have nd := scMix.nd
  refine ⟨_, (puss_cons (pus_if (PuW.t (puw_and (put_eq hu (pu_mod (pu_var 0) pu_int) pu_int) (puw_and1 (put_ne hu (pu_shr (pu_var 0) pu_int) pu_int)))) (puss_one (pus_ret (pu_mod (pu_shr (pu_var 0) (pu_add pu_int (pu_mul pu_int (pu_var 1)))) pu_int))) puss_nil)
      (puss_cons (pus_set (i := 2) nd rfl (Or.inl rfl) (pu_mod (pu_add (pu_mul (pu_var 0) (pu_add (pu_mul pu_int (pu_var 1)) pu_int)) (pu_var 1)) pu_int))
      (puss_cons (pus_set (i := 2) nd rfl (Or.inl rfl) (pu_mod (pu_mul (pu_add (pu_mul (pu_var 2) (pu_var 2)) pu_int) pu_int) pu_int))
      (puss_one (pus_ret (pu_mod (pu_mul (pu_var 2) (pu_var 2)) pu_int)))))), fun ds Q h => ?_⟩
  obtain ⟨c, j, rfl, h0, h1, q⟩ := h
  have n1 := Int.emod_nonneg (c * (2 * j + 3) + j) (show (2147483629 : Int) ≠ 0 by decide)
  have n2 := Int.emod_lt_of_pos (c * (2 * j + 3) + j) (show (0 : Int) < 2147483629 by decide)
  have b2 : ∀ z : Int, CMul (z % 2147483629) (z % 2147483629) := fun z => .inl ⟨by omega, by omega⟩
  have els : ¬ (c % 2 = 1 ∧ c / 2 ^ 27 ≠ 0) → Q (.int ((((c * (2 * j + 3) + j) % 2147483629 * ((c * (2 * j + 3) + j) % 2147483629) + 1) * 48271 % 2147483629) * (((c * (2 * j + 3) + j) % 2147483629 * ((c * (2 * j + 3) + j) % 2147483629) + 1) * 48271 % 2147483629) % 2147483587)) .frz := fun hn => by
    unfold mix at q; rw [if_neg hn] at q; exact q
  walk_at "pu"
  refine ⟨by decide, ite2 (fun e1 => ⟨by decide, ite2 (fun e2 => ?a) (fun e2 => ?b)⟩) (fun e1 => ?c)⟩
  case a =>
    walk_at "auto"
    unfold mix at q
    rw [if_pos ⟨e1, e2⟩] at q
    exact q
  case b =>
    walk_at "auto"
    exact els fun z => e2 z.2
  case c =>
    walk_at "auto"
    exact els fun z => e1 z.1

theorem take_snoc {α : Type} {l : List α} {i : Nat} {o : α} (h : l[i]? = some o) : l.take i ++ [o] = l.take (i + 1) := by rw [List.take_add_one, h]; rfl
def lettersS (c : Int) : List Str := lettersN (mix c 1 % 26).toNat (stepOf (mix c 2 % 6).toNat)
theorem lettersS_nd (c : Int) : (lettersS c).Nodup := letters_nd _ _ (by omega) (by omega)
theorem lettersS_len (c : Int) : (lettersS c).length = 6 := by simp [lettersS, lettersN]
abbrev ABC : Str := "ABCDEFGHIJKLMNOPQRSTUVWXYZ"
abbrev abcS : Str := "abcdefghijklmnopqrstuvwxyz"
theorem abc_at : ∀ n : Nat, n < 26 → ABC.cps.toList[n]? = some (65 + n) := by decide +kernel
theorem abc_len : ABC.length = 26 := by decide +kernel
theorem abcS_at : ∀ n : Nat, n < 26 → abcS.cps.toList[n]? = some (97 + n) := by decide +kernel
theorem abcS_len : abcS.length = 26 := by decide +kernel
theorem steps_at : ∀ n : Nat, n < 6 → atI [PV.int 1, PV.int 3, PV.int 5, PV.int 7, PV.int 9, PV.int 11] (n : Int) = some (PV.int (stepOf n)) := fun n h => atI_nat (by
  match n, h with
  | 0, _ => rfl
  | 1, _ => rfl
  | 2, _ => rfl
  | 3, _ => rfl
  | 4, _ => rfl
  | 5, _ => rfl)
def fLetters : PF := fun ds Q => ∃ c : Int, ds = [.int c] ∧ Q (.lst ((lettersS c).map PV.str)) .new
theorem mono_Letters : MonoF fLetters := fun ds Q Q' m ⟨c, e, q⟩ => ⟨c, e, m _ _ q⟩
theorem scLetters : FnScope ["_law_cell", "_law_letters_here", "_law_start", "_law_step"] ["_law_cell"] (defScope sLetters) := ⟨rfl, rfl, rfl, by decide +kernel, rfl, by decide +kernel, by decide +kernel⟩
theorem ok_Letters {f fM : Addr} {fd fdM : FuncData} (F : Fun K "_law_letters" "_law_letters" sLetters f fd) (Mix : Fx K mg "_law_mix" sMix ["_law_cell", "_law_j"] fM fdM) (B : Bl mg) : FnOk P w K mg base CX0 2 f fd ["_law_cell"] (spP K fLetters) := by
  have GMix : FnOk P w K mg base CX0 1 fM fdM ["_law_cell", "_law_j"] (spP K fMix) := ok_Mix Mix.fn
  refine fn_pure F scLetters (fun ds Q ⟨c, e, _⟩ => by rw [e]; rfl) (fun cdv A outer s H E hr => ?_)
  have hu : (A.deeper (envOfC "_law_letters" (defScope sLetters) s.heap.objs.size f cdv)).units + 16 < cLine := by have q := hr.units; omega
  have nd := scLetters.nd
  refine ⟨_, (puss_cons (pus_set (i := 1) nd rfl (Or.inr rfl) pu_str)
      (puss_cons (pus_set (i := 2) nd rfl (Or.inr rfl) (pu_mod (pu_call GMix mono_Mix hr rfl Mix.mg Mix.fn.kp Mix.bd (pua_cons (pu_var 0) (pua_cons pu_int pua_nil))) pu_int))
      (puss_cons (pus_set (i := 3) nd rfl (Or.inr rfl) (pu_item (pu_lst (pua_cons pu_int (pua_cons pu_int (pua_cons pu_int (pua_cons pu_int (pua_cons pu_int (pua_cons pu_int pua_nil))))))) (pu_mod (pu_call GMix mono_Mix hr rfl Mix.mg Mix.fn.kp Mix.bd (pua_cons (pu_var 0) (pua_cons pu_int pua_nil))) pu_int)))
      (puss_one (pus_ret (pu_comp (N := ["_law_k", "_law_letters_here", "_law_start", "_law_step"]) (k := 1) (js := [1, 2, 3]) rfl (cp_of (sup := defScope sLetters) (XN := ["_law_cell", "_law_letters_here", "_law_start", "_law_step"]) rfl rfl (by decide +kernel)) (by decide) (loc_name (by decide)) (pui_range1 rfl B.range (pua_cons pu_int pua_nil)) ⟨fun _ _ _ _ _ => (pug_name (i := 0) (by show (["_law_k", "_law_letters_here", "_law_start", "_law_step"] : List Str).Nodup; decide +kernel) rfl (Or.inl rfl)), fun _ _ _ _ _ => puts_nil, fun _ _ _ _ _ => (pu_item (pu_var 1) (pu_mod (pu_add (pu_var 2) (pu_mul (pu_var 3) (pu_var 0))) pu_int))⟩)))))), fun ds Q h => ?_⟩
  obtain ⟨c, rfl, q⟩ := h
  have m1 := mix_nn c 1
  have m2 := mix_nn c 2
  have e1 : mix c 1 % 26 = ((mix c 1 % 26).toNat : Int) := by omega
  have e2 : mix c 2 % 6 = ((mix c 2 % 6).toNat : Int) := by omega
  walk_at "pu"
  walk_at "auto"
  refine ⟨_, by rw [e2]; exact steps_at _ (by omega), ?_⟩
  walk_at "go"
  have hl : (rngP 0 (Int.toNat 6)).length = 6 := rngP_len 0 6
  refine ⟨by decide, by decide, by rw [hl]; decide, fun i out => out = ((lettersS c).map PV.str).take i, rfl, ?_, ?_⟩
  · rintro i d out hd - rfl
    obtain ⟨hi, rfl⟩ := rngP_get hd
    have hi6 : i < 6 := hi
    have n0 : ((mix c 1 % 26) + (stepOf (mix c 2 % 6).toNat : Int) * (0 + (i : Int))) % 26 = ((((mix c 1 % 26).toNat + stepOf (mix c 2 % 6).toNat * i) % 26 : Nat) : Int) := by
      rw [Int.zero_add, e1]; omega
    refine ⟨_, rfl, .inr ⟨by omega, by omega⟩, by decide, by rw [abc_len]; decide, 65 + ((mix c 1 % 26).toNat + stepOf (mix c 2 % 6).toNat * i) % 26, ?_, take_snoc ?_⟩
    · rw [n0]
      exact atI_nat (abc_at _ (Nat.mod_lt _ (by decide)))
    · unfold lettersS lettersN
      simp [List.getElem?_range hi6, abc]
  · rintro out - rfl
    rw [hl, List.take_of_length_le (by rw [List.length_map, lettersS_len]; exact Nat.le_refl _)]
    exact q
end
end Q01

set_option Elab.async false
set_option linter.all false
set_option maxRecDepth 100000
set_option maxHeartbeats 4000000
namespace Q01
open PySem PySem.Spec L2 PL
open PyProof.Rows hiding St
open K01 (mix mix_nn abc stepOf lettersN letters_nd)
def fName : PF := fun ds Q => ∃ c : Int, ds = [.int c] ∧ ∀ nm : Str, Q (.str nm) .frz
theorem mono_Name : MonoF fName := fun ds Q Q' m ⟨c, e, q⟩ => ⟨c, e, fun nm => m _ _ (q nm)⟩
def fPattern : PF := fun ds Q => ∃ (ls : List Str) (c : Int) (ns : List Str), ds = [.lst (ls.map PV.str), .int c, .lst (ns.map PV.str)] ∧ ls.length = 6 ∧ ns.length ≤ 100 ∧
  ∀ (nm : Str) (fs : List Str), (∀ x ∈ fs, x ∈ ls) → fs.length ≤ 4 → Q (.tup [.str nm, .tup (fs.map PV.str)]) .frz
theorem mono_Pattern : MonoF fPattern := fun ds Q Q' m ⟨ls, c, ns, e, h1, h2, q⟩ => ⟨ls, c, ns, e, h1, h2, fun nm fs g1 g2 => m _ _ (q nm fs g1 g2)⟩
local macro_rules | `(tactic| walk_at "pu") => `(tactic| simp only [pSeq, pSet, pRet, pRetN, pIf, pDrop, pNext, pBreak, pCont, pDropM, pSetM, mApp, mAppM, mPopAt, mExtT, pUnp, gNameP, gNilP, gConsP, gTupP, t2, i0, i2, pVar, pC, pCons, pNil, pTup, pLst, noOwn, isOwn, tBl, tAndP, tOrP, tNotP, tTru, tTrue, TruP, tNotE, tAndE, tOrE, tIfE, pEq, pIn, pIsN, pIx, pCat, PL.tB, fLen, LenP, fList, fTuple, fSortS, fIsi, tCallP, pSortSet, pJoin, pSlL, pRev, oNone, oSome, pComp, iRange1, iRange2, iLst, iTupl, pFor, pWhile, PL.plain, startP, retOut, blkP, List.map_cons, List.map_nil, List.length_cons, List.length_nil, List.cons_append, List.nil_append, List.replicate, List.getElem?_cons_zero, List.getElem?_cons_succ, List.getElem?_nil, Option.getD_some, Option.getD_none, List.set_cons_zero, List.set_cons_succ, List.cons.injEq,
  Option.some.injEq, Prod.mk.injEq, PV.int.injEq, PV.bl.injEq, PV.str.injEq, PV.lst.injEq, PV.tup.injEq, PV.ty.injEq, exists_eq_left', exists_eq_left, exists_eq', exists_eq, exists_and_left, exists_and_right, exists_eq_right, true_and, and_true, reduceCtorEq, false_and, and_false, false_or, or_false, exists_false, exists_const, Bool.false_eq_true, if_true, if_false, and_assoc, ite_true, ite_false, Bool.not_eq_true', decide_eq_true_eq, decide_eq_false_iff_not, Bool.not_false, Bool.not_true, true_or, or_true, not_true_eq_false, not_false_eq_true, Bool.and_eq_true, Nat.zero_add, Nat.sub_self, Nat.reduceAdd, Nat.reduceSub, implies_true, ne_eq, noMutR, noMut, noMutL, Bool.true_and, Bool.and_true, List.all_nil, fMix, fName])
local macro_rules | `(tactic| walk_at "go") => `(tactic| ((first | (with_reducible refine hold ?_) | (with_reducible refine holdT ?_)); walk_at "pu"))
local macro_rules | `(tactic| walk_at "side") => `(tactic| first | assumption | decide | omega | exact Or.inl ⟨by omega, by omega⟩ | exact Or.inr ⟨by omega, by omega⟩)
local macro_rules | `(tactic| walk_at "auto") => `(tactic| repeat (first | ((with_reducible refine hold ?_); walk_at "pu") | ((with_reducible refine holdT ?_); walk_at "pu") | ((with_reducible refine And.intro ?_ ?_); (· walk_at "side"))))

section
variable {P : Program} {w : World} {K : PySem.W.Frag} {mg : Str → Option Value} {base : Heap}
theorem scName : FnScope ["_law_cell", "_law_letters_here"] ["_law_cell"] (defScope sName) := ⟨rfl, rfl, rfl, by decide +kernel, rfl, by decide +kernel, by decide +kernel⟩
theorem ok_Name {f fM : Addr} {fd fdM : FuncData} (F : Fun K "_law_name" "_law_name" sName f fd) (Mix : Fx K mg "_law_mix" sMix ["_law_cell", "_law_j"] fM fdM) (B : Bl mg) : FnOk P w K mg base CX0 2 f fd ["_law_cell"] (spP K fName) := by
  have GMix : FnOk P w K mg base CX0 1 fM fdM ["_law_cell", "_law_j"] (spP K fMix) := ok_Mix Mix.fn
  refine fn_pure F scName (fun ds Q ⟨c, e, _⟩ => by rw [e]; rfl) (fun cdv A outer s H E hr => ?_)
  have hu : (A.deeper (envOfC "_law_name" (defScope sName) s.heap.objs.size f cdv)).units + 16 < cLine := by have q := hr.units; omega
  have nd := scName.nd
  refine ⟨_, (puss_cons (pus_set (i := 1) nd rfl (Or.inr rfl) pu_str)
      (puss_one (pus_ret (pu_join (pu_comp (N := ["_law_k", "_law_cell", "_law_letters_here"]) (k := 1) (js := [0, 1]) rfl (cp_of (sup := defScope sName) (XN := ["_law_cell", "_law_letters_here"]) rfl rfl (by decide +kernel)) (by decide) (loc_name (by decide)) (pui_range1 rfl B.range (pua_cons (pu_add pu_int (pu_mod (pu_call GMix mono_Mix hr rfl Mix.mg Mix.fn.kp Mix.bd (pua_cons (pu_var 0) (pua_cons pu_int pua_nil))) pu_int)) pua_nil)) ⟨fun _ _ _ _ _ => (pug_name (i := 0) (by show (["_law_k", "_law_cell", "_law_letters_here"] : List Str).Nodup; decide +kernel) rfl (Or.inl rfl)), fun _ _ _ _ _ => puts_nil, fun _ _ _ _ _ => (pu_item (pu_var 2) (pu_mod (pu_call GMix mono_Mix hr rfl Mix.mg Mix.fn.kp Mix.bd (pua_cons (pu_var 1) (pua_cons (pu_add pu_int (pu_var 0)) pua_nil))) pu_int))⟩))))), fun ds Q h => ?_⟩
  obtain ⟨c, rfl, q⟩ := h
  have m3 := mix_nn c 3
  walk_at "pu"
  walk_at "auto"
  generalize hn : (1 + mix c 3 % 8).toNat = n
  have hl : (rngP 0 n).length = n := rngP_len 0 n
  refine ⟨by rw [hl, sizeLine_eq]; omega, fun i out => ∃ ss : List Str, out = ss.map PV.str ∧ ss.length = i ∧ (ss.map (·.length)).sum = i, ⟨[], rfl, rfl, rfl⟩, ?_, ?_⟩
  · rintro i d out hd - ⟨ss, rfl, e1, e2⟩
    obtain ⟨hi, rfl⟩ := rngP_get hd
    have m4 := mix_nn c (4 + (0 + i))
    have e3 : mix c (4 + (0 + i)) % 26 = ((mix c (4 + (0 + i)) % 26).toNat : Int) := by omega
    refine ⟨_, rfl, by omega, by omega, by decide, by rw [abcS_len]; decide, 97 + (mix c (4 + (0 + i)) % 26).toNat, ?_, ss ++ [⟨#[97 + (mix c (4 + (0 + i)) % 26).toNat]⟩], by rw [List.map_append]; rfl, by rw [List.length_append, e1]; rfl, by rw [List.map_append, List.sum_append, e2]; rfl⟩
    rw [e3]
    exact atI_nat (abcS_at _ (by omega))
  · rintro out - ⟨ss, rfl, e1, e2⟩
    rw [hl] at e1 e2
    exact ⟨ss, rfl, by rw [e1, e2]; show n + n * 0 ≤ 16777216; omega, q _⟩
theorem erase_map {α β : Type} (f : α → β) : ∀ (l : List α) (i : Nat), (l.map f).eraseIdx i = (l.eraseIdx i).map f
  | [], _ => rfl
  | _ :: _, 0 => rfl
  | x :: r, i + 1 => by rw [List.map_cons, List.eraseIdx_cons_succ, List.eraseIdx_cons_succ, List.map_cons, erase_map f r i]
theorem plain_strs (n : Nat) (ss : List Str) : (ss.map PV.str).all (PL.plain n) = true := by
  rw [List.all_eq_true]; intro d hd
  obtain ⟨x, _, rfl⟩ := List.mem_map.mp hd
  cases n <;> rfl
theorem scPattern : FnScope ["_law_letters_here", "_law_cell", "_law_names", "_law_some", "_law_found", "_law_k", "_law_name_here"] ["_law_letters_here", "_law_cell", "_law_names"] (defScope sPattern) := ⟨rfl, rfl, rfl, by decide +kernel, rfl, by decide +kernel, by decide +kernel⟩
theorem ok_Pattern {f fM fN : Addr} {fd fdM fdN : FuncData} (F : Fun K "_law_pattern" "_law_pattern" sPattern f fd) (Mix : Fx K mg "_law_mix" sMix ["_law_cell", "_law_j"] fM fdM) (Name : Fx K mg "_law_name" sName ["_law_cell"] fN fdN) (B : Bl mg) :
    FnOk P w K mg base CX0 3 f fd ["_law_letters_here", "_law_cell", "_law_names"] (spP K fPattern) := by
  have GMix : FnOk P w K mg base CX0 2 fM fdM ["_law_cell", "_law_j"] (spP K fMix) := (ok_Mix Mix.fn).mono (by decide)
  have GName : FnOk P w K mg base CX0 2 fN fdN ["_law_cell"] (spP K fName) := ok_Name Name.fn Mix B
  refine fn_pure F scPattern (fun ds Q ⟨ls, c, ns, e, _⟩ => by rw [e]; rfl) (fun cdv A outer s H E hr => ?_)
  have hu : (A.deeper (envOfC "_law_pattern" (defScope sPattern) s.heap.objs.size f cdv)).units + 16 < cLine := by have q := hr.units; omega
  have nd := scPattern.nd
  refine ⟨_, (puss_cons (pus_set (i := 3) nd rfl (Or.inl rfl) (pu_list rfl B.list (pua_cons (pu_var 0) pua_nil)))
      (puss_cons (pus_set (i := 4) nd rfl (Or.inl rfl) (pu_lst pua_nil))
      (puss_cons (pus_for rfl PassesOwn.never (pui_range1 rfl B.range (pua_cons (pu_add pu_int (pu_mod (pu_call GMix mono_Mix hr rfl Mix.mg Mix.fn.kp Mix.bd (pua_cons (pu_var 1) (pua_cons pu_int pua_nil))) pu_int)) pua_nil)) (pug_name (i := 5) nd rfl (Or.inl rfl)) (puss_one (pus_exprM (pum_appendM 4 (pum_popAt 3 (pu_mod (pu_call GMix mono_Mix hr rfl Mix.mg Mix.fn.kp Mix.bd (pua_cons (pu_var 1) (pua_cons (pu_add pu_int (pu_var 5)) pua_nil))) (pu_len rfl B.len (pua_cons (pu_var 3) pua_nil))))))))
      (puss_cons (pus_set (i := 6) nd rfl (Or.inl rfl) (pu_call GName mono_Name hr rfl Name.mg Name.fn.kp Name.bd (pua_cons (pu_var 1) pua_nil)))
      (puss_cons (pus_if (PuW.t (puw_and (put_ne hu (pu_var 2) (pu_lst pua_nil)) (puw_and1 (put_eq hu (pu_mod (pu_call GMix mono_Mix hr rfl Mix.mg Mix.fn.kp Mix.bd (pua_cons (pu_var 1) (pua_cons pu_int pua_nil))) pu_int) pu_int)))) (puss_one (pus_set (i := 6) nd rfl (Or.inl rfl) (pu_item (pu_var 2) (pu_mod (pu_call GMix mono_Mix hr rfl Mix.mg Mix.fn.kp Mix.bd (pua_cons (pu_var 1) (pua_cons pu_int pua_nil))) (pu_len rfl B.len (pua_cons (pu_var 2) pua_nil)))))) puss_nil)
      (puss_one (pus_ret (pu_tup (pua_cons (pu_var 6) (pua_cons (pu_tuple rfl B.tuple (pua_cons (pu_var 4) pua_nil)) pua_nil)))))))))), fun ds Q h => ?_⟩
  obtain ⟨ls, c, ns, rfl, hls, hns, q⟩ := h
  have m12 := mix_nn c 12
  walk_at "pu"
  walk_at "auto"
  generalize hn : (1 + mix c 12 % 4).toNat = n
  have hl : (rngP 0 n).length = n := rngP_len 0 n
  obtain ⟨Iv, hIv⟩ : ∃ Iv : Nat → PEnv → Prop, ∀ i ρ, Iv i ρ ↔ ∃ (ss fs : List Str) (kv : Option (PV × Bool)), ρ = [some (PV.lst (ls.map PV.str), false), some (PV.int c, false), some (PV.lst (ns.map PV.str), false), some (PV.lst (ss.map PV.str), true), some (PV.lst (fs.map PV.str), true), kv, none] ∧
    ss.length + i = 6 ∧ fs.length = i ∧ (∀ x ∈ ss, x ∈ ls) ∧ ∀ x ∈ fs, x ∈ ls := ⟨_, fun _ _ => Iff.rfl⟩
  refine ⟨Iv, (hIv _ _).mpr ⟨ls, [], none, rfl, by omega, rfl, fun x hx => hx, fun x hx => nomatch hx⟩, ?_, ?_⟩
  · intro i d ρ hd hI
    obtain ⟨ss, fs, kv, rfl, l1, l2, s1, s2⟩ := (hIv _ _).mp hI
    obtain ⟨hi, rfl⟩ := rngP_get hd
    have mi := mix_nn c (13 + (0 + i))
    have hpos : (0 : Int) < (ss.length : Int) := by omega
    have b1 := Int.emod_nonneg (mix c (13 + (0 + i))) (Int.ne_of_gt hpos)
    have b2 := Int.emod_lt_of_pos (mix c (13 + (0 + i))) hpos
    have hk : (mix c (13 + (0 + i)) % (ss.length : Int)).toNat < ss.length := by omega
    walk_at "go"
    rw [List.length_map]
    refine ⟨by omega, by omega, hpos, by omega, by omega, _, seqIndex_of b1 b2, _, by rw [List.getElem?_map, List.getElem?_eq_getElem hk]; rfl, by rw [List.length_map, sizeLine_eq]; omega, (hIv _ _).mpr ⟨ss.eraseIdx (mix c (13 + (0 + i)) % (ss.length : Int)).toNat, fs ++ [ss[(mix c (13 + (0 + i)) % (ss.length : Int)).toNat]], _, by rw [erase_map, List.map_append]; rfl, ?_, ?_, fun x hx => s1 x (List.mem_of_mem_eraseIdx hx), fun x hx => ?_⟩⟩
    · rw [List.length_eraseIdx_of_lt hk]; omega
    · rw [List.length_append, l2]; rfl
    · rcases List.mem_append.mp hx with hx | hx
      · exact s2 x hx
      · rw [List.mem_singleton.mp hx]
        exact s1 _ (List.getElem_mem hk)
  · intro ρ hI
    obtain ⟨ss, fs, kv, rfl, l1, l2, s1, s2⟩ := (hIv _ _).mp hI
    walk_at "go"
    intro nm
    have hf4 : fs.length ≤ 4 := by omega
    have fin : ∀ nm', Hold (pRet (pTup (pCons (pVar 6) (pCons (PL.tB fTuple (pCons (pVar 4) pNil)) pNil)))) { nx := fun x => Q PV.non Kd.frz, rt := Q, bk := fun x => False, ct := fun x => False }
        [some (PV.lst (List.map PV.str ls), false), some (PV.int c, false), some (PV.lst (List.map PV.str ns), false), some (PV.lst (List.map PV.str ss), true), some (PV.lst (List.map PV.str fs), true), kv, some (PV.str nm', false)] := fun nm' => by
      walk_at "go"
      exact ⟨by decide, q nm' fs s2 hf4⟩
    walk_at "go"
    refine ⟨by decide, plain_strs _ _, ite2 (fun h1 => ⟨by decide, by decide, by decide, ite2 (fun h2 => ?_) (fun h2 => fin nm)⟩) (fun h1 => fin nm)⟩
    have hne : ns ≠ [] := fun z => h1 (by rw [z]; rfl)
    have hpos : (0 : Int) < (ns.length : Int) := by
      have := List.length_pos_iff.mpr hne
      omega
    have mi := mix_nn c 18
    have b1 := Int.emod_nonneg (mix c 18) (Int.ne_of_gt hpos)
    have b2 := Int.emod_lt_of_pos (mix c 18) hpos
    obtain ⟨j, hj⟩ : ∃ j : Nat, mix c 18 % (ns.length : Int) = (j : Int) := ⟨_, (Int.toNat_of_nonneg b1).symm⟩
    have hk : j < ns.length := by omega
    walk_at "go"
    rw [List.length_map]
    refine ⟨by decide, by decide, hpos, PV.str ns[j], ?_, fin _⟩
    rw [hj]
    exact atI_nat (by rw [List.getElem?_map, List.getElem?_eq_getElem hk]; rfl)
end
end Q01

set_option Elab.async false
set_option linter.all false
set_option maxRecDepth 100000
set_option maxHeartbeats 4000000
namespace Q01
open PySem PySem.Spec L2 PL
open PyProof.Rows hiding St
def ld (ls : List Str) : PV := .tup (ls.map PV.str)
def pd (p : Str × List Str) : PV := .tup [.str p.1, ld p.2]
def fShape : PF := fun ds Q => ∃ ps : List (Str × List Str), ds = [.lst (ps.map pd)] ∧ ps.length ≤ 1000 ∧ Q (.lst (ps.map fun p => ld p.2)) .new
theorem mono_Shape : MonoF fShape := fun ds Q Q' m ⟨ps, e, h, q⟩ => ⟨ps, e, h, m _ _ q⟩
def fLettersOf : PF := fun ds Q => ∃ sh : List (List Str), ds = [.lst (sh.map ld)] ∧ sh.length ≤ 6 ∧ (∀ p ∈ sh, p.length ≤ 4) ∧ ∀ zs : List Str, zs.Nodup → (∀ x, x ∈ zs ↔ ∃ p ∈ sh, x ∈ p) → sortedS zs = true → Q (.lst (zs.map PV.str)) .new
theorem mono_LettersOf : MonoF fLettersOf := fun ds Q Q' m ⟨sh, e, h1, h2, q⟩ => ⟨sh, e, h1, h2, fun zs g1 g2 g3 => m _ _ (q zs g1 g2 g3)⟩
def fIs : PF := fun ds Q => ∃ xs ys : List PV, ds = [.lst xs, .lst ys] ∧ xs.length ≤ 1000 ∧ xs.all (PL.plain 5) = true ∧ ys.all (PL.plain 5) = true ∧ (∀ d ∈ xs, (∃ s, d = .str s) ∨ ∃ ts, d = .tup ts) ∧ Q (.bl (decide (xs = ys))) .frz
theorem mono_Is : MonoF fIs := fun ds Q Q' m ⟨xs, ys, e, h1, h2, h3, h4, q⟩ => ⟨xs, ys, e, h1, h2, h3, h4, m _ _ q⟩
theorem ktt {K : PySem.W.Frag} : PySem.W.kitAny K (.type "tuple") [.type "str", .type "tuple"] = some true := by
  simp only [PySem.W.kitAny, kit_tuple_str, kit_same]
local macro_rules | `(tactic| walk_at "pu") => `(tactic| simp only [pSeq, pSet, pRet, pRetN, pIf, pDrop, pNext, pBreak, pCont, pDropM, pSetM, mApp, mAppM, mPopAt, mExtT, pUnp, gNameP, gNilP, gConsP, gTupP, t2, i0, i2, pVar, pC, pCons, pNil, pTup, pLst, noOwn, isOwn, tBl, tAndP, tOrP, tNotP, tTru, tTrue, TruP, tNotE, tAndE, tOrE, tIfE, pEq, pIn, pIsN, pIx, pCat, PL.tB, fLen, LenP, fList, fTuple, fSortS, fIsi, tCallP, pSortSet, pJoin, pSlL, pRev, oNone, oSome, pComp, iRange1, iRange2, iLst, iTupl, pFor, pWhile, PL.plain, startP, retOut, blkP, List.map_cons, List.map_nil, List.length_cons, List.length_nil, List.cons_append, List.nil_append, List.replicate, List.getElem?_cons_zero, List.getElem?_cons_succ, List.getElem?_nil, Option.getD_some, Option.getD_none, List.set_cons_zero, List.set_cons_succ, List.cons.injEq,
  Option.some.injEq, Prod.mk.injEq, PV.int.injEq, PV.bl.injEq, PV.str.injEq, PV.lst.injEq, PV.tup.injEq, PV.ty.injEq, exists_eq_left', exists_eq_left, exists_eq', exists_eq, exists_and_left, exists_and_right, exists_eq_right, true_and, and_true, reduceCtorEq, false_and, and_false, false_or, or_false, exists_false, exists_const, Bool.false_eq_true, if_true, if_false, and_assoc, ite_true, ite_false, Bool.not_eq_true', decide_eq_true_eq, decide_eq_false_iff_not, Bool.not_false, Bool.not_true, true_or, or_true, not_true_eq_false, not_false_eq_true, Bool.and_eq_true, Nat.zero_add, Nat.sub_self, Nat.reduceAdd, Nat.reduceSub, implies_true, ne_eq, noMutR, noMut, noMutL, Bool.true_and, Bool.and_true, List.all_nil, pd, ld])
local macro_rules | `(tactic| walk_at "go") => `(tactic| ((first | (with_reducible refine hold ?_) | (with_reducible refine holdT ?_)); walk_at "pu"))
local macro_rules | `(tactic| walk_at "side") => `(tactic| first | assumption | decide | omega | exact Or.inl ⟨by omega, by omega⟩ | exact Or.inr ⟨by omega, by omega⟩)
local macro_rules | `(tactic| walk_at "auto") => `(tactic| repeat (first | ((with_reducible refine hold ?_); walk_at "pu") | ((with_reducible refine holdT ?_); walk_at "pu") | ((with_reducible refine And.intro ?_ ?_); (· walk_at "side"))))

theorem iteF' {A B : Prop} (h : B) : if true = false then A else B := by
  rw [if_neg (by decide)]; exact h
section
variable {P : Program} {w : World} {K : PySem.W.Frag} {mg : Str → Option Value} {base : Heap}
theorem scShape : FnScope ["question"] ["question"] (defScope sShape) := ⟨rfl, rfl, rfl, by decide +kernel, rfl, by decide +kernel, by decide +kernel⟩
theorem ok_Shape {f : Addr} {fd : FuncData} (F : Fun K "shape_of" "shape_of" sShape f fd) (B : Bl mg) : FnOk P w K mg base CX0 1 f fd ["question"] (spP K fShape) := by
  refine fn_pure F scShape (fun ds Q ⟨c, e, _⟩ => by rw [e]; rfl) (fun cdv A outer s H E hr => ?_)
  have hu : (A.deeper (envOfC "shape_of" (defScope sShape) s.heap.objs.size f cdv)).units + 16 < cLine := by have q := hr.units; omega
  have nd := scShape.nd
  refine ⟨_, (puss_one (pus_ret (pu_comp (N := ["pattern"]) (k := 1) (js := []) rfl (cp_of (sup := defScope sShape) (XN := ["question"]) rfl rfl (by decide +kernel)) (by decide) (loc_name (by decide)) (pui_list (pu_var 0)) ⟨fun _ _ _ _ _ => (pug_name (i := 0) (by show (["pattern"] : List Str).Nodup; decide +kernel) rfl (Or.inl rfl)), fun _ _ _ _ _ => puts_nil, fun _ _ _ _ _ => (pu_tuple rfl B.tuple (pua_cons (pu_item (pu_var 0) pu_int) pua_nil))⟩))), fun ds Q h => ?_⟩
  obtain ⟨ps, rfl, hz, q⟩ := h
  walk_at "pu"
  refine ⟨by rw [List.length_map, sizeLine_eq]; omega, fun i out => out = (ps.map fun p => ld p.2).take i, rfl, ?_, ?_⟩
  · rintro i d out hd - rfl
    rw [List.getElem?_map] at hd
    cases hp : ps[i]? with
    | none => rw [hp] at hd; cases hd
    | some p =>
      rw [hp] at hd
      cases hd
      refine ⟨[.str p.1, ld p.2], .inr rfl, ld p.2, rfl, p.2.map PV.str, .inr rfl, take_snoc ?_⟩
      rw [List.getElem?_map, hp]; rfl
  · rintro out - rfl
    rw [List.length_map, List.take_of_length_le (by rw [List.length_map]; exact Nat.le_refl _)]
    exact q
theorem scLettersOf : FnScope ["shape", "found", "letters"] ["shape"] (defScope sLettersOf) := ⟨rfl, rfl, rfl, by decide +kernel, rfl, by decide +kernel, by decide +kernel⟩
theorem ok_LettersOf {f : Addr} {fd : FuncData} (F : Fun K "letters_of" "letters_of" sLettersOf f fd) (B : Bl mg) : FnOk P w K mg base CX0 1 f fd ["shape"] (spP K fLettersOf) := by
  refine fn_pure F scLettersOf (fun ds Q ⟨c, e, _⟩ => by rw [e]; rfl) (fun cdv A outer s H E hr => ?_)
  have hu : (A.deeper (envOfC "letters_of" (defScope sLettersOf) s.heap.objs.size f cdv)).units + 16 < cLine := by have q := hr.units; omega
  have nd := scLettersOf.nd
  refine ⟨_, (puss_cons (pus_set (i := 1) nd rfl (Or.inl rfl) (pu_lst pua_nil))
      (puss_cons (pus_for rfl PassesOwn.never (pui_list (pu_var 0)) (pug_name (i := 2) nd rfl (Or.inl rfl)) (puss_one (pus_exprM (pum_extT 1 (pu_var 2)))))
      (puss_one (pus_ret (pu_sortSet rfl rfl B.sorted rfl B.set (pu_var 1)))))), fun ds Q h => ?_⟩
  obtain ⟨sh, rfl, h6, h4, q⟩ := h
  walk_at "pu"
  walk_at "auto"
  obtain ⟨Iv, hIv⟩ : ∃ Iv : Nat → PEnv → Prop, ∀ i ρ, Iv i ρ ↔ ∃ (fs : List Str) (kv : Option (PV × Bool)), ρ = [some (PV.lst (List.map ld sh), false), some (PV.lst (fs.map PV.str), true), kv] ∧ fs.length ≤ 4 * i ∧ ∀ x, x ∈ fs ↔ ∃ p ∈ sh.take i, x ∈ p := ⟨_, fun _ _ => Iff.rfl⟩
  refine ⟨Iv, (hIv _ _).mpr ⟨[], none, rfl, Nat.zero_le _, fun x => by simp⟩, ?_, ?_⟩
  · intro i d ρ hd hI
    obtain ⟨fs, kv, rfl, l1, hm⟩ := (hIv _ _).mp hI
    rw [List.getElem?_map] at hd
    cases hp : sh[i]? with
    | none => rw [hp] at hd; cases hd
    | some p =>
      rw [hp] at hd
      cases hd
      have hil : i < sh.length := (List.getElem?_eq_some_iff.mp hp).1
      have hle := h4 p (List.mem_of_getElem? hp)
      walk_at "go"
      refine ⟨by rw [List.length_map, List.length_map, sizeLine_eq]; omega, (hIv _ _).mpr ⟨fs ++ p, _, by rw [List.map_append], by rw [List.length_append]; omega, fun y => ?_⟩⟩
      rw [List.mem_append, hm, List.take_add_one, hp]
      simp only [Option.toList_some, List.mem_append, List.mem_singleton]
      constructor
      · rintro (⟨p, h1, h2⟩ | h)
        · exact ⟨p, .inl h1, h2⟩
        · exact ⟨_, .inr rfl, h⟩
      · rintro ⟨p, h1 | rfl, h2⟩
        · exact .inl ⟨p, h1, h2⟩
        · exact .inr h2
  · intro ρ hI
    obtain ⟨fs, kv, rfl, l1, hm⟩ := (hIv _ _).mp hI
    rw [List.length_map] at l1 hm
    walk_at "go"
    refine ⟨fs, rfl, by omega, fun zs n1 n2 n3 => q zs n1 (fun x => ?_) n3⟩
    rw [n2, hm, List.take_of_length_le (Nat.le_refl _)]
theorem scIs : FnScope ["_law_found", "_law_due"] ["_law_found", "_law_due"] (defScope sIs) := ⟨rfl, rfl, rfl, by decide +kernel, rfl, by decide +kernel, by decide +kernel⟩
theorem ok_Is {f : Addr} {fd : FuncData} (F : Fun K "_law_is" "_law_is" sIs f fd) (B : Bl mg) : FnOk P w K mg base CX0 1 f fd ["_law_found", "_law_due"] (spP K fIs) := by
  refine fn_pure F scIs (fun ds Q ⟨c, d, e, _⟩ => by rw [e]; rfl) (fun cdv A outer s H E hr => ?_)
  have hu : (A.deeper (envOfC "_law_is" (defScope sIs) s.heap.objs.size f cdv)).units + 16 < cLine := by have q := hr.units; omega
  have nd := scIs.nd
  refine ⟨_, (puss_cons (pus_if (PuW.t (puw_or (put_not (put_tru (pu_isi (K := K) rfl rfl B.isi (pua_cons (pu_var 0) (pua_cons (pu_ty rfl B.list bList) pua_nil))))) (puw_or1 (put_ne hu (pu_var 0) (pu_var 1))))) (puss_one (pus_ret pu_bl)) puss_nil)
      (puss_one (pus_ret (pu_eq hu (pu_comp (N := ["_law_one"]) (k := 1) (js := []) rfl (cp_of (sup := defScope sIs) (XN := ["_law_found", "_law_due"]) rfl rfl (by decide +kernel)) (by decide) (loc_name (by decide)) (pui_list (pu_var 0)) ⟨fun _ _ _ _ _ => (pug_name (i := 0) (by show (["_law_one"] : List Str).Nodup; decide +kernel) rfl (Or.inl rfl)), fun _ _ _ _ _ => (puts_one (put_not (put_tru (pu_isi (K := K) rfl rfl B.isi (pua_cons (pu_var 0) (pua_cons (pu_tup (pua_cons (pu_ty rfl B.str bStr) (pua_cons (pu_ty rfl B.tuple bTuple) pua_nil))) pua_nil)))))), fun _ _ _ _ _ => (pu_var 0)⟩) (pu_lst pua_nil))))), fun ds Q h => ?_⟩
  obtain ⟨xs, ys, rfl, hz, p1, p2, hty, q⟩ := h
  walk_at "pu"
  refine ⟨true, rfl, ?_⟩
  refine iteF' ⟨p1, p2, ite2 (fun e1 => ?_) (fun e1 => ?_)⟩
  · walk_at "go"
    rw [decide_eq_false e1] at q
    exact q
  · have e1' : xs = ys := by simpa using e1
    walk_at "go"
    walk_at "go"
    refine ⟨by rw [sizeLine_eq]; omega, fun i out => out = [], rfl, ?_, ?_⟩
    · rintro i d out hd - rfl
      rcases hty d (List.mem_of_getElem? hd) with ⟨x, rfl⟩ | ⟨ts, rfl⟩
      · exact ⟨by decide, (fun n z => nomatch z), ["str", "tuple"], rfl, true, rfl, iteF' rfl⟩
      · exact ⟨by decide, (fun n z => nomatch z), ["str", "tuple"], rfl, true, ktt, iteF' rfl⟩
    · rintro out - rfl
      rw [decide_eq_true e1'] at q
      exact ⟨by decide, rfl, by rw [decide_eq_true rfl]; exact q⟩
end
end Q01

set_option Elab.async false
set_option linter.all false
set_option maxRecDepth 100000
set_option maxHeartbeats 4000000
namespace Q01
open PySem PySem.Spec L2 PL
open PyProof.Rows hiding St
def fRight : PF := fun ds Q => ∃ (ps : List (Str × List Str)) (ls : List Str), ds = [.lst (ps.map pd), .lst (ls.map PV.str)] ∧ ps.length ≤ 6 ∧ (∀ p ∈ ps, p.2.length ≤ 4 ∧ ∀ x ∈ p.2, x ∈ ls) ∧ ls.Nodup ∧ ls.length = 6 ∧ Q (.bl true) .frz
theorem mono_Right : MonoF fRight := fun ds Q Q' m ⟨ps, ls, e, h1, h2, h3, h4, q⟩ => ⟨ps, ls, e, h1, h2, h3, h4, m _ _ q⟩
local macro_rules | `(tactic| walk_at "pu") => `(tactic| simp only [pSeq, pSet, pRet, pRetN, pIf, pDrop, pNext, pBreak, pCont, pDropM, pSetM, mApp, mAppM, mPopAt, mExtT, pUnp, gNameP, gNilP, gConsP, gTupP, t2, i0, i2, pVar, pC, pCons, pNil, pTup, pLst, noOwn, isOwn, tBl, tAndP, tOrP, tNotP, tTru, tTrue, TruP, tNotE, tAndE, tOrE, tIfE, pEq, pIn, pIsN, pIx, pCat, PL.tB, fLen, LenP, fList, fTuple, fSortS, fIsi, tCallP, pSortSet, pJoin, pSlL, pRev, oNone, oSome, pComp, iRange1, iRange2, iLst, iTupl, pFor, pWhile, PL.plain, startP, retOut, blkP, List.map_cons, List.map_nil, List.length_cons, List.length_nil, List.cons_append, List.nil_append, List.replicate, List.getElem?_cons_zero, List.getElem?_cons_succ, List.getElem?_nil, Option.getD_some, Option.getD_none, List.set_cons_zero, List.set_cons_succ, List.cons.injEq,
  Option.some.injEq, Prod.mk.injEq, PV.int.injEq, PV.bl.injEq, PV.str.injEq, PV.lst.injEq, PV.tup.injEq, PV.ty.injEq, exists_eq_left', exists_eq_left, exists_eq', exists_eq, exists_and_left, exists_and_right, exists_eq_right, true_and, and_true, reduceCtorEq, false_and, and_false, false_or, or_false, exists_false, exists_const, Bool.false_eq_true, if_true, if_false, and_assoc, ite_true, ite_false, Bool.not_eq_true', decide_eq_true_eq, decide_eq_false_iff_not, Bool.not_false, Bool.not_true, true_or, or_true, not_true_eq_false, not_false_eq_true, Bool.and_eq_true, Nat.zero_add, Nat.sub_self, Nat.reduceAdd, Nat.reduceSub, implies_true, ne_eq, noMutR, noMut, noMutL, Bool.true_and, Bool.and_true, List.all_nil, fShape, fLettersOf, fIs])
local macro_rules | `(tactic| walk_at "go") => `(tactic| ((first | (with_reducible refine hold ?_) | (with_reducible refine holdT ?_)); walk_at "pu"))
local macro_rules | `(tactic| walk_at "side") => `(tactic| first | assumption | decide | omega | exact Or.inl ⟨by omega, by omega⟩ | exact Or.inr ⟨by omega, by omega⟩)
local macro_rules | `(tactic| walk_at "auto") => `(tactic| repeat (first | ((with_reducible refine hold ?_); walk_at "pu") | ((with_reducible refine holdT ?_); walk_at "pu") | ((with_reducible refine And.intro ?_ ?_); (· walk_at "side"))))

theorem filt_snoc {α : Type} {l : List α} {i : Nat} {o : α} (f : α → Bool) (h : l[i]? = some o) : (l.take (i + 1)).filter f = (l.take i).filter f ++ (if f o = true then [o] else []) := by
  rw [List.take_add_one, h, List.filter_append]
  simp [List.filter_cons]
theorem plain_ld (ls : List Str) (n : Nat) : PL.plain (n + 1) (ld ls) = true := by
  unfold ld; simp only [PL.plain]; exact plain_strs n ls
theorem plain_pd (p : Str × List Str) (n : Nat) : PL.plain (n + 2) (pd p) = true := by
  unfold pd; simp only [PL.plain, List.all_cons, List.all_nil, Bool.and_true, plain_ld]
theorem plain_map {α : Type} {f : α → PV} {n : Nat} (h : ∀ a, PL.plain n (f a) = true) (l : List α) : (l.map f).all (PL.plain n) = true := by
  rw [List.all_eq_true]; intro d hd
  obtain ⟨x, _, rfl⟩ := List.mem_map.mp hd
  exact h x
theorem noMut_strs : ∀ (ss : List Str), noMutL (ss.map PV.str) = true
  | [] => by rw [List.map_nil]; simp only [noMutL]
  | s :: r => by rw [List.map_cons]; simp only [noMutL, noMut, noMut_strs r, Bool.and_self]
theorem noMut_ld (l : List Str) : noMut (ld l) = true := by unfold ld; simp only [noMut]; exact noMut_strs l
theorem noMut_lds : ∀ (ss : List (List Str)), noMutL (ss.map ld) = true
  | [] => by rw [List.map_nil]; simp only [noMutL]
  | s :: r => by rw [List.map_cons]; simp only [noMutL, noMut_ld, noMut_lds r, Bool.and_self]
theorem mem_ld {x : Str} {ls : List Str} : PV.str x ∈ ls.map PV.str ↔ x ∈ ls := by
  rw [List.mem_map]
  constructor
  · rintro ⟨y, h, e⟩; cases e; exact h
  · exact fun h => ⟨x, h, rfl⟩
section
variable {P : Program} {w : World} {K : PySem.W.Frag} {mg : Str → Option Value} {base : Heap}
theorem scRight : FnScope ["_law_question", "_law_letters_here", "_law_kept", "_law_due", "_law_known", "_law_shape", "_law_found"] ["_law_question", "_law_letters_here"] (defScope sRight) := ⟨rfl, rfl, rfl, by decide +kernel, rfl, by decide +kernel, by decide +kernel⟩
theorem ok_Right {f f1 f2 f3 : Addr} {fd fd1 fd2 fd3 : FuncData} (F : Fun K "_law_right" "_law_right" sRight f fd) (Shape : Fx K mg "shape_of" sShape ["question"] f1 fd1) (LettersOf : Fx K mg "letters_of" sLettersOf ["shape"] f2 fd2) (Is : Fx K mg "_law_is" sIs ["_law_found", "_law_due"] f3 fd3) (B : Bl mg) :
    FnOk P w K mg base CX0 2 f fd ["_law_question", "_law_letters_here"] (spP K fRight) := by
  have GShape : FnOk P w K mg base CX0 1 f1 fd1 ["question"] (spP K fShape) := ok_Shape Shape.fn B
  have GLettersOf : FnOk P w K mg base CX0 1 f2 fd2 ["shape"] (spP K fLettersOf) := ok_LettersOf LettersOf.fn B
  have GIs : FnOk P w K mg base CX0 1 f3 fd3 ["_law_found", "_law_due"] (spP K fIs) := ok_Is Is.fn B
  refine fn_pure F scRight (fun ds Q ⟨ls, c, e, _⟩ => by rw [e]; rfl) (fun cdv A outer s H E hr => ?_)
  have hu : (A.deeper (envOfC "_law_right" (defScope sRight) s.heap.objs.size f cdv)).units + 16 < cLine := by have q := hr.units; omega
  have nd := scRight.nd
  refine ⟨_, (puss_cons (pus_set (i := 2) nd rfl (Or.inl rfl) (pu_list rfl B.list (pua_cons (pu_var 0) pua_nil)))
      (puss_cons (pus_set (i := 3) nd rfl (Or.inr rfl) (pu_comp (N := ["_law_name_here", "_law_some"]) (k := 2) (js := []) rfl (cp_of (sup := defScope sRight) (XN := ["_law_question", "_law_letters_here", "_law_kept", "_law_due", "_law_known", "_law_shape", "_law_found"]) rfl rfl (by decide +kernel)) (by decide) (loc_tup (loc2 (by decide) (by decide))) (pui_list (pu_var 0)) ⟨fun _ _ _ _ _ => (pug_tup (n := 2) rfl (pugs_cons (pug_name (i := 0) (by show (["_law_name_here", "_law_some"] : List Str).Nodup; decide +kernel) rfl (Or.inl rfl)) (pugs_cons (pug_name (i := 1) (by show (["_law_name_here", "_law_some"] : List Str).Nodup; decide +kernel) rfl (Or.inl rfl)) pugs_nil))), fun _ _ _ _ _ => puts_nil, fun _ _ _ _ _ => (pu_var 1)⟩))
      (puss_cons (pus_comp (i := 4) (N := ["_law_letter", "_law_due"]) (k := 1) (js := [3]) rfl (cp_of (sup := defScope sRight) (XN := ["_law_question", "_law_letters_here", "_law_kept", "_law_due", "_law_known", "_law_shape", "_law_found"]) rfl rfl (by decide +kernel)) (by decide) (loc_name (by decide)) (pui_list (pu_sortS rfl B.sorted (pua_cons (pu_var 1) pua_nil))) ⟨fun _ _ _ _ _ => (pug_name (i := 0) (by show (["_law_letter", "_law_due"] : List Str).Nodup; decide +kernel) rfl (Or.inr rfl)), fun _ _ _ _ _ => (puts_one (put_ne hu (pu_comp (N := ["_law_some", "_law_letter"]) (k := 1) (js := [0]) rfl (cp_of (sup := relabS ⟨.function, [(".0", .local), ("_law_letter", .cell), ("_law_due", .free)], false, false, []⟩ (defScope sRight)) (XN := ["_law_letter", "_law_due"]) rfl rfl (by decide +kernel)) (by decide) (loc_name (by decide)) (pui_list (pu_var 1)) ⟨fun _ _ _ _ _ => (pug_name (i := 0) (by show (["_law_some", "_law_letter"] : List Str).Nodup; decide +kernel) rfl (Or.inl rfl)), fun _ _ _ _ _ => (puts_one (put_in hu (pu_var 1) (pu_var 0))), fun _ _ _ _ _ => (pu_var 0)⟩) (pu_lst pua_nil))), fun _ _ _ _ _ => (pu_var 0)⟩ nd rfl rfl)
      (puss_cons (pus_set (i := 5) nd rfl (Or.inl rfl) (pu_call GShape mono_Shape hr rfl Shape.mg Shape.fn.kp Shape.bd (pua_cons (pu_var 0) pua_nil)))
      (puss_cons (pus_if (PuW.t (puw_or (put_not (put_tru (pu_call GIs mono_Is hr rfl Is.mg Is.fn.kp Is.bd (pua_cons (pu_var 5) (pua_cons (pu_var 3) pua_nil))))) (puw_or (put_not (put_tru (pu_call GIs mono_Is hr rfl Is.mg Is.fn.kp Is.bd (pua_cons (pu_call GLettersOf mono_LettersOf hr rfl LettersOf.mg LettersOf.fn.kp LettersOf.bd (pua_cons (pu_var 5) pua_nil)) (pua_cons (pu_var 4) pua_nil))))) (puw_or1 (put_ne hu (pu_var 5) (pu_var 3)))))) (puss_one (pus_ret pu_bl)) puss_nil)
      (puss_cons (pus_if (put_not (put_tru (pu_call GIs mono_Is hr rfl Is.mg Is.fn.kp Is.bd (pua_cons (pu_call GLettersOf mono_LettersOf hr rfl LettersOf.mg LettersOf.fn.kp LettersOf.bd (pua_cons (pu_rev (pu_var 3)) pua_nil)) (pua_cons (pu_var 4) pua_nil))))) (puss_one (pus_ret pu_bl)) puss_nil)
      (puss_cons (pus_set (i := 6) nd rfl (Or.inl rfl) (pu_call GLettersOf mono_LettersOf hr rfl LettersOf.mg LettersOf.fn.kp LettersOf.bd (pua_cons (pu_var 3) pua_nil)))
      (puss_cons (pus_exprM (pum_append 6 pu_non))
      (puss_cons (pus_exprM (pum_append 5 pu_non))
      (puss_one (pus_ret (pu_and (pu_eq hu (pu_var 0) (pu_var 2)) (pu_and (pu_eq hu (pu_call GLettersOf mono_LettersOf hr rfl LettersOf.mg LettersOf.fn.kp LettersOf.bd (pua_cons (pu_var 3) pua_nil)) (pu_var 4)) (pu_one (pu_eq hu (pu_call GShape mono_Shape hr rfl Shape.mg Shape.fn.kp Shape.bd (pua_cons (pu_var 0) pua_nil)) (pu_var 3)))))))))))))))), fun ds Q h => ?_⟩
  obtain ⟨ps, ls, rfl, h6, hp, nl, l6, q⟩ := h
  walk_at "pu"
  walk_at "auto"
  refine ⟨by rw [List.length_map, sizeLine_eq]; omega, fun i out => out = (ps.map fun p => ld p.2).take i, rfl, ?_, ?_⟩
  · rintro i d out hd - rfl
    rw [List.getElem?_map] at hd
    cases hpi : ps[i]? with
    | none => rw [hpi] at hd; cases hd
    | some p =>
      rw [hpi] at hd
      cases hd
      exact ⟨_, rfl, rfl, _, _, rfl, _, _, rfl, rfl, take_snoc (by rw [List.getElem?_map, hpi]; rfl)⟩
  rintro out - rfl
  rw [List.length_map, List.take_of_length_le (by rw [List.length_map]; exact Nat.le_refl _)]
  walk_at "go"
  refine ⟨ls, rfl, by omega, fun zs hz hs => ?_⟩
  have lz : zs.length = 6 := by rw [hz.length_eq]; exact l6
  refine ⟨by rw [List.length_map, sizeLine_eq]; omega, fun i out => out = ((zs.take i).filter fun x => decide (∃ p ∈ ps.map (·.2), x ∈ p)).map PV.str, rfl, ?_, ?_⟩
  · rintro i d out hd - rfl
    rw [List.getElem?_map] at hd
    cases hzi : zs[i]? with
    | none => rw [hzi] at hd; cases hd
    | some x =>
      rw [hzi] at hd
      cases hd
      refine ⟨by rw [List.length_map, sizeLine_eq]; omega, fun j o => o = ((ps.take j).filter fun p => decide (x ∈ p.2)).map fun p => ld p.2, rfl, ?_, ?_⟩
      · rintro j e o he - rfl
        rw [List.getElem?_map] at he
        cases hpj : ps[j]? with
        | none => rw [hpj] at he; cases he
        | some p =>
          rw [hpj] at he
          cases he
          refine ⟨p.2.map PV.str, .inr rfl, rfl, plain_strs _ _, ?_⟩
          dsimp only
          rw [filt_snoc _ hpj, List.map_append]
          refine ite2 (fun h => ?_) (fun h => ?_)
          · rw [if_pos (decide_eq_true (mem_ld.mp h))]; rfl
          · rw [if_neg (by rw [decide_eq_true_eq]; exact fun z => h (mem_ld.mpr z)), List.map_nil, List.append_nil]
      · rintro o - rfl
        rw [List.length_map, List.take_of_length_le (Nat.le_refl _)]
        refine ⟨by decide, plain_map (fun p => plain_ld _ 4) _, ?_⟩
        dsimp only
        rw [filt_snoc _ hzi, List.map_append]
        refine ite2 (fun h => ?_) (fun h => ?_)
        · rw [if_pos]
          · rfl
          · rw [decide_eq_true_eq]
            cases hf : ps.filter (fun p => decide (x ∈ p.2)) with
            | nil => rw [hf] at h; exact absurd rfl h
            | cons p r =>
              have hm : p ∈ ps.filter (fun p => decide (x ∈ p.2)) := by rw [hf]; exact List.mem_cons_self
              obtain ⟨m1, m2⟩ := List.mem_filter.mp hm
              exact ⟨p.2, List.mem_map.mpr ⟨p, m1, rfl⟩, of_decide_eq_true m2⟩
        · rw [if_neg, List.map_nil, List.append_nil]
          rw [decide_eq_true_eq]
          rintro ⟨l, hl, hx⟩
          obtain ⟨p, m1, rfl⟩ := List.mem_map.mp hl
          have hm : p ∈ ps.filter (fun p => decide (x ∈ p.2)) := List.mem_filter.mpr ⟨m1, decide_eq_true hx⟩
          rw [Classical.not_not, List.map_eq_nil_iff] at h
          rw [h] at hm
          exact nomatch hm
  rintro out - rfl
  rw [List.length_map, List.take_of_length_le (Nat.le_refl _)]
  generalize hkn : zs.filter (fun x => decide (∃ p ∈ ps.map (·.2), x ∈ p)) = known
  have lk : known.length ≤ 6 := by rw [← hkn, ← lz]; exact List.length_filter_le _ _
  have hsh : List.map (fun p : Str × List Str => ld p.2) ps = (ps.map (·.2)).map ld := by rw [List.map_map]; rfl
  have h4 : ∀ p ∈ ps.map (·.2), p.length ≤ 4 := fun p hq => by
    obtain ⟨r, m1, rfl⟩ := List.mem_map.mp hq
    exact (hp r m1).1
  have hsub : ∀ p ∈ ps.map (·.2), ∀ x ∈ p, x ∈ ls := fun p hq => by
    obtain ⟨r, m1, rfl⟩ := List.mem_map.mp hq
    exact (hp r m1).2
  have same : ∀ ks : List Str, ks.Nodup → (∀ x, x ∈ ks ↔ ∃ p ∈ ps.map (·.2), x ∈ p) → sortedS ks = true → ks = known := fun ks n1 n2 n3 => by
    rw [← hkn]
    exact (K01.known_eq hz nl hs n1 n3 n2 hsub _ (fun x => decide_eq_true_iff)).symm
  have tyL : ∀ (l : List (List Str)), ∀ d ∈ l.map ld, (∃ s, d = PV.str s) ∨ ∃ ts, d = PV.tup ts := fun l d hd => by
    obtain ⟨r, _, rfl⟩ := List.mem_map.mp hd
    exact .inr ⟨_, rfl⟩
  have tyS : ∀ (l : List Str), ∀ d ∈ l.map PV.str, (∃ s, d = PV.str s) ∨ ∃ ts, d = PV.tup ts := fun l d hd => by
    obtain ⟨r, _, rfl⟩ := List.mem_map.mp hd
    exact .inl ⟨_, rfl⟩
  have ln : ∀ l : List (List Str), l.length ≤ 6 → (l.map ld).length ≤ 1000 := fun l h => by rw [List.length_map]; omega
  have l7 : (ps.map (·.2)).length ≤ 6 := by rw [List.length_map]; exact h6
  have lnS : ∀ ks : List Str, ks = known → (ks.map PV.str).length ≤ 1000 := fun ks h => by rw [h, List.length_map]; omega
  have plL : ∀ l : List (List Str), (l.map ld).all (PL.plain 5) = true := fun l => plain_map (fun p => plain_ld p 4) l
  walk_at "go"
  refine ⟨ps, rfl, by omega, ?_⟩
  rw [hsh]
  walk_at "go"
  refine ⟨ln _ l7, plL _, plL _, tyL _, _, rfl, l7, h4, fun ks n1 n2 n3 => ?_⟩
  have ek := same ks n1 n2 n3
  refine ⟨noMut_strs _, lnS ks ek, plain_strs _ _, plain_strs _ _, tyS _, ite2 (fun h => absurd (by rw [ek]) h) (fun _ => ⟨plL _, plL _, ?_⟩)⟩
  walk_at "go"
  walk_at "go"
  refine ⟨(ps.map (·.2)).reverse, by rw [List.map_reverse], by rw [List.length_reverse]; exact l7, fun p hq => h4 p (List.mem_reverse.mp hq), fun k2 m1 m2 m3 => ?_⟩
  have e2 := same k2 m1 (fun x => by rw [m2]; constructor <;> (rintro ⟨p, a, b⟩; exact ⟨p, by simpa using a, b⟩)) m3
  refine ⟨lnS k2 e2, plain_strs _ _, plain_strs _ _, tyS _, ite2 (fun h => absurd (by rw [e2]) h) (fun _ => ?_)⟩
  walk_at "go"
  walk_at "go"
  refine ⟨_, rfl, l7, h4, fun k3 r1 r2 r3 => ⟨noMut_strs _, ?_⟩⟩
  have e3 := same k3 r1 r2 r3
  walk_at "go"
  refine ⟨by rw [List.length_map, e3, sizeLine_eq]; omega, ?_⟩
  walk_at "go"
  refine ⟨by rw [List.length_map, sizeLine_eq]; omega, ?_⟩
  walk_at "go"
  have plP : (List.map pd ps).all (PL.plain 5) = true := plain_map (fun p => plain_pd p 3) ps
  refine ⟨plP, plP, _, rfl, l7, h4, fun k4 s1 s2 s3 => ⟨noMut_strs _, plain_strs _ _, plain_strs _ _, ?_⟩⟩
  rw [if_pos (by rw [same k4 s1 s2 s3])]
  refine ⟨ps, rfl, by omega, by rw [hsh]; exact plL _, plL _, ?_⟩
  rw [decide_eq_true hsh]
  exact q
end
end Q01

set_option Elab.async false
set_option linter.all false
set_option maxRecDepth 100000
set_option maxHeartbeats 4000000
namespace Q01
open PySem PySem.Spec L2 PL
open PyProof.Rows hiding St
open K01 (mix mix_nn)
def fLaw : PF := fun ds Q => ∃ ns : List Int, ds = [.lst (ns.map PV.int)] ∧ ns.length ≤ 63 ∧ Q (.bl true) .frz
theorem mono_Law : MonoF fLaw := fun ds Q Q' m ⟨ns, e, h, q⟩ => ⟨ns, e, h, m _ _ q⟩
local macro_rules | `(tactic| walk_at "pu") => `(tactic| simp only [pSeq, pSet, pRet, pRetN, pIf, pDrop, pNext, pBreak, pCont, pDropM, pSetM, mApp, mAppM, mPopAt, mExtT, pUnp, gNameP, gNilP, gConsP, gTupP, t2, i0, i2, pVar, pC, pCons, pNil, pTup, pLst, noOwn, isOwn, tBl, tAndP, tOrP, tNotP, tTru, tTrue, TruP, tNotE, tAndE, tOrE, tIfE, pEq, pIn, pIsN, pIx, pCat, PL.tB, fLen, LenP, fList, fTuple, fSortS, fIsi, tCallP, pSortSet, pJoin, pSlL, pRev, oNone, oSome, pComp, iRange1, iRange2, iLst, iTupl, pFor, pWhile, PL.plain, startP, retOut, blkP, List.map_cons, List.map_nil, List.length_cons, List.length_nil, List.cons_append, List.nil_append, List.replicate, List.getElem?_cons_zero, List.getElem?_cons_succ, List.getElem?_nil, Option.getD_some, Option.getD_none, List.set_cons_zero, List.set_cons_succ, List.cons.injEq,
  Option.some.injEq, Prod.mk.injEq, PV.int.injEq, PV.bl.injEq, PV.str.injEq, PV.lst.injEq, PV.tup.injEq, PV.ty.injEq, exists_eq_left', exists_eq_left, exists_eq', exists_eq, exists_and_left, exists_and_right, exists_eq_right, true_and, and_true, reduceCtorEq, false_and, and_false, false_or, or_false, exists_false, exists_const, Bool.false_eq_true, if_true, if_false, and_assoc, ite_true, ite_false, Bool.not_eq_true', decide_eq_true_eq, decide_eq_false_iff_not, Bool.not_false, Bool.not_true, true_or, or_true, not_true_eq_false, not_false_eq_true, Bool.and_eq_true, Nat.zero_add, Nat.sub_self, Nat.reduceAdd, Nat.reduceSub, implies_true, ne_eq, noMutR, noMut, noMutL, Bool.true_and, Bool.and_true, List.all_nil, fMix, fLetters, fPattern, fRight])
local macro_rules | `(tactic| walk_at "go") => `(tactic| ((first | (with_reducible refine hold ?_) | (with_reducible refine holdT ?_)); walk_at "pu"))
local macro_rules | `(tactic| walk_at "side") => `(tactic| first | assumption | decide | omega | exact Or.inl ⟨by omega, by omega⟩ | exact Or.inr ⟨by omega, by omega⟩)
local macro_rules | `(tactic| walk_at "auto") => `(tactic| repeat (first | ((with_reducible refine hold ?_); walk_at "pu") | ((with_reducible refine holdT ?_); walk_at "pu") | ((with_reducible refine And.intro ?_ ?_); (· walk_at "side"))))

theorem cut_mem {xs : List PV} {lo hi : Option Int} {d : PV} (h : d ∈ cutP xs lo hi) : d ∈ xs := List.mem_of_mem_drop (List.mem_of_mem_take h)
theorem cut_len {xs : List PV} {a b : Nat} (h1 : a ≤ xs.length) (h2 : a ≤ b) : (cutP xs (some (a : Int)) (some (b : Int))).length = min b xs.length - a := by
  have e1 : HT.sIx xs.length 0 (some (a : Int)) = min a xs.length := by
    show (if (a : Int) < 0 then ((a : Int) + (xs.length : Int)).toNat else min (a : Int).toNat xs.length) = _
    rw [if_neg (by omega)]; simp
  have e2 : HT.sIx xs.length xs.length (some (b : Int)) = min b xs.length := by
    show (if (b : Int) < 0 then ((b : Int) + (xs.length : Int)).toNat else min (b : Int).toNat xs.length) = _
    rw [if_neg (by omega)]; simp
  unfold cutP
  rw [e1, e2, List.length_take, List.length_drop]
  omega
section
variable {P : Program} {w : World} {K : PySem.W.Frag} {mg : Str → Option Value} {base : Heap}
theorem scLaw : FnScope ["_law_script", "_law_cells", "_law_at", "_law_letters_here", "_law_question", "_law_cell"] ["_law_script"] (defScope sLaw) := ⟨rfl, rfl, rfl, by decide +kernel, rfl, by decide +kernel, by decide +kernel⟩
theorem ok_Law {f f1 f2 f3 f4 f5 f6 f7 f8 : Addr} {fd fd1 fd2 fd3 fd4 fd5 fd6 fd7 fd8 : FuncData} (F : Fun K "law" "law" sLaw f fd) (Mix : Fx K mg "_law_mix" sMix ["_law_cell", "_law_j"] f1 fd1) (Letters : Fx K mg "_law_letters" sLetters ["_law_cell"] f2 fd2) (Name : Fx K mg "_law_name" sName ["_law_cell"] f3 fd3)
    (Pattern : Fx K mg "_law_pattern" sPattern ["_law_letters_here", "_law_cell", "_law_names"] f4 fd4) (Is : Fx K mg "_law_is" sIs ["_law_found", "_law_due"] f5 fd5) (Right : Fx K mg "_law_right" sRight ["_law_question", "_law_letters_here"] f6 fd6) (Shape : Fx K mg "shape_of" sShape ["question"] f7 fd7) (LettersOf : Fx K mg "letters_of" sLettersOf ["shape"] f8 fd8) (B : Bl mg) :
    FnOk P w K mg base CX0 4 f fd ["_law_script"] (spP K fLaw) := by
  have GMix : FnOk P w K mg base CX0 3 f1 fd1 ["_law_cell", "_law_j"] (spP K fMix) := (ok_Mix Mix.fn).mono (by decide)
  have GLetters : FnOk P w K mg base CX0 3 f2 fd2 ["_law_cell"] (spP K fLetters) := (ok_Letters Letters.fn Mix B).mono (by decide)
  have GPattern : FnOk P w K mg base CX0 3 f4 fd4 ["_law_letters_here", "_law_cell", "_law_names"] (spP K fPattern) := ok_Pattern Pattern.fn Mix Name B
  have GRight : FnOk P w K mg base CX0 3 f6 fd6 ["_law_question", "_law_letters_here"] (spP K fRight) := (ok_Right Right.fn Shape LettersOf Is B).mono (by decide)
  refine fn_pure F scLaw (fun ds Q ⟨c, e, _⟩ => by rw [e]; rfl) (fun cdv A outer s H E hr => ?_)
  have hu : (A.deeper (envOfC "law" (defScope sLaw) s.heap.objs.size f cdv)).units + 16 < cLine := by have q := hr.units; omega
  have nd := scLaw.nd
  refine ⟨_, (puss_cons (pus_set (i := 1) nd rfl (Or.inl rfl) (pu_slice (pu_var 0) puo_none (puo_some pu_int)))
      (puss_cons (pus_set (i := 2) nd rfl (Or.inl rfl) pu_int)
      (puss_cons (pus_while PassesOwn.never (put_lt (pu_var 2) (pu_len rfl B.len (pua_cons (pu_var 1) pua_nil))) (puss_cons (pus_set (i := 3) nd rfl (Or.inl rfl) (pu_call GLetters mono_Letters hr rfl Letters.mg Letters.fn.kp Letters.bd (pua_cons (pu_item (pu_var 1) (pu_var 2)) pua_nil)))
      (puss_cons (pus_set (i := 4) nd rfl (Or.inl rfl) (pu_lst pua_nil))
      (puss_cons (pus_for rfl PassesOwn.never (pui_list (pu_slice (pu_var 1) (puo_some (pu_var 2)) (puo_some (pu_add (pu_add (pu_var 2) pu_int) (pu_mod (pu_call GMix mono_Mix hr rfl Mix.mg Mix.fn.kp Mix.bd (pua_cons (pu_item (pu_var 1) (pu_var 2)) (pua_cons pu_int pua_nil))) pu_int))))) (pug_name (i := 5) nd rfl (Or.inl rfl)) (puss_one (pus_exprM (pum_append 4 (pu_call GPattern mono_Pattern hr rfl Pattern.mg Pattern.fn.kp Pattern.bd (pua_cons (pu_var 3) (pua_cons (pu_var 5) (pua_cons (pu_comp (N := ["_law_name_here", "_law_some"]) (k := 2) (js := []) rfl (cp_of (sup := defScope sLaw) (XN := ["_law_script", "_law_cells", "_law_at", "_law_letters_here", "_law_question", "_law_cell"]) rfl rfl (by decide +kernel)) (by decide) (loc_tup (loc2 (by decide) (by decide))) (pui_list (pu_var 4)) ⟨fun _ _ _ _ _ => (pug_tup (n := 2) rfl (pugs_cons (pug_name (i := 0) (by show (["_law_name_here", "_law_some"] : List Str).Nodup; decide +kernel) rfl (Or.inl rfl)) (pugs_cons (pug_name (i := 1) (by show (["_law_name_here", "_law_some"] : List Str).Nodup; decide +kernel) rfl (Or.inl rfl)) pugs_nil))), fun _ _ _ _ _ => puts_nil, fun _ _ _ _ _ => (pu_var 0)⟩) pua_nil))))))))
      (puss_cons (pus_if (put_not (put_tru (pu_call GRight mono_Right hr rfl Right.mg Right.fn.kp Right.bd (pua_cons (pu_var 4) (pua_cons (pu_var 3) pua_nil))))) (puss_one (pus_ret pu_bl)) puss_nil)
      (puss_one (pus_set (i := 2) nd rfl (Or.inl rfl) (pu_add (pu_var 2) (pu_len rfl B.len (pua_cons (pu_var 4) pua_nil))))))))))
      (puss_one (pus_ret pu_bl))))), fun ds Q h => ?_⟩
  obtain ⟨ns, rfl, h63, q⟩ := h
  walk_at "pu"
  walk_at "auto"
  have hcut : cutP (ns.map PV.int) none (some 63) = ns.map PV.int := by
    unfold cutP
    have e1 : HT.sIx (ns.map PV.int).length 0 none = 0 := rfl
    have e2 : (ns.map PV.int).length ≤ HT.sIx (ns.map PV.int).length (ns.map PV.int).length (some 63) := by
      rw [List.length_map]
      unfold HT.sIx
      simp
      omega
    rw [e1, List.drop_zero, Nat.sub_zero, List.take_of_length_le e2]
  rw [hcut]
  obtain ⟨Iv, hIv⟩ : ∃ Iv : Nat → PEnv → Prop, ∀ m ρ, Iv m ρ ↔ ∃ (at' : Nat) (v3 v4 v5 : Option (PV × Bool)), ρ = [some (PV.lst (ns.map PV.int), false), some (PV.lst (ns.map PV.int), true), some (PV.int at', false), v3, v4, v5] ∧ m + at' = 200 ∧ at' ≤ 70 := ⟨_, fun _ _ => Iff.rfl⟩
  refine ⟨Iv, ⟨200, (hIv _ _).mpr ⟨0, none, none, none, rfl, rfl, by omega⟩⟩, ?_⟩
  intro m ρ hI
  obtain ⟨at', v3, v4, v5, rfl, hm, ha⟩ := (hIv _ _).mp hI
  walk_at "go"
  rw [List.length_map]
  refine ite2 (fun hlt => ?_) (fun hlt => ?_)
  · have hlt' : at' < ns.length := by omega
    have hat : atI (ns.map PV.int) (at' : Int) = some (PV.int ns[at']) := atI_nat (by rw [List.getElem?_map, List.getElem?_eq_getElem hlt']; rfl)
    walk_at "go"
    refine ⟨_, hat, _, rfl, ?_⟩
    walk_at "go"
    refine ⟨by decide, ?_⟩
    walk_at "go"
    refine ⟨_, hat, _, rfl, by decide, by decide, by decide, ?_⟩
    have m20 := mix_nn ns[at'] 20
    obtain ⟨b, hb⟩ : ∃ b : Nat, (at' : Int) + 1 + mix ns[at'] 20 % 6 = (b : Int) := ⟨(at' + 1 + mix ns[at'] 20 % 6).toNat, by omega⟩
    rw [hb]
    have hln : (ns.map PV.int).length = ns.length := List.length_map _
    have hcl := cut_len (xs := ns.map PV.int) (a := at') (b := b) (by omega) (by omega)
    generalize hcs : cutP (ns.map PV.int) (some (at' : Int)) (some (b : Int)) = cs at hcl ⊢
    have hcm : ∀ d ∈ cs, ∃ z : Int, d = .int z := fun d hd => by
      rw [← hcs] at hd
      obtain ⟨z, _, rfl⟩ := List.mem_map.mp (cut_mem hd)
      exact ⟨z, rfl⟩
    have hc6 : cs.length ≤ 6 ∧ 1 ≤ cs.length := by omega
    obtain ⟨Jv, hJv⟩ : ∃ Jv : Nat → PEnv → Prop, ∀ i ρ, Jv i ρ ↔ ∃ (ps : List (Str × List Str)) (v5 : Option (PV × Bool)), ρ = [some (PV.lst (ns.map PV.int), false), some (PV.lst (ns.map PV.int), true), some (PV.int at', false), some (PV.lst ((lettersS ns[at']).map PV.str), true), some (PV.lst (ps.map pd), true), v5] ∧
      ps.length = i ∧ ∀ p ∈ ps, p.2.length ≤ 4 ∧ ∀ x ∈ p.2, x ∈ lettersS ns[at'] := ⟨_, fun _ _ => Iff.rfl⟩
    refine ⟨Jv, (hJv _ _).mpr ⟨[], _, rfl, rfl, fun p hp => nomatch hp⟩, ?_, ?_⟩
    · intro i d ρ hd hJ
      obtain ⟨ps, w5, rfl, hl, hps⟩ := (hJv _ _).mp hJ
      obtain ⟨z, rfl⟩ := hcm d (List.mem_of_getElem? hd)
      have hil : i < cs.length := (List.getElem?_eq_some_iff.mp hd).1
      walk_at "go"
      have hpl : (ps.map pd).length = i := by rw [List.length_map]; exact hl
      refine ⟨by rw [hpl, sizeLine_eq]; omega, by rw [hpl, sizeLine_eq]; omega, fun j out => out = (ps.map fun p => PV.str p.1).take j, rfl, ?_, ?_⟩
      · rintro j e out he - rfl
        rw [List.getElem?_map] at he
        cases hpj : ps[j]? with
        | none => rw [hpj] at he; cases he
        | some p =>
          rw [hpj] at he
          cases he
          exact ⟨_, rfl, rfl, _, _, rfl, _, _, rfl, rfl, take_snoc (by rw [List.getElem?_map, hpj]; rfl)⟩
      · rintro out - rfl
        refine ⟨lettersS ns[at'], rfl, ps.map (·.1), ?_, lettersS_len _, by rw [List.length_map]; omega, fun nm fs h1 h2 => ⟨noMut_strs _, (hJv _ _).mpr ⟨ps ++ [(nm, fs)], _, by rw [List.map_append]; rfl, by rw [List.length_append, hl]; rfl, fun p hp => ?_⟩⟩⟩
        · rw [List.length_map, List.take_of_length_le (by rw [List.length_map]; exact Nat.le_refl _), List.map_map]; rfl
        · rcases List.mem_append.mp hp with hp | hp
          · exact hps p hp
          · rw [List.mem_singleton.mp hp]; exact ⟨h2, h1⟩
    · intro ρ hJ
      obtain ⟨ps, w5, rfl, hl, hps⟩ := (hJv _ _).mp hJ
      walk_at "go"
      refine ⟨ps, rfl, lettersS ns[at'], rfl, by omega, hps, lettersS_nd _, lettersS_len _, ?_⟩
      walk_at "go"
      walk_at "go"
      have e9 : (at' : Int) + ((ps.map pd).length : Int) = ((at' + ps.length : Nat) : Int) := by rw [List.length_map]; omega
      rw [e9]
      exact ⟨m - ps.length, by omega, (hIv _ _).mpr ⟨at' + ps.length, _, _, _, rfl, by omega, by omega⟩⟩
  · walk_at "go"
    exact q
end
theorem law_true : ∀ ns : List Int, ns.length ≤ 63 → fLaw [.lst (ns.map PV.int)] fun d k => d = .bl true := fun ns h => ⟨ns, rfl, h, rfl⟩
end Q01

set_option Elab.async false
set_option linter.all false
set_option maxRecDepth 100000
set_option maxHeartbeats 4000000
namespace PL
open PySem PySem.Spec L2
open PyProof.Rows hiding St
/-- THE HEAD: the law's promise, at the heap behind the top. F, the promise of the law's def, may use that base is part of the heap (so K.In base, base.Ns mainGlobals mg stand in Mod) -/
theorem law_callP {P : Program} {w : World} {K : PySem.W.Frag} {mg mb : Str → Option Value} {CX : CXT} {k : Nat} {fa a : Addr} {fd : FuncData} {x : Str} {sp : Sp} {s₁ : Shared} {vs : List Value} {ns : List Int}
    (KX : K.In s₁.heap) (hns : s₁.heap.Ns mainGlobals mg) (hb : s₁.heap.Ns builtinsNs mb) (hbb : ∀ x : Str, x ≠ "__name__" → mb x = bootBuiltins x) (hlim : s₁.heap.NoLimit) (hg : s₁.gens = #[])
    (ha : s₁.heap.get? a = some { cls := .type "list", data := .seq vs.toArray }) (hi : IntsAre vs ns) (hl : ns.length ≤ sizeLine) (hr : Room k callerA)
    (F : ∀ base : Heap, K.In base → base.Ns mainGlobals mg → FnOk P w K mg base CX k fa fd [x] sp) (hbind : ∀ (s : Shared) (u : Value), BindsTo s fd ⟨[u], []⟩ [(x, u)])
    (hsp : ∀ H : Hp, Only H → (Rd H a (.lst (ns.map V.int)) ∨ PL.KX K a (ns.map V.int)) → sp [.ref a] H (fun v _ => v = .bl true) fun _ _ _ => False)
    (hCX : ∀ H e s', CX [] H s₁ (fun _ _ _ => False) e s' → False) :
    codeAny (model P w) callerA (.call (.ref fa) ⟨[.ref a], []⟩) (fun r s' => r = .ok (.ret (.bool true)) ∧ OldK s₁.heap s'.heap ∧ s'.os = s₁.os ∧ AllBare s'.gens) s₁ := by
  have rv := vals_ints hi
  have lenV := hi.length
  -- from an abstract heap in which nothing but the script may be tracked
  have core : ∀ H : Hp, Only H → (Rd H a (.lst (ns.map V.int)) ∨ PL.KX K a (ns.map V.int)) → HOk P w H s₁.heap → (∀ b, H b ≠ none → b = a) → (H a ≠ none → K.lookup a = none) →
      codeAny (model P w) callerA (.call (.ref fa) ⟨[.ref a], []⟩) (fun r s' => r = .ok (.ret (.bool true)) ∧ OldK s₁.heap s'.heap ∧ s'.os = s₁.os ∧ AllBare s'.gens) s₁ := by
    intro H hO hS hok hA hK
    have base_of : ∀ {b : Addr} {o : Obj}, s₁.heap.get? b = some o → H b = none → (hidT s₁.heap H).get? b = some o := fun e n => hidT_get e n
    have noA : ∀ {b : Addr} {o : Obj} {es : Array DictEntry} {ep : Nat}, s₁.heap.get? b = some o → o.data = .dict es ep → H b = none := fun {b o es ep} e d => by
      cases q : H b with
      | none => rfl
      | some u =>
        have e' : b = a := hA b (by rw [q]; simp)
        subst e'
        rw [ha] at e; cases e
        have d' : Data.seq vs.toArray _ = Data.dict es ep := d
        cases d'
    have nsK : ∀ {b : Addr} {m : Str → Option Value}, s₁.heap.Ns b m → (hidT s₁.heap H).Ns b m := fun {b m} ⟨o, es, ep, e, d, r⟩ => ⟨o, es, ep, base_of e (noA e d), d, r⟩
    have hKb : K.In (hidT s₁.heap H) := fun b o e => base_of (KX b o e) (by
      cases q : H b with
      | none => rfl
      | some u =>
        have e' : b = a := hA b (by rw [q]; simp)
        subst e'
        rw [hK (by rw [q]; simp)] at e; cases e)
    have hM : Mod K mg (hidT s₁.heap H) := ⟨hKb, nsK hns, ⟨mb, nsK hb, hbb⟩, let ⟨mc, h1, h2⟩ := hlim; ⟨mc, nsK h1, h2⟩⟩
    have e0 : Env0 P w K mg (hidT s₁.heap H) callerA [] s₁ H := ⟨rfl, hM, fun b o e => of_hidT e, Nat.le_of_eq (hidT_size _ _), trivial, fun b hb => absurd (show b ∈ ([] : List Addr) from hb) (by simp), hok, .of_eq hg⟩
    refine codeAny_mono ((F _ hKb (nsK hns)).run callerA [] s₁ H ⟨[.ref a], []⟩ [.ref a] [.ref a] _ _ hr e0 (hbind s₁ (.ref a)) (.cons rfl .nil) (hsp H hO hS)) fun r s' h => ?_
    cases r with
    | error e => exact (hCX H e s' h).elim
    | ok fl =>
      cases fl with
      | next => exact False.elim h
      | brk => exact False.elim h
      | cont => exact False.elim h
      | ret u =>
        obtain ⟨v, H', os, bare, un, hok', r', q⟩ := h
        have q' : v = .bl true := q
        subst q'
        obtain rfl : u = Value.bool true := r'
        refine ⟨rfl, OldK.of_keep fun b o e => ?_, os, bare⟩
        cases q : H b with
        | none => exact un.keep b o e q (by intro z; exact absurd (show b ∈ ([] : List Addr) from z) (by simp)) (by simp)
        | some u =>
          rcases hO b with z | ⟨ob, xs, z⟩
          · rw [q] at z; cases z
          · have z2 := un.frzs b ob _ z
            obtain ⟨e1, _⟩ := hok b _ z
            obtain ⟨e2, _⟩ := hok' b _ z2
            rw [e] at e1; cases e1
            exact e2
  cases hk : K.lookup a with
  | some o =>
    -- the script is one of the module's own objects
    have e := KX a o hk
    rw [ha] at e
    cases e
    refine core (fun _ => none) (fun _ => .inl rfl) (.inr ⟨vs.toArray, _, hk, by rw [List.size_toArray, lenV]; exact hl, by simpa using rv⟩) (fun b u z => by have z' : (none : Option HO) = some u := z; cases z') (fun b z => absurd rfl z) fun z => absurd rfl z
  | none =>
    refine core (fun b => if b = a then some (.frz { cls := .type "list", data := .seq vs.toArray } (.lst (ns.map V.int))) else none) (fun b => ?_) (.inl (.inr ⟨{ cls := .type "list", data := .seq vs.toArray }, if_pos rfl⟩)) (fun b u z => ?_) (fun b z => ?_) fun _ => hk
    · by_cases hb : b = a
      · exact .inr ⟨_, _, if_pos hb⟩
      · exact .inl (if_neg hb)
    · by_cases hb : b = a
      · have z' := (if_pos hb).symm.trans z
        cases z'
        subst hb
        exact ⟨ha, by rw [List.length_map]; exact hl, vs, _, rv, ha⟩
      · have z' := (if_neg hb).symm.trans z
        cases z'
    · by_cases hb : b = a
      · exact hb
      · exact absurd (if_neg hb) z

theorem denl_ints {K : PySem.W.Frag} {Fz : FZ} {H : Hp} : ∀ (ns : List Int), DenL K Fz H (ns.map PV.int) (ns.map V.int)
  | [] => DenL.nil
  | n :: r => by rw [List.map_cons, List.map_cons]; exact DenL.cons (by simp only [Den]) (denl_ints r)
/-- the law's own promise, from its pure one -/
theorem law_sp {K : PySem.W.Frag} {H : Hp} {a : Addr} {ns : List Int} {F : PF} {E : XK} (m : MonoF F) (h : Rd H a (.lst (ns.map V.int)) ∨ KX K a (ns.map V.int)) (hF : F [.lst (ns.map PV.int)] fun d k => d = .bl true) : spP K F [.ref a] H (fun v _ => v = .bl true) E := by
  refine ⟨fun b => H b ≠ none, [.lst (ns.map PV.int)], fun b hb => hb, DenL.cons ?_ DenL.nil, m _ _ _ (fun d k e v F' H' p => ?_) hF⟩
  · simp only [Den]
    refine ⟨a, ns.map V.int, rfl, ?_, denl_ints ns⟩
    rcases h with h | h
    · refine .inl ⟨?_, h⟩
      rcases h with h | ⟨o, h⟩ <;> (show H a ≠ none; rw [h]; exact fun z => nomatch z)
    · exact .inr h
  · subst e
    cases k with
    | frz => have q : Den K F' H' (.bl true) v := p.opd; simpa only [Den] using q
    | new => obtain ⟨b, _, _, _, o⟩ := p.opd; exact o.elim
    | own i => obtain ⟨z, _⟩ := p.opd; simp at z
theorem walkP {l : PySem.W.OpenLaw} {k : Nat} {q : Program} {loose : List Str} {XP : (Str → Option Value) → Heap → Prop} {YP : World → Heap → Prop} {d : DefRec} {K : Params → PySem.W.Frag} {FL : PF} {x : Str}
    (hn : l.most = some 63) (hdf : d.params.defaults = []) (hr : Room k callerA) (m : MonoF FL)
    (hY : ∀ (w : World) (h : Heap), YP w h → (K w.params).In h)
    (F : ∀ (w : World) (mg : Str → Option Value) (fa : Addr) (h : Heap), (K w.params).In h → h.Ns mainGlobals mg → mg d.name = some (.ref fa) →
      ∃ fd : FuncData, (∀ (s : Shared) (u : Value), BindsTo s fd ⟨[u], []⟩ [(x, u)]) ∧ ∀ base : Heap, (K w.params).In base → base.Ns mainGlobals mg → FnOk l.prog w (K w.params) mg base CX0 k fa fd [x] (spP (K w.params) FL))
    (hF : ∀ ns : List Int, ns.length ≤ 63 → FL [.lst (ns.map PV.int)] fun d k => d = .bl true) :
    PySem.W.WalkO q loose XP YP l.row.toRowW d [] (fun f vs => PySem.call f vs) := by
  refine Att.attach_call hn hdf fun w s₀ s₁ mg mb fa o pm cd doc a vs ns G Y ho hd hcd hmg hobj hints hlen hg => ?_
  have KX := hY w _ Y
  obtain ⟨fd, hb, hFn⟩ := F w mg fa _ KX G.T.g hmg
  exact law_callP KX G.T.g G.T.b G.T.builtins G.T.nolimit hg hobj hints (Nat.le_trans hlen (by decide)) hr hFn hb (fun H hO hS => law_sp m hS (hF ns hlen)) fun H e s' z => z
end PL

set_option Elab.async false
set_option linter.all false
set_option maxRecDepth 100000
set_option maxHeartbeats 4000000
namespace Q01
open PySem PySem.Spec L2 PL
open PyProof.Rows hiding St
theorem all_mk {l : PySem.W.OpenLaw} {w : World} {K : PySem.W.Frag} {h : Heap} {mg : Str → Option Value} {fa f0 f1 f2 f3 f4 f5 f6 f7 f8 : Addr} (X : K.In h) (G : h.Ns mainGlobals mg) (hfa : mg "law" = some (.ref fa))
    {od0 an0 od1 an1 od2 an2 od3 an3 od4 an4 od5 an5 od6 an6 od7 an7 od8 an8 : Option Addr} {sl0 sl1 sl2 sl3 sl4 sl5 sl6 sl7 sl8 : Array (Option Value)} {oc0 kV0 dc0 pm0 cd0 ct0 oc1 kV1 dc1 pm1 cd1 ct1 oc2 kV2 dc2 pm2 cd2 ct2 oc3 kV3 dc3 pm3 cd3 ct3 oc4 kV4 dc4 pm4 cd4 ct4 oc5 kV5 dc5 pm5 cd5 ct5 oc6 kV6 dc6 pm6 cd6 ct6 oc7 kV7 dc7 pm7 cd7 ct7 oc8 kV8 dc8 pm8 cd8 ct8 : Value}
    (a0 : PySem.W.nsIn K mainGlobals "shape_of" = some (some (.ref f0))) (l0 : K.lookup f0 = some ⟨oc0, od0, .func (PySem.W.fnOf "shape_of" "shape_of" (defArgs sShape) (defBody sShape) (defScope sShape) .none kV0 dc0 pm0 an0 cd0 ct0), sl0⟩) (c0 : PySem.W.codeIn K cd0 "shape_of" = true) (k0 : PySem.W.keepIn K (.ref f0) = true)
    (a1 : PySem.W.nsIn K mainGlobals "letters_of" = some (some (.ref f1))) (l1 : K.lookup f1 = some ⟨oc1, od1, .func (PySem.W.fnOf "letters_of" "letters_of" (defArgs sLettersOf) (defBody sLettersOf) (defScope sLettersOf) .none kV1 dc1 pm1 an1 cd1 ct1), sl1⟩) (c1 : PySem.W.codeIn K cd1 "letters_of" = true) (k1 : PySem.W.keepIn K (.ref f1) = true)
    (a2 : PySem.W.nsIn K mainGlobals "_law_mix" = some (some (.ref f2))) (l2 : K.lookup f2 = some ⟨oc2, od2, .func (PySem.W.fnOf "_law_mix" "_law_mix" (defArgs sMix) (defBody sMix) (defScope sMix) .none kV2 dc2 pm2 an2 cd2 ct2), sl2⟩) (c2 : PySem.W.codeIn K cd2 "_law_mix" = true) (k2 : PySem.W.keepIn K (.ref f2) = true)
    (a3 : PySem.W.nsIn K mainGlobals "_law_letters" = some (some (.ref f3))) (l3 : K.lookup f3 = some ⟨oc3, od3, .func (PySem.W.fnOf "_law_letters" "_law_letters" (defArgs sLetters) (defBody sLetters) (defScope sLetters) .none kV3 dc3 pm3 an3 cd3 ct3), sl3⟩) (c3 : PySem.W.codeIn K cd3 "_law_letters" = true) (k3 : PySem.W.keepIn K (.ref f3) = true)
    (a4 : PySem.W.nsIn K mainGlobals "_law_name" = some (some (.ref f4))) (l4 : K.lookup f4 = some ⟨oc4, od4, .func (PySem.W.fnOf "_law_name" "_law_name" (defArgs sName) (defBody sName) (defScope sName) .none kV4 dc4 pm4 an4 cd4 ct4), sl4⟩) (c4 : PySem.W.codeIn K cd4 "_law_name" = true) (k4 : PySem.W.keepIn K (.ref f4) = true)
    (a5 : PySem.W.nsIn K mainGlobals "_law_pattern" = some (some (.ref f5))) (l5 : K.lookup f5 = some ⟨oc5, od5, .func (PySem.W.fnOf "_law_pattern" "_law_pattern" (defArgs sPattern) (defBody sPattern) (defScope sPattern) .none kV5 dc5 pm5 an5 cd5 ct5), sl5⟩) (c5 : PySem.W.codeIn K cd5 "_law_pattern" = true) (k5 : PySem.W.keepIn K (.ref f5) = true)
    (a6 : PySem.W.nsIn K mainGlobals "_law_is" = some (some (.ref f6))) (l6 : K.lookup f6 = some ⟨oc6, od6, .func (PySem.W.fnOf "_law_is" "_law_is" (defArgs sIs) (defBody sIs) (defScope sIs) .none kV6 dc6 pm6 an6 cd6 ct6), sl6⟩) (c6 : PySem.W.codeIn K cd6 "_law_is" = true) (k6 : PySem.W.keepIn K (.ref f6) = true)
    (a7 : PySem.W.nsIn K mainGlobals "_law_right" = some (some (.ref f7))) (l7 : K.lookup f7 = some ⟨oc7, od7, .func (PySem.W.fnOf "_law_right" "_law_right" (defArgs sRight) (defBody sRight) (defScope sRight) .none kV7 dc7 pm7 an7 cd7 ct7), sl7⟩) (c7 : PySem.W.codeIn K cd7 "_law_right" = true) (k7 : PySem.W.keepIn K (.ref f7) = true)
    (a8 : PySem.W.nsIn K mainGlobals "law" = some (some (.ref f8))) (l8 : K.lookup f8 = some ⟨oc8, od8, .func (PySem.W.fnOf "law" "law" (defArgs sLaw) (defBody sLaw) (defScope sLaw) .none kV8 dc8 pm8 an8 cd8 ct8), sl8⟩) (c8 : PySem.W.codeIn K cd8 "law" = true) (k8 : PySem.W.keepIn K (.ref f8) = true)
    (z0 : PySem.W.nsIn K mainGlobals "range" = some none)
    (z1 : PySem.W.nsIn K mainGlobals "len" = some none)
    (z2 : PySem.W.nsIn K mainGlobals "list" = some none)
    (z3 : PySem.W.nsIn K mainGlobals "tuple" = some none)
    (z4 : PySem.W.nsIn K mainGlobals "sorted" = some none)
    (z5 : PySem.W.nsIn K mainGlobals "set" = some none)
    (z6 : PySem.W.nsIn K mainGlobals "isinstance" = some none)
    (z7 : PySem.W.nsIn K mainGlobals "str" = some none)
    (z8 : PySem.W.nsIn K mainGlobals "int" = some none)
    (z9 : PySem.W.nsIn K mainGlobals "bool" = some none)
    (z10 : PySem.W.nsIn K mainGlobals "dict" = some none)
    (z11 : PySem.W.nsIn K mainGlobals "enumerate" = some none)
    (z12 : PySem.W.nsIn K mainGlobals "zip" = some none)
    (z13 : PySem.W.nsIn K mainGlobals "min" = some none)
    (z14 : PySem.W.nsIn K mainGlobals "max" = some none)
    (z15 : PySem.W.nsIn K mainGlobals "sum" = some none)
    (z16 : PySem.W.nsIn K mainGlobals "all" = some none)
    (z17 : PySem.W.nsIn K mainGlobals "any" = some none)
    (z18 : PySem.W.nsIn K mainGlobals "reversed" = some none)
    (z19 : PySem.W.nsIn K mainGlobals "abs" = some none) :
    ∃ fd : FuncData, (∀ (s : Shared) (v : Value), BindsTo s fd ⟨[v], []⟩ [("_law_script", v)]) ∧ ∀ base : Heap, K.In base → base.Ns mainGlobals mg → FnOk l.prog w K mg base CX0 4 fa fd ["_law_script"] (spP K fLaw) := by
  have e := hfa.symm.trans (PySem.W.mg_of X G a8)
  cases e
  have F0 := fun_mk (st := sShape) l0 c0 k0
  have X0 : Fx K mg "shape_of" sShape ["question"] f0 _ := ⟨F0, F0.binds (ps := ["question"]) fun _ _ _ _ _ _ us hl => match us, hl with | [_], _ => rfl, PySem.W.mg_of X G a0⟩
  have F1 := fun_mk (st := sLettersOf) l1 c1 k1
  have X1 : Fx K mg "letters_of" sLettersOf ["shape"] f1 _ := ⟨F1, F1.binds (ps := ["shape"]) fun _ _ _ _ _ _ us hl => match us, hl with | [_], _ => rfl, PySem.W.mg_of X G a1⟩
  have F2 := fun_mk (st := sMix) l2 c2 k2
  have X2 : Fx K mg "_law_mix" sMix ["_law_cell", "_law_j"] f2 _ := ⟨F2, F2.binds (ps := ["_law_cell", "_law_j"]) fun _ _ _ _ _ _ us hl => match us, hl with | [_, _], _ => rfl, PySem.W.mg_of X G a2⟩
  have F3 := fun_mk (st := sLetters) l3 c3 k3
  have X3 : Fx K mg "_law_letters" sLetters ["_law_cell"] f3 _ := ⟨F3, F3.binds (ps := ["_law_cell"]) fun _ _ _ _ _ _ us hl => match us, hl with | [_], _ => rfl, PySem.W.mg_of X G a3⟩
  have F4 := fun_mk (st := sName) l4 c4 k4
  have X4 : Fx K mg "_law_name" sName ["_law_cell"] f4 _ := ⟨F4, F4.binds (ps := ["_law_cell"]) fun _ _ _ _ _ _ us hl => match us, hl with | [_], _ => rfl, PySem.W.mg_of X G a4⟩
  have F5 := fun_mk (st := sPattern) l5 c5 k5
  have X5 : Fx K mg "_law_pattern" sPattern ["_law_letters_here", "_law_cell", "_law_names"] f5 _ := ⟨F5, F5.binds (ps := ["_law_letters_here", "_law_cell", "_law_names"]) fun _ _ _ _ _ _ us hl => match us, hl with | [_, _, _], _ => rfl, PySem.W.mg_of X G a5⟩
  have F6 := fun_mk (st := sIs) l6 c6 k6
  have X6 : Fx K mg "_law_is" sIs ["_law_found", "_law_due"] f6 _ := ⟨F6, F6.binds (ps := ["_law_found", "_law_due"]) fun _ _ _ _ _ _ us hl => match us, hl with | [_, _], _ => rfl, PySem.W.mg_of X G a6⟩
  have F7 := fun_mk (st := sRight) l7 c7 k7
  have X7 : Fx K mg "_law_right" sRight ["_law_question", "_law_letters_here"] f7 _ := ⟨F7, F7.binds (ps := ["_law_question", "_law_letters_here"]) fun _ _ _ _ _ _ us hl => match us, hl with | [_, _], _ => rfl, PySem.W.mg_of X G a7⟩
  have F8 := fun_mk (st := sLaw) l8 c8 k8
  have B : Bl mg := ⟨PySem.W.mg_none_of X G z0, PySem.W.mg_none_of X G z1, PySem.W.mg_none_of X G z2, PySem.W.mg_none_of X G z3, PySem.W.mg_none_of X G z4, PySem.W.mg_none_of X G z5, PySem.W.mg_none_of X G z6, PySem.W.mg_none_of X G z7, PySem.W.mg_none_of X G z8, PySem.W.mg_none_of X G z9, PySem.W.mg_none_of X G z10, PySem.W.mg_none_of X G z11, PySem.W.mg_none_of X G z12, PySem.W.mg_none_of X G z13, PySem.W.mg_none_of X G z14, PySem.W.mg_none_of X G z15, PySem.W.mg_none_of X G z16, PySem.W.mg_none_of X G z17, PySem.W.mg_none_of X G z18, PySem.W.mg_none_of X G z19⟩
  exact ⟨PySem.W.fnOf "law" "law" (defArgs sLaw) (defBody sLaw) (defScope sLaw) .none kV8 dc8 pm8 an8 cd8 ct8, fun s v => .of_eq rfl, fun base _ _ => ok_Law F8 X2 X3 X4 X5 X6 X7 X0 X1 B⟩
end Q01
open PySem PySem.W
set_option maxRecDepth 100000 in
set_option maxHeartbeats 0 in
theorem PySem.Challenge.cw_joinwood_k01_shapes_holds : PySem.Challenge.rw_joinwood_k01_shapes.Holds := by
  w_on; o_law; k_head; (case hw => w_witness2)
  k_fill
  refine PL.walkP (l := PySem.Challenge.rw_joinwood_k01_shapes) (k := 4) (FL := Q01.fLaw) (x := "_law_script") rfl rfl ⟨rfl, by decide, by decide⟩ Q01.mono_Law (fun w h Y => PySem.W.kIn_of Y) ?F Q01.law_true
  case F =>
    intro w mg fa h KX G hmg
    refine' Q01.all_mk KX G hmg ?a0 ?l0 ?c0 ?k0 ?a1 ?l1 ?c1 ?k1 ?a2 ?l2 ?c2 ?k2 ?a3 ?l3 ?c3 ?k3 ?a4 ?l4 ?c4 ?k4 ?a5 ?l5 ?c5 ?k5 ?a6 ?l6 ?c6 ?k6 ?a7 ?l7 ?c7 ?k7 ?a8 ?l8 ?c8 ?k8 ?z0 ?z1 ?z2 ?z3 ?z4 ?z5 ?z6 ?z7 ?z8 ?z9 ?z10 ?z11 ?z12 ?z13 ?z14 ?z15 ?z16 ?z17 ?z18 ?z19
    (case a0 => k_is)
    (case l0 => k_is)
    (case c0 => k_is)
    (case k0 => k_is)
    (case a1 => k_is)
    (case l1 => k_is)
    (case c1 => k_is)
    (case k1 => k_is)
    (case a2 => k_is)
    (case l2 => k_is)
    (case c2 => k_is)
    (case k2 => k_is)
    (case a3 => k_is)
    (case l3 => k_is)
    (case c3 => k_is)
    (case k3 => k_is)
    (case a4 => k_is)
    (case l4 => k_is)
    (case c4 => k_is)
    (case k4 => k_is)
    (case a5 => k_is)
    (case l5 => k_is)
    (case c5 => k_is)
    (case k5 => k_is)
    (case a6 => k_is)
    (case l6 => k_is)
    (case c6 => k_is)
    (case k6 => k_is)
    (case a7 => k_is)
    (case l7 => k_is)
    (case c7 => k_is)
    (case k7 => k_is)
    (case a8 => k_is)
    (case l8 => k_is)
    (case c8 => k_is)
    (case k8 => k_is)
    (case z0 => k_is)
    (case z1 => k_is)
    (case z2 => k_is)
    (case z3 => k_is)
    (case z4 => k_is)
    (case z5 => k_is)
    (case z6 => k_is)
    (case z7 => k_is)
    (case z8 => k_is)
    (case z9 => k_is)
    (case z10 => k_is)
    (case z11 => k_is)
    (case z12 => k_is)
    (case z13 => k_is)
    (case z14 => k_is)
    (case z15 => k_is)
    (case z16 => k_is)
    (case z17 => k_is)
    (case z18 => k_is)
    (case z19 => k_is)
#print axioms PySem.Challenge.cw_joinwood_k01_shapes_holds
