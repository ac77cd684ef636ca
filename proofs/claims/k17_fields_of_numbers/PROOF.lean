import PyProof.Rows.All
import Wide.All
import OpenK.AllK
import Wide.FinOn
import Lean
import PyProof.EqAt
import PyProof.EqKinds
import PyProof.TupleCall
import KE.KIntText
import KE.KTryMore
import KE.KIsAll
import PyProof.ZipIter
import KE.KRevIter
import PyProof.CollectIter
import PyProof.FactsAll.range_2
import PyProof.FactsAll.range_iterator_1
import PySem.Challenge.RW_rowjudge_k17_fields_of_numbers
set_option Elab.async false
set_option linter.all false
set_option maxRecDepth 100000
/-! THE HAND LAYER, for ints, bools, texts, own classes, LISTS and tuples (index, slices, in, append, pop ..), calls, loops. Paste it whole ahead of your own text; what your proof does not reach may be deleted. -/
namespace L2
open PySem PySem.Spec PyProof.Rows

/-- a key: an int or a str -/
abbrev Key := Sum Int Str
def keyIs : Key → Value → Bool
  | .inl k, v => Value.isInt k v
  | .inr x, v => Value.isStrOf x v
def keyH (w : World) : Key → Int
  | .inl k => hashInt k
  | .inr x => hashStr w x
theorem keyIs_shape : ∀ {k : Key} {v : Value}, keyIs k v = true → (∃ i t, k = Sum.inl i ∧ v = Value.int i t) ∨ (∃ x t, k = Sum.inr x ∧ v = Value.str x t)
  | .inl i, v, h => by
    obtain ⟨t, e⟩ := Value.isInt_shape (k := i) (v := v) h
    exact .inl ⟨i, t, rfl, e⟩
  | .inr x, v, h => by
    obtain ⟨t, e⟩ := Value.isStrOf_shape (x := x) (v := v) h
    exact .inr ⟨x, t, rfl, e⟩
theorem key_ll (a b : Int) : decide ((Sum.inl a : Key) = Sum.inl b) = (a == b) := by
  by_cases e : a = b
  · subst e; simp
  · have h : ¬ (Sum.inl a : Key) = Sum.inl b := fun q => e (Sum.inl.inj q)
    rw [decide_eq_false h]
    exact (beq_eq_false_iff_ne.mpr e).symm
theorem key_rr (a b : Str) : decide ((Sum.inr a : Key) = Sum.inr b) = decide (a = b) := by
  by_cases e : a = b
  · subst e; simp
  · have h : ¬ (Sum.inr a : Key) = Sum.inr b := fun q => e (Sum.inr.inj q)
    rw [decide_eq_false h, decide_eq_false e]
theorem key_lr (a : Int) (b : Str) : decide ((Sum.inl a : Key) = Sum.inr b) = false := decide_eq_false (fun q => nomatch q)
theorem key_rl (a : Str) (b : Int) : decide ((Sum.inr a : Key) = Sum.inl b) = false := decide_eq_false (fun q => nomatch q)

def mixKind (prog : Program) (w : World) : PySem.KeyKind prog w Key where
  is := keyIs
  hash := keyH w
  inj := fun v a b ha hb => by
    rcases keyIs_shape ha with ⟨i, t, rfl, rfl⟩ | ⟨x, t, rfl, rfl⟩
    · rcases keyIs_shape hb with ⟨j, u, rfl, e⟩ | ⟨y, u, rfl, e⟩
      · injection e with e1 _; rw [e1]
      · exact nomatch e
    · rcases keyIs_shape hb with ⟨j, u, rfl, e⟩ | ⟨y, u, rfl, e⟩
      · exact nomatch e
      · injection e with e1 _; rw [e1]
  byValue := fun k v h => by
    rcases keyIs_shape h with ⟨i, t, rfl, rfl⟩ | ⟨x, t, rfl, rfl⟩ <;> rfl
  pyHash := fun hv h => by
    rcases keyIs_shape hv with ⟨i, t, rfl, rfl⟩ | ⟨x, t, rfl, rfl⟩
    · exact wpAny_pyHash_int h
    · exact wpAny_pyHash_str h
  eqBool := fun hu hv h => by
    rcases keyIs_shape hu with ⟨i, t, rfl, rfl⟩ | ⟨x, t, rfl, rfl⟩
    · rcases keyIs_shape hv with ⟨j, u, rfl, rfl⟩ | ⟨y, u, rfl, rfl⟩
      · rw [key_ll] at h; exact wpAny_eqBool_int h
      · rw [key_lr] at h; exact SeqAt.EqAt.int_str i t y u _ _ _ _ h
    · rcases keyIs_shape hv with ⟨j, u, rfl, rfl⟩ | ⟨y, u, rfl, rfl⟩
      · rw [key_rl] at h; exact SeqAt.EqAt.str_int x t j u _ _ _ _ h
      · rw [key_rr] at h; exact wpAny_eqBool_str h
  «strs» := fun k x t v h => by
    rcases keyIs_shape h with ⟨i, u, rfl, e⟩ | ⟨y, u, rfl, e⟩
    · exact nomatch e
    · injection e with e1 _
      subst e1
      cases v <;> rfl

end L2

namespace L2
open PySem PySem.Spec PyProof.Rows

/-- a value, without the heap -/
inductive V where
  | non | bl (b : Bool) | int (i : Int) | str (x : Str) | byt (b : Array UInt8) | flt (b : UInt64) | ref (a : Addr) | ty (n : String)
  deriving DecidableEq

def RelV : V → Value → Prop
  | .non, u => u = Value.none
  | .bl b, u => u = Value.bool b
  | .int i, u => ∃ t, u = Value.int i t
  | .str x, u => ∃ t, u = Value.str x t
  | .byt b, u => ∃ t, u = Value.bytes b t
  | .flt b, u => ∃ t, u = Value.float b t
  | .ref a, u => u = Value.ref a
  | .ty n, u => u = Value.type n

abbrev Vals : List V → List Value → Prop := Paired RelV
theorem Vals.length {xs : List V} {us : List Value} (r : Vals xs us) : xs.length = us.length := Paired.length r
theorem Vals.get : ∀ {xs : List V} {us : List Value} {i : Nat} {x : V}, Vals xs us → xs[i]? = some x → ∃ u, us[i]? = some u ∧ RelV x u
  | _, _, _, _, .nil, e => by simp at e
  | _, _, 0, _, .cons r _, e => by simp at e; subst e; exact ⟨_, rfl, r⟩
  | _, _, i + 1, x, .cons _ t, e => by
    obtain ⟨u, h1, h2⟩ := Vals.get (i := i) (x := x) t (by simpa using e)
    exact ⟨u, by simpa using h1, h2⟩
theorem Vals.set {x : V} {u : Value} (r : RelV x u) : ∀ {xs : List V} {us : List Value} (i : Nat), Vals xs us → Vals (xs.set i x) (us.set i u)
  | _, _, _, .nil => .nil
  | _, _, 0, .cons _ t => .cons r t
  | _, _, i + 1, .cons q t => .cons q (Vals.set r i t)
theorem Vals.append : ∀ {xs ys : List V} {us ws : List Value}, Vals xs us → Vals ys ws → Vals (xs ++ ys) (us ++ ws)
  | _, _, _, _, .nil, s => s
  | _, _, _, _, .cons r t, s => .cons r (Vals.append t s)
theorem Vals.take : ∀ {xs : List V} {us : List Value} (n : Nat), Vals xs us → Vals (xs.take n) (us.take n)
  | _, _, 0, _ => .nil
  | _, _, _ + 1, .nil => .nil
  | _, _, n + 1, .cons r t => .cons r (Vals.take n t)
theorem Vals.drop : ∀ {xs : List V} {us : List Value} (n : Nat), Vals xs us → Vals (xs.drop n) (us.drop n)
  | _, _, 0, r => r
  | _, _, _ + 1, .nil => .nil
  | _, _, n + 1, .cons _ t => Vals.drop n t
def RelO : Option V → Option Value → Prop
  | some v, some u => RelV v u
  | none, none => True
  | _, _ => False
def KV {κ : Type} : List (κ × V) → List (κ × Value) → Prop := Paired fun (p : κ × V) (q : κ × Value) => p.1 = q.1 ∧ RelV p.2 q.2

/-- a key of a dict (00_mix): an int or a text -/
def kV : Key → V
  | .inl i => .int i
  | .inr x => .str x

/-- what stands at a tracked address -/
inductive HO where
  /-- a list -/
  | lst (xs : List V)
  /-- a tuple (never changes) -/
  | tup (xs : List V)
  /-- a dict whose keys are ints and texts; one whose keys are tuples of ints and texts (the empty one is both) -/
  | dK (kvs : List (Key × V)) | dT (kvs : List (List Key × V))
  /-- a set of ints: its members, its size -/
  | set (S : Int → Bool) (n : Nat)
  /-- an instance of the class at C, its dict at dx, its attributes -/
  | ins (C dx : Addr) (fs : List (Str × V))
  /-- the dict of the instance at x -/
  | own (x : Addr)
  /-- the dict of an exception -/
  | xd (fs : List (Str × V))
  /-- a bound method, f of x -/
  | met (f x : Addr)
  /-- a range object lo, lo + 1, .. below hi -/
  | rng (lo hi : Int)
  /-- a thing that is known to the object (the script; a dict while a loop walks it): read, never written while it is so -/
  | frz (o : Obj) (u : HO)
  /-- a code object's table -/
  | tbl (ps : Array Value)
  /-- any other thing, by what is true of its one object (a def of one's own: SetO a S n := HO.ext fun h => ..) -/
  | ext (φ : Heap → Prop)

abbrev Hp := Addr → Option HO
def upd (H : Hp) (a : Addr) (o : HO) : Hp := fun b => if b = a then some o else H b
theorem upd_same {H : Hp} {a : Addr} {o : HO} : upd H a o a = some o := by unfold upd; rw [if_pos rfl]
theorem upd_ne {H : Hp} {a b : Addr} {o : HO} (h : b ≠ a) : upd H a o b = H b := by unfold upd; rw [if_neg h]
/-- two objects of different content stand apart -/
theorem ne_of {H : Hp} {a b : Addr} {o u : HO} (h : H a = some o) (h' : H b = some u) (d : o ≠ u) : a ≠ b := by
  intro e; subst e; rw [h] at h'; exact d (Option.some.inj h')
theorem ne_of_none {H : Hp} {a b : Addr} {o : HO} (h : H a = some o) (h' : H b = none) : a ≠ b := by
  intro e; subst e; rw [h] at h'; cases h'

section
variable (P : Program) (w : World)
def ObjOk (H : Hp) (h : Heap) (a : Addr) : HO → Prop
  | .lst xs => xs.length ≤ sizeLine ∧ ∃ (its : List Value) (n : Nat), Vals xs its ∧ h.get? a = some { cls := .type "list", data := .seq its.toArray n }
  | .tup xs => xs.length ≤ sizeLine ∧ ∃ its : List Value, Vals xs its ∧ IsTup h a its.toArray
  | .dK kvs => kvs.length ≤ sizeLine ∧ (a == sysModules) = false ∧ ∃ vs, KV kvs vs ∧ h.DictOf (mixKind P w) a vs
  | .dT kvs => kvs.length ≤ sizeLine ∧ (a == sysModules) = false ∧ ∃ xs : List (List Key × Addr × Value),
      Paired (fun (p : List Key × V) (q : List Key × Addr × Value) => p.1 = q.1 ∧ H q.2.1 = some (.tup (p.1.map kV)) ∧ RelV p.2 q.2.2) kvs xs ∧
      ∃ o es ep, h.get? a = some o ∧ o.ExactDict ∧ o.data = .dict es ep ∧ es.toList = xs.map (entryOfKey (tupleKind (mixKind P w))) ∧ (xs.map (·.1)).Nodup
  | .set S n => h.SetOf (intKind P w) a S n
  | .ins C dx fs => H dx = some (.own a) ∧ fs.length ≤ 1000 ∧ dx ≠ a ∧ h.get? a = some (PySem.W.instObj C dx) ∧
      ∃ mA, h.Ns1 dx mA ∧ (∀ f, RelO (fs.lookup f) (mA f)) ∧ PySem.Within mA (fs.map (·.1))
  | .own _ => ∃ o, h.get? a = some o
  | .xd fs => ∃ mA, h.Ns1 a mA ∧ ∀ f, RelO (fs.lookup f) (mA f)
  | .rng lo hi => ∃ t u v, h.get? a = some { cls := .type "range", data := .fields #[.int lo t, .int hi u, .int 1 v] }
  | .frz o u => h.get? a = some o ∧ ObjOk H h a u
  | .tbl ps => h.get? a = some { cls := .none, data := .fields ps }
  | .met f x => h.get? a = some (PySem.W.methodObj (.ref f) (.ref x))
  | .ext φ => φ h ∧ (∃ o, h.get? a = some o) ∧ ∀ h1 h2 : Heap, φ h1 → (∀ o, h1.get? a = some o → h2.get? a = some o) → φ h2
/-- the abstract heap is held -/
def HOk (H : Hp) (h : Heap) : Prop := ∀ a o, H a = some o → ObjOk P w H h a o
end

section
variable {P : Program} {w : World} {H H' : Hp} {h h' : Heap} {a : Addr} {o : HO}
theorem ObjOk.lt (x : ObjOk P w H h a o) : a < h.objs.size := by
  cases o with
  | lst xs => obtain ⟨_, _, _, _, e⟩ := x; exact Heap.lt_size e
  | tup xs => obtain ⟨_, _, _, p⟩ := x; exact p.lt
  | dK kvs => obtain ⟨_, _, _, _, o, _, _, e, _⟩ := x; exact Heap.lt_size e
  | dT kvs => obtain ⟨_, _, _, _, o, _, _, e, _⟩ := x; exact Heap.lt_size e
  | set S n => obtain ⟨o, _, _, _, e, _⟩ := x; exact Heap.lt_size e
  | ins C dx fs => obtain ⟨_, _, _, e, _⟩ := x; exact Heap.lt_size e
  | own y => obtain ⟨_, e⟩ := x; exact Heap.lt_size e
  | xd fs => obtain ⟨_, ⟨_, _, _, e, _⟩, _⟩ := x; exact Heap.lt_size e
  | rng lo hi => obtain ⟨_, _, _, e⟩ := x; exact Heap.lt_size e
  | frz ob u => obtain ⟨e, _⟩ := x; exact Heap.lt_size e
  | tbl ps => exact Heap.lt_size (show h.get? a = some _ from x)
  | met f y => exact Heap.lt_size (show h.get? a = some _ from x)
  | ext φ => obtain ⟨_, ⟨_, e⟩, _⟩ := x; exact Heap.lt_size e
theorem Paired.mapP {α β : Type} {F G : α → β → Prop} : ∀ {l₁ : List α} {l₂ : List β}, Paired F l₁ l₂ → (∀ a b, F a b → G a b) → Paired G l₁ l₂
  | _, _, .nil, _ => .nil
  | _, _, .cons r t, f => .cons (f _ _ r) (Paired.mapP t f)
/-- what an object's description leans on: its own object, its own dict, the tuples -/
theorem ObjOk.stay (x : ObjOk P w H h a o) (k : ∀ b u, (b = a ∨ H b = some (.own a)) → h.get? b = some u → h'.get? b = some u)
    (ho : ∀ b, H b = some (.own a) → H' b = some (.own a)) (ht : ∀ b xs, H b = some (.tup xs) → H' b = some (.tup xs)) : ObjOk P w H' h' a o := by
  induction o with
  | lst xs => obtain ⟨z, its, n, r, e⟩ := x; exact ⟨z, its, n, r, k _ _ (.inl rfl) e⟩
  | tup xs => obtain ⟨z, its, r, ob, e, c⟩ := x; exact ⟨z, its, r, ob, k _ _ (.inl rfl) e, c⟩
  | dK kvs => obtain ⟨z, y, vs, r, ob, es, ep, e, c⟩ := x; exact ⟨z, y, vs, r, ob, es, ep, k _ _ (.inl rfl) e, c⟩
  | dT kvs =>
    obtain ⟨z, y, xs, r, ob, es, ep, e, c⟩ := x
    exact ⟨z, y, xs, Paired.mapP r fun p q z => ⟨z.1, ht _ _ z.2.1, z.2.2⟩, ob, es, ep, k _ _ (.inl rfl) e, c⟩
  | set S n => obtain ⟨ob, es, ep, t, e, c⟩ := x; exact ⟨ob, es, ep, t, k _ _ (.inl rfl) e, c⟩
  | ins C dx fs =>
    obtain ⟨d, z, ne, e, mA, ⟨od, es, ep, e2, c⟩, r⟩ := x
    exact ⟨ho _ d, z, ne, k _ _ (.inl rfl) e, mA, ⟨od, es, ep, k _ _ (.inr d) e2, c⟩, r⟩
  | own y => obtain ⟨ob, e⟩ := x; exact ⟨ob, k _ _ (.inl rfl) e⟩
  | xd fs => obtain ⟨mA, ⟨od, es, ep, e, c⟩, r⟩ := x; exact ⟨mA, ⟨od, es, ep, k _ _ (.inl rfl) e, c⟩, r⟩
  | rng lo hi => obtain ⟨t, u, v, e⟩ := x; exact ⟨t, u, v, k _ _ (.inl rfl) e⟩
  | frz ob u ih => obtain ⟨e, q⟩ := x; exact ⟨k _ _ (.inl rfl) e, ih q⟩
  | tbl ps =>
    have e : h.get? a = some { cls := .none, data := .fields ps } := x
    show h'.get? a = some { cls := .none, data := .fields ps }
    exact k a _ (.inl rfl) e
  | met f y =>
    have e : h.get? a = some (PySem.W.methodObj (.ref f) (.ref y)) := x
    show h'.get? a = some (PySem.W.methodObj (.ref f) (.ref y))
    exact k a _ (.inl rfl) e
  | ext φ => obtain ⟨p, ⟨o, e⟩, st⟩ := x; exact ⟨st _ _ p fun o q => k _ _ (.inl rfl) q, ⟨o, k _ _ (.inl rfl) e⟩, st⟩
theorem HOk.lt (x : HOk P w H h) (e : H a = some o) : a < h.objs.size := (x a o e).lt
theorem HOk.fresh (x : HOk P w H h) (e : h.objs.size ≤ a) : H a = none := by
  cases q : H a with
  | none => rfl
  | some u => exact absurd (Nat.lt_of_lt_of_le (x.lt q) e) (Nat.lt_irrefl _)
/-- every object of the heap is kept -/
theorem HOk.kept (x : HOk P w H h) (k : ∀ b u, h.get? b = some u → h'.get? b = some u) : HOk P w H h' := fun a o e =>
  (x a o e).stay (fun b u _ q => k b u q) (fun _ q => q) fun _ _ q => q
/-- a new object is laid and tracked -/
theorem HOk.laid (x : HOk P w H h) (k : ∀ b u, h.get? b = some u → h'.get? b = some u) (hp : h.objs.size ≤ a) (new : ObjOk P w (upd H a o) h' a o) : HOk P w (upd H a o) h' := fun b u e => by
  have hn := x.fresh hp
  by_cases hb : b = a
  · subst hb; rw [upd_same] at e; cases e; exact new
  · rw [upd_ne hb] at e
    exact (x b u e).stay (fun c v _ q => k c v q) (fun c q => by rw [upd_ne (ne_of_none q hn)]; exact q) fun c xs q => by rw [upd_ne (ne_of_none q hn)]; exact q
end

/-- what may be read as u: it is u, or a known u -/
def Rd (H : Hp) (a : Addr) (u : HO) : Prop := H a = some u ∨ ∃ o, H a = some (.frz o u)
theorem Rd.ok {P : Program} {w : World} {H : Hp} {h : Heap} {a : Addr} {u : HO} (r : Rd H a u) (x : HOk P w H h) : ObjOk P w H h a u := by
  rcases r with r | ⟨o, r⟩
  · exact x a u r
  · obtain ⟨_, q⟩ := x a _ r
    exact q
/-- what may be written -/
def Mut : Option HO → Prop
  | some (.lst _) => True
  | some (.dK _) => True
  | some (.dT _) => True
  | some (.set _ _) => True
  | some (.ins _ _ _) => True
  | some (.ext _) => True
  | _ => False
section
variable {P : Program} {w : World} {H : Hp} {h h' : Heap} {x e : Addr} {o' : HO}
/-- the object at e is changed: x itself, or the dict of the instance x -/
theorem HOk.write (ok : HOk P w H h) (mu : Mut (H x)) (he : e = x ∨ H e = some (.own x)) (k : ∀ b u, b ≠ e → h.get? b = some u → h'.get? b = some u) (heo : ∃ u, h'.get? e = some u)
    (new : ObjOk P w (upd H x o') h' x o') : HOk P w (upd H x o') h' := fun b u q => by
  have nown : ∀ c y, H c = some (.own y) → c ≠ x := fun c y r z => by subst z; rw [r] at mu; exact mu
  have ntup : ∀ c xs, H c = some (.tup xs) → c ≠ x := fun c xs r z => by subst z; rw [r] at mu; exact mu
  by_cases hb : b = x
  · subst hb; rw [upd_same] at q; cases q; exact new
  · rw [upd_ne hb] at q
    by_cases hbe : b = e
    · have q' : H b = some (.own x) := by
        rcases he with z | z
        · exact absurd (hbe.trans z) hb
        · rw [hbe]; exact z
      rw [q] at q'; cases q'
      obtain ⟨v, hv⟩ := heo
      exact ⟨v, by rw [hbe]; exact hv⟩
    · refine (ok b u q).stay (fun c v hc r => k c v ?_ r) (fun c r => by rw [upd_ne (nown c b r)]; exact r) fun c xs r => by rw [upd_ne (ntup c xs r)]; exact r
      rcases hc with rfl | hc
      · exact hbe
      · rintro rfl
        rcases he with z | z
        · exact nown c b hc z
        · rw [hc] at z; cases z; exact hb rfl
end

/-! ### kept unless tracked; of the frames at fs (the callers') the slots may change (an exception that passes writes there); of the records at ex (iterators) nothing is said -/
structure Un (fs ex : List Addr) (H H' : Hp) (h h' : Heap) : Prop where
  keep : ∀ b o, h.get? b = some o → H b = none → b ∉ fs → b ∉ ex → h'.get? b = some o
  slot : ∀ b o, h.get? b = some o → H b = none → b ∈ fs → b ∉ ex → ∃ sl, h'.get? b = some { o with slots := sl }
  free : ∀ b o, h.get? b = some o → H b = none → b ∉ ex → H' b = none
  there : ∀ b o, h.get? b = some o → b ∉ ex → ∃ o', h'.get? b = some o'
  tups : ∀ b xs, H b = some (.tup xs) → H' b = some (.tup xs)
  frzs : ∀ b o u, H b = some (.frz o u) → H' b = some (.frz o u)
  tbls : ∀ b ps, H b = some (.tbl ps) → ∃ more, H' b = some (.tbl (ps ++ more))
section
variable {fs fs' ex ex' : List Addr} {H H1 H2 : Hp} {h h1 h2 h' : Heap} {a x e : Addr} {o : HO}
theorem Un.any (u : Un fs ex H H1 h h1) {b : Addr} {ob : Obj} (q : h.get? b = some ob) (n : H b = none) (hx : b ∉ ex) : ∃ sl, h1.get? b = some { ob with slots := sl } := by
  by_cases hb : b ∈ fs
  · exact u.slot b ob q n hb hx
  · exact ⟨ob.slots, u.keep b ob q n hb hx⟩
theorem Un.kept (k : ∀ b u, h.get? b = some u → h'.get? b = some u) : Un fs ex H H h h' :=
  ⟨fun b ob q _ _ _ => k b ob q, fun b ob q _ _ _ => ⟨ob.slots, k b ob q⟩, fun _ _ _ n _ => n, fun b ob q _ => ⟨ob, k b ob q⟩, fun _ _ q => q, fun _ _ _ q => q, fun _ ps q => ⟨#[], by rw [q]; simp⟩⟩
theorem Un.refl : Un fs ex H H h h := Un.kept fun _ _ q => q
theorem Un.laid (k : ∀ b u, h.get? b = some u → h'.get? b = some u) (hp : h.objs.size ≤ a) (hn : H a = none) : Un fs ex H (upd H a o) h h' where
  keep := fun b u q _ _ _ => k b u q
  slot := fun b u q _ _ _ => ⟨u.slots, k b u q⟩
  free := fun b u q n _ => by rw [upd_ne (Nat.ne_of_lt (Nat.lt_of_lt_of_le (Heap.lt_size q) hp))]; exact n
  there := fun b u q _ => ⟨u, k b u q⟩
  tups := fun b xs q => by rw [upd_ne (ne_of_none q hn)]; exact q
  frzs := fun b u xs q => by rw [upd_ne (ne_of_none q hn)]; exact q
  tbls := fun b ps q => ⟨#[], by rw [upd_ne (ne_of_none q hn), q]; simp⟩
theorem Un.write (mu : Mut (H x)) (he : e = x ∨ H e = some (.own x)) (k : ∀ b u, b ≠ e → h.get? b = some u → h'.get? b = some u) (heo : ∃ u, h'.get? e = some u) : Un fs ex H (upd H x o) h h' := by
  have hx : ∀ b, H b = none → b ≠ x := fun b n z => by subst z; rw [n] at mu; exact mu
  have hb : ∀ b, H b = none → b ≠ e := fun b n z => by
    subst z
    rcases he with r | r
    · exact hx b n r
    · rw [n] at r; cases r
  have hm : ∀ b u, H b = some u → ¬ Mut (some u) → b ≠ x := fun b u q nm z => by subst z; rw [q] at mu; exact nm mu
  refine ⟨fun b u q n _ _ => k b u (hb b n) q, fun b u q n _ _ => ⟨u.slots, k b u (hb b n) q⟩, fun b u q n _ => by rw [upd_ne (hx b n)]; exact n, fun b u q _ => ?_,
    fun b xs q => by rw [upd_ne (hm b _ q fun z => z)]; exact q, fun b u xs q => by rw [upd_ne (hm b _ q fun z => z)]; exact q, fun b ps q => ⟨#[], by rw [upd_ne (hm b _ q fun z => z), q]; simp⟩⟩
  by_cases hbe : b = e
  · subst hbe; exact heo
  · exact ⟨u, k b u hbe q⟩
end

/-! ### the heap without what is tracked -/
def trk (h : Heap) (H : Hp) : List Addr := (List.range h.objs.size).filter fun a => (H a).isSome
def hidT (h : Heap) (H : Hp) : Heap := PySem.W.hideAll h (trk h H)
theorem hidT_size (h : Heap) (H : Hp) : (hidT h H).objs.size = h.objs.size := PySem.W.hideAll_size _ _
theorem hidT_get {h : Heap} {H : Hp} {b : Addr} {o : Obj} (e : h.get? b = some o) (n : H b = none) : (hidT h H).get? b = some o :=
  PySem.W.hideAll_get _ e fun hm => by
    have q : (H b).isSome = true := (List.mem_filter.mp hm).2
    rw [n] at q; simp at q
theorem of_hidT {h : Heap} {H : Hp} {b : Addr} {o : Obj} (e : (hidT h H).get? b = some o) : h.get? b = some o ∧ H b = none := by
  have e' : h.get? b = some o := PySem.W.of_hideAll (trk h H) e
  refine ⟨e', ?_⟩
  cases q : H b with
  | none => rfl
  | some x =>
    have hm : b ∈ trk h H := List.mem_filter.mpr ⟨List.mem_range.mpr (Heap.lt_size e'), by simp [q]⟩
    have z : (hidT h H).get? b = none := PySem.W.hideAll_none (trk h H) hm
    rw [z] at e; cases e

/-! ### OpenK's ledger, filled with every new object but one -/
def allNews (g h : Heap) (L : Addr) : List (Addr × Obj) := (List.range h.objs.size).filterMap fun a => if a = L ∨ (g.get? a).isSome = true then none else (h.get? a).map fun o => (a, o)
def rest (g h : Heap) (L d : Addr) : List (Addr × Obj) := (allNews g h L).filter fun p => decide (p.1 ≠ d)
end L2

namespace L2
open PySem PySem.Spec PyProof.Rows

/-- the module's facts, over the base: the heap at the law's entry without what is tracked there -/
structure Mod (K : PySem.W.Frag) (mg : Str → Option Value) (base : Heap) : Prop where
  kin : K.In base
  glob : base.Ns mainGlobals mg
  blt : ∃ mb, base.Ns builtinsNs mb ∧ ∀ x : Str, x ≠ "__name__" → mb x = bootBuiltins x
  nolimit : base.NoLimit

/-- the context: a def's body (or a comprehension's block) running. base: fixed through the whole law; s₀, H₀: the entry; outer: the frames whose slots others may change (a def's callers); stack: all frames that run;
   ex: iterators that were made ahead of the entry and are walked here (a comprehension's); fn: the names whose cells were made at the entry (a def: all; a comprehension's block: its own); calm: not within an except suite; pn: pins that every state bears; xe: what is wanted of an exception that leaves the code -/
structure Cx where
  prog : Program
  w : World
  K : PySem.W.Frag
  mg : Str → Option Value
  base : Heap
  A : Around
  N : List Str
  s₀ : Shared
  H₀ : Hp
  env : Env
  outer : List Env
  stack : List Env
  ex : List Addr
  fn : Str → Bool
  calm : Bool
  pn : List (Addr × Obj)
  xe : Value → Shared → Prop
/-- the callers' frames -/
def frs (l : List Env) : List Addr := l.filterMap (·.frame)
abbrev Cx.fs (X : Cx) : List Addr := frs X.outer

def Vis (sc : Scope) (x : Str) : Prop := sc.names.lookup x = some .local ∨ sc.names.lookup x = some .cell ∨ sc.names.lookup x = some .free
def Loc (sc : Scope) (x : Str) : Prop := sc.names.lookup x = some .local ∨ sc.names.lookup x = some .cell
def Look (env : Env) (h : Heap) (m : Str → Option Value) (x : Str) (u : Value) : Prop :=
  (env.kindOf x = some .local ∧ m x = some u) ∨ ((env.kindOf x = some .cell ∨ env.kindOf x = some .free) ∧ ∃ c, env.cells.lookup x = some c ∧ h.IsCell c (some u))

structure Cx.Ok (X : Cx) : Prop where
  mod : Mod X.K X.mg X.base
  kind : X.env.scope.kind = .function
  glob : X.env.globals = mainGlobals
  blt : X.env.builtins = builtinsNs
  above : X.s₀.heap.objs.size ≤ X.env.locals
  inj : ∀ x y c, X.env.cells.lookup x = some c → X.env.cells.lookup y = some c → x = y
  has : ∀ x, (X.env.kindOf x = some .cell ∨ X.env.kindOf x = some .free) → ∃ c, X.env.cells.lookup x = some c
  cab : ∀ x c, X.fn x = true → X.env.cells.lookup x = some c → X.s₀.heap.objs.size ≤ c
  hd : X.calm = true → X.A.handled = none
  frames : X.A.frames = some X.stack
  stk : X.stack = X.outer ∨ (X.stack = X.env :: X.outer ∧ X.env.frame = some X.env.locals)
  exf : ∀ b ∈ X.ex, b ≠ X.env.locals ∧ ∀ x c, X.env.cells.lookup x = some c → c ≠ b
  bs : ∀ b o, X.base.get? b = some o → X.s₀.heap.get? b = some o ∧ X.H₀ b = none
  bsz : X.base.objs.size ≤ X.s₀.heap.objs.size
  noex : ∀ b o, X.base.get? b = some o → b ∉ X.ex
  exfs : ∀ b ∈ X.ex, b ∉ X.fs
  funs : X.s₀.heap.FunFrames X.base X.outer
  frf : ∀ b ∈ X.fs, X.H₀ b = none

structure Inv (X : Cx) (pins : List (Addr × Obj)) (σ : List (Option V)) (H : Hp) (s : Shared) : Prop where
  ok : X.Ok
  os : s.os = X.s₀.os
  bare : AllBare s.gens
  base : Un X.fs X.ex X.H₀ H X.s₀.heap s.heap
  loc : ∃ m, s.heap.Ns X.env.locals m ∧ ∀ (i : Nat) (x : Str) (v : V), X.N[i]? = some x → σ[i]? = some (some v) → Vis X.env.scope x → ∃ u, RelV v u ∧ Look X.env s.heap m x u
  cell : ∀ x c, X.env.cells.lookup x = some c → ∃ v, s.heap.IsCell c v
  free : H X.env.locals = none
  freeC : ∀ x c, X.env.cells.lookup x = some c → H c = none
  pin : ∀ p ∈ X.pn ++ pins, s.heap.get? p.1 = some p.2 ∧ H p.1 = none ∧ p.1 ≠ X.env.locals ∧ p.1 ∉ X.fs ∧ ∀ v, p.2.data ≠ .cell v
  hok : HOk X.prog X.w H s.heap
  len : σ.length = X.N.length

section
variable {X : Cx} {pins : List (Addr × Obj)} {σ : List (Option V)} {H H' : Hp} {s : Shared} {h' : Heap}

theorem Cx.Ok.nofr (ok : X.Ok) {b : Addr} {o : Obj} (e : X.base.get? b = some o) : b ∉ X.fs := fun hb => by
  have := (ok.funs.mem hb).1
  rw [e] at this; cases this
theorem Inv.bs (I : Inv X pins σ H s) : ∀ b o, X.base.get? b = some o → s.heap.get? b = some o ∧ H b = none := fun b o e =>
  ⟨I.base.keep b o (I.ok.bs b o e).1 (I.ok.bs b o e).2 (I.ok.nofr e) (I.ok.noex b o e), I.base.free b o (I.ok.bs b o e).1 (I.ok.bs b o e).2 (I.ok.noex b o e)⟩
theorem Inv.bk (I : Inv X pins σ H s) : ∀ b o, X.base.get? b = some o → s.heap.get? b = some o := fun b o e => (I.bs b o e).1
theorem Inv.mod (I : Inv X pins σ H s) : Mod X.K X.mg X.base := I.ok.mod
theorem Inv.kIn (I : Inv X pins σ H s) : X.K.In s.heap := I.ok.mod.kin.keeps I.bk
theorem Inv.lt (I : Inv X pins σ H s) : X.env.locals < s.heap.objs.size := by obtain ⟨_, hn, _⟩ := I.loc; exact hn.lt
theorem Inv.sz (I : Inv X pins σ H s) : X.s₀.heap.objs.size ≤ s.heap.objs.size := Nat.le_trans I.ok.above (Nat.le_of_lt I.lt)
theorem Inv.nofs (I : Inv X pins σ H s) {a : Addr} (h : s.heap.objs.size ≤ a) : a ∉ X.fs := fun hb => by
  obtain ⟨_, o, ho, _⟩ := I.ok.funs.mem hb
  exact absurd (Nat.lt_of_lt_of_le (Heap.lt_size ho) (Nat.le_trans I.sz h)) (Nat.lt_irrefl _)
theorem Inv.cne (I : Inv X pins σ H s) : ∀ x c, X.env.cells.lookup x = some c → c ≠ X.env.locals := fun x c e z => by
  obtain ⟨v, o, ho, hd⟩ := I.cell x c e
  obtain ⟨m, ⟨o', es, ep, ho', hd', _⟩, _⟩ := I.loc
  rw [z, ho'] at ho; cases ho; rw [hd'] at hd; cases hd
theorem Inv.funs (I : Inv X pins σ H s) : s.heap.FunFrames X.base X.outer := by
  have all : ∀ (l : List Env), (∀ b ∈ frs l, b ∈ X.fs) → X.s₀.heap.FunFrames X.base l → s.heap.FunFrames X.base l := by
    intro l
    induction l with
    | nil => intro _ _; trivial
    | cons env r ih =>
      intro hs hl
      obtain ⟨hk, ⟨L, o, hf, hn, ho, hd⟩, hr⟩ := hl
      have hL : L ∈ X.fs := hs L (by unfold frs; rw [List.filterMap_cons, hf]; exact List.mem_cons_self)
      obtain ⟨sl, e⟩ := I.base.slot L o ho (I.ok.frf L hL) hL fun z => I.ok.exfs L z hL
      exact ⟨hk, ⟨L, _, hf, hn, e, hd⟩, ih (fun b hb => hs b (by unfold frs; rw [List.filterMap_cons, hf]; exact List.mem_cons_of_mem _ hb)) hr⟩
  exact all X.outer (fun _ hb => hb) I.ok.funs

/-- the frames that run, for a call -/
theorem Inv.stack (I : Inv X pins σ H s) : s.heap.FunFrames X.base X.stack := by
  rcases I.ok.stk with e | ⟨e, hf⟩
  · rw [e]; exact I.funs
  · rw [e]
    obtain ⟨m, hn, _⟩ := I.loc
    refine .cons (by rw [I.ok.kind]; decide) hf hn ?_ I.funs
    exact Heap.get?_none_of_le (Nat.le_trans I.ok.bsz I.ok.above)
theorem Inv.stkSub (I : Inv X pins σ H s) : ∀ b ∈ frs X.stack, b ∈ X.env.locals :: X.fs := fun b hb => by
  rcases I.ok.stk with e | ⟨e, hf⟩
  · rw [e] at hb; exact List.mem_cons_of_mem _ hb
  · rw [e] at hb
    unfold frs at hb
    rw [List.filterMap_cons, hf] at hb
    exact hb
theorem Inv.stkFree (I : Inv X pins σ H s) : ∀ b ∈ frs X.stack, H b = none := fun b hb => by
  rcases List.mem_cons.mp (I.stkSub b hb) with e | hb
  · rw [e]; exact I.free
  · obtain ⟨_, o, ho, _⟩ := I.ok.funs.mem hb
    exact I.base.free b o ho (I.ok.frf b hb) fun z => I.ok.exfs b z hb

/-- THE STEP: the untracked objects but the frame and the records at ch are kept (the callers' frames up to slots), the frame's map is kept, the new abstract heap is held -/
theorem Inv.step {g' : Array GenState} {t' : Nat} {d' : Drawn} {ch : List Addr} (I : Inv X pins σ H s)
    (hch : ∀ b ∈ ch, (b ∈ X.ex ∨ X.s₀.heap.objs.size ≤ b) ∧ b ≠ X.env.locals ∧ (∀ x c, X.env.cells.lookup x = some c → c ≠ b) ∧ ∀ p ∈ X.pn ++ pins, p.1 ≠ b)
    (keep : ∀ b o, b ≠ X.env.locals → b ∉ X.fs → b ∉ ch → s.heap.get? b = some o → H b = none → h'.get? b = some o)
    (slot : ∀ b o, b ≠ X.env.locals → b ∈ X.fs → b ∉ ch → s.heap.get? b = some o → H b = none → ∃ sl, h'.get? b = some { o with slots := sl }) (free : ∀ b o, b ∉ ch → s.heap.get? b = some o → H b = none → H' b = none)
    (there : ∀ b o, b ∉ ch → s.heap.get? b = some o → ∃ o', h'.get? b = some o')
    (tups : ∀ b xs, H b = some (.tup xs) → H' b = some (.tup xs)) (frzs : ∀ b o u, H b = some (.frz o u) → H' b = some (.frz o u)) (tbls : ∀ b ps, H b = some (.tbl ps) → ∃ more, H' b = some (.tbl (ps ++ more)))
    (ns : ∀ m, s.heap.Ns X.env.locals m → h'.Ns X.env.locals m) (hok : HOk X.prog X.w H' h') (hg : AllBare g') :
    Inv X pins σ H' { s with heap := h', gens := g', drawn := d', toks := t' } := by
  have neL : ∀ b o, X.s₀.heap.get? b = some o → b ≠ X.env.locals := fun b o e => Nat.ne_of_lt (Nat.lt_of_lt_of_le (Heap.lt_size e) I.ok.above)
  have neC : ∀ b o, X.s₀.heap.get? b = some o → b ∉ X.ex → b ∉ ch := fun b o e hx hb => by
    rcases (hch b hb).1 with z | z
    · exact hx z
    · exact absurd (Nat.lt_of_lt_of_le (Heap.lt_size e) z) (Nat.lt_irrefl _)
  have cellK : ∀ x c, X.env.cells.lookup x = some c → ∀ v, s.heap.IsCell c v → h'.IsCell c v := fun x c e v ⟨o, ho, hd⟩ => by
    have nch : c ∉ ch := fun z => (hch c z).2.2.1 x c e rfl
    by_cases hc : c ∈ X.fs
    · obtain ⟨sl, q⟩ := slot c o (I.cne x c e) hc nch ho (I.freeC x c e)
      exact ⟨_, q, hd⟩
    · exact ⟨o, keep c o (I.cne x c e) hc nch ho (I.freeC x c e), hd⟩
  refine ⟨I.ok, I.os, hg, ⟨fun b o e n hb hx => ?_, fun b o e n hb hx => ?_, fun b o e n hx => ?_, fun b o e hx => ?_, fun b xs e => tups b xs (I.base.tups b xs e), fun b o xs e => frzs b o xs (I.base.frzs b o xs e), fun b ps e => ?_⟩, ?_, fun x c e => ?_, ?_, fun x c e => ?_, fun p hp => ?_, hok, I.len⟩
  · exact keep b o (neL b o e) hb (neC b o e hx) (I.base.keep b o e n hb hx) (I.base.free b o e n hx)
  · obtain ⟨sl, e1⟩ := I.base.slot b o e n hb hx
    obtain ⟨sl', e2⟩ := slot b _ (neL b o e) hb (neC b o e hx) e1 (I.base.free b o e n hx)
    exact ⟨sl', e2⟩
  · obtain ⟨o', e1⟩ := I.base.there b o e hx
    exact free b o' (neC b o e hx) e1 (I.base.free b o e n hx)
  · obtain ⟨o', e1⟩ := I.base.there b o e hx
    exact there b o' (neC b o e hx) e1
  · obtain ⟨m1, e1⟩ := I.base.tbls b ps e
    obtain ⟨m2, e2⟩ := tbls b _ e1
    exact ⟨m1 ++ m2, by rw [e2, Array.append_assoc]⟩
  · obtain ⟨m, hn, hl⟩ := I.loc
    refine ⟨m, ns m hn, fun i x v e1 e2 e3 => ?_⟩
    obtain ⟨u, r, l⟩ := hl i x v e1 e2 e3
    refine ⟨u, r, ?_⟩
    rcases l with l | ⟨k, c, e, z⟩
    · exact .inl l
    · exact .inr ⟨k, c, e, cellK x c e _ z⟩
  · obtain ⟨v, z⟩ := I.cell x c e
    exact ⟨v, cellK x c e v z⟩
  · obtain ⟨m, ⟨o, _, _, ho, _⟩, _⟩ := I.loc
    exact free _ o (fun z => (hch _ z).2.1 rfl) ho I.free
  · obtain ⟨v, o, ho, hd⟩ := I.cell x c e
    exact free c o (fun z => (hch c z).2.2.1 x c e rfl) ho (I.freeC x c e)
  · obtain ⟨e, n, ne, nf, d⟩ := I.pin p hp
    have nch : p.1 ∉ ch := fun z => (hch p.1 z).2.2.2 p hp rfl
    exact ⟨keep p.1 p.2 ne nf nch e n, free p.1 p.2 nch e n, ne, nf, d⟩
/-- .. where the frame's own object is kept too -/
theorem Inv.un {t' : Nat} (I : Inv X pins σ H s) (u : Un X.fs [] H H' s.heap h') (hok : HOk X.prog X.w H' h') : Inv X pins σ H' { s with heap := h', toks := t' } := by
  obtain ⟨m, ⟨o, es, ep, ho, r⟩, _⟩ := id I.loc
  obtain ⟨sl, hL⟩ := u.any ho I.free (by simp)
  exact I.step (g' := s.gens) (d' := s.drawn) (ch := []) (fun _ z => nomatch z) (fun b o _ hb _ e n => u.keep b o e n hb (by simp)) (fun b o _ hb _ e n => u.slot b o e n hb (by simp)) (fun b o _ e n => u.free b o e n (by simp)) (fun b o _ e => u.there b o e (by simp)) u.tups u.frzs u.tbls (fun m' hm => by
    obtain ⟨o', es', ep', ho', r'⟩ := hm
    rw [ho] at ho'; cases ho'
    exact ⟨_, es', ep', hL, r'⟩) hok I.bare
/-- behind a call (or a comprehension's block): the slots of this frame may have changed too, the records at ch may have turned -/
theorem Inv.call {g' : Array GenState} {t' : Nat} {d' : Drawn} {ch : List Addr} (I : Inv X pins σ H s) (u : Un (frs X.stack) ch H H' s.heap h') (hok : HOk X.prog X.w H' h') (hg : AllBare g')
    (hch : ∀ b ∈ ch, (b ∈ X.ex ∨ X.s₀.heap.objs.size ≤ b) ∧ b ≠ X.env.locals ∧ (∀ x c, X.env.cells.lookup x = some c → c ≠ b) ∧ ∀ p ∈ X.pn ++ pins, p.1 ≠ b) :
    Inv X pins σ H' { s with heap := h', gens := g', drawn := d', toks := t' } := by
  obtain ⟨m, ⟨o, es, ep, ho, r⟩, _⟩ := id I.loc
  obtain ⟨sl, hL⟩ := u.any ho I.free fun z => (hch _ z).2.1 rfl
  exact I.step (ch := ch) hch (fun b o hL hb hc e n => u.keep b o e n (fun z => (List.mem_cons.mp (I.stkSub b z)).elim hL hb) hc) (fun b o _ _ hc e n => u.any e n hc) (fun b o hc e n => u.free b o e n hc) (fun b o hc e => u.there b o e hc) u.tups u.frzs u.tbls (fun m' hm => by
    obtain ⟨o', es', ep', ho', r'⟩ := hm
    rw [ho] at ho'; cases ho'
    exact ⟨_, es', ep', hL, r'⟩) hok hg
/-- an untracked record of ours (an iterator) has turned -/
theorem Inv.turned {t' : Nat} {it : Addr} (I : Inv X pins σ H s) (k : ∀ b o, b ≠ it → s.heap.get? b = some o → h'.get? b = some o) (hn : H it = none) (hL : it ≠ X.env.locals)
    (h1 : it ∈ X.ex ∨ X.s₀.heap.objs.size ≤ it) (h2 : ∀ x c, X.env.cells.lookup x = some c → c ≠ it) (h3 : ∀ p ∈ X.pn ++ pins, p.1 ≠ it) : Inv X pins σ H { s with heap := h', toks := t' } := by
  have nit : ∀ b u, H b = some u → b ≠ it := fun b u e z => by rw [z, hn] at e; cases e
  refine I.step (g' := s.gens) (d' := s.drawn) (ch := [it]) (fun b hb => ?_) (fun b o _ _ hc e _ => k b o (fun z => hc (by simp [z])) e) (fun b o _ _ hc e _ => ⟨o.slots, k b o (fun z => hc (by simp [z])) e⟩) (fun _ _ _ _ n => n)
    (fun b o hc e => ⟨o, k b o (fun z => hc (by simp [z])) e⟩) (fun _ _ e => e) (fun _ _ _ e => e) (fun b ps e => ⟨#[], by rw [e]; simp⟩) (fun m hm => ?_) (fun b u e => ?_) I.bare
  · have e : b = it := by simpa using hb
    subst e
    exact ⟨h1, hL, h2, h3⟩
  · obtain ⟨o, es, ep, ho, r⟩ := hm
    exact ⟨o, es, ep, k _ o (Ne.symm hL) ho, r⟩
  · refine (I.hok b u e).stay (fun c v hc q => k c v ?_ q) (fun _ q => q) fun _ _ q => q
    rcases hc with z | z
    · rw [z]; exact nit b u e
    · exact nit c _ z
theorem Inv.tok (I : Inv X pins σ H s) (t : Nat) : Inv X pins σ H { s with toks := t } := I.un (h' := s.heap) (t' := t) Un.refl I.hok
/-- all objects kept -/
theorem Inv.kept {t' : Nat} (I : Inv X pins σ H s) (k : ∀ b u, s.heap.get? b = some u → h'.get? b = some u) : Inv X pins σ H { s with heap := h', toks := t' } := I.un (Un.kept k) (I.hok.kept k)
/-- a new object laid and tracked -/
theorem Inv.laid {a : Addr} {o : HO} {t' : Nat} (I : Inv X pins σ H s) (k : ∀ b u, s.heap.get? b = some u → h'.get? b = some u) (hp : s.heap.objs.size ≤ a) (new : ObjOk X.prog X.w (upd H a o) h' a o) :
    Inv X pins σ (upd H a o) { s with heap := h', toks := t' } := I.un (Un.laid k hp (I.hok.fresh hp)) (I.hok.laid k hp new)
/-- an object written -/
theorem Inv.write {x e : Addr} {o : HO} {t' : Nat} (I : Inv X pins σ H s) (mu : Mut (H x)) (he : e = x ∨ H e = some (.own x)) (k : ∀ b u, b ≠ e → s.heap.get? b = some u → h'.get? b = some u) (heo : ∃ u, h'.get? e = some u)
    (new : ObjOk X.prog X.w (upd H x o) h' x o) : Inv X pins σ (upd H x o) { s with heap := h', toks := t' } := I.un (Un.write mu he k heo) (I.hok.write mu he k heo new)
theorem Inv.pins_of {pins' : List (Addr × Obj)} (I : Inv X pins σ H s) (h : ∀ p ∈ pins', s.heap.get? p.1 = some p.2 ∧ H p.1 = none ∧ p.1 ≠ X.env.locals ∧ p.1 ∉ X.fs ∧ ∀ v, p.2.data ≠ .cell v) : Inv X pins' σ H s :=
  ⟨I.ok, I.os, I.bare, I.base, I.loc, I.cell, I.free, I.freeC, fun p hp => (List.mem_append.mp hp).elim (fun z => I.pin p (List.mem_append_left _ z)) (h p), I.hok, I.len⟩

theorem nodup_ix {N : List Str} (hN : N.Nodup) {i j : Nat} {x : Str} (a : N[i]? = some x) (b : N[j]? = some x) : i = j := by
  obtain ⟨h1, e1⟩ := List.getElem?_eq_some_iff.mp a
  obtain ⟨h2, e2⟩ := List.getElem?_eq_some_iff.mp b
  exact (List.getElem_inj hN).mp (e1.trans e2.symm)

/-- a name is stored; what changed -/
theorem store_ok2 {M : Model} {A : Around} {E : Value → Shared → Prop} {i : Nat} {x : Str} {v : V} {u : Value} {Q : Unit → Shared → Prop} (I : Inv X pins σ H s) (hN : X.N.Nodup) (hi : X.N[i]? = some x) (hx : Loc X.env.scope x) (r : RelV v u)
    (h : ∀ s', Inv X pins (σ.set i (some v)) H s' → (∃ a, Heap.SameBut a s.heap s'.heap ∧ (a = X.env.locals ∨ X.env.cells.lookup x = some a)) → Q () s') (hf : X.fn x = true ∨ X.env.scope.names.lookup x = some .local := by first | exact .inl rfl | exact .inr rfl | assumption) : wpAny M A (storeName X.env x u) Q E s := by
  obtain ⟨m, hn, hl⟩ := id I.loc
  have hcls : (X.env.scope.kind == .class || (X.env.scope.kind == .module && X.env.locals != X.env.globals)) = false := by rw [I.ok.kind]; rfl
  have hiσ : i < σ.length := by rw [I.len]; exact (List.getElem?_eq_some_iff.mp hi).1
  have cne := I.cne
  have tracked : ∀ {a : Addr} {h' : Heap}, (∃ o, s.heap.get? a = some o ∧ H a = none) → Heap.SameBut a s.heap h' → HOk X.prog X.w H h' := fun {a h'} ha hs b ob e => by
    obtain ⟨_, _, hfree⟩ := ha
    refine (I.hok b ob e).stay (fun c w' hc q => (hs.2 c ?_).trans q) (fun _ q => q) fun _ _ q => q
    rintro rfl
    rcases hc with rfl | hc
    · rw [hfree] at e; cases e
    · rw [hfree] at hc; cases hc
  rcases hx with hk | hk
  · refine wpAny_storeName_local hk hn (fun h' hn' hs => ?_) hcls
    obtain ⟨oL, _, _, hoL, _⟩ := id hn
    refine h _ ⟨I.ok, I.os, I.bare, ⟨fun b o e n hb hx => ?_, fun b o e n hb hx => ?_, I.base.free, fun b o e hx => ?_, I.base.tups, I.base.frzs, I.base.tbls⟩, ⟨_, hn', fun j y v' e1 e2 e3 => ?_⟩, fun y c e => ?_, I.free, I.freeC, fun p hp => ?_, tracked ⟨oL, hoL, I.free⟩ hs, by simpa using I.len⟩ ⟨_, hs, .inl rfl⟩
    · exact (hs.2 b (Nat.ne_of_lt (Nat.lt_of_lt_of_le (Heap.lt_size e) I.ok.above))).trans (I.base.keep b o e n hb hx)
    · obtain ⟨sl, e1⟩ := I.base.slot b o e n hb hx
      exact ⟨sl, (hs.2 b (Nat.ne_of_lt (Nat.lt_of_lt_of_le (Heap.lt_size e) I.ok.above))).trans e1⟩
    · obtain ⟨o', e1⟩ := I.base.there b o e hx
      exact ⟨o', (hs.2 b (Nat.ne_of_lt (Nat.lt_of_lt_of_le (Heap.lt_size e) I.ok.above))).trans e1⟩
    · by_cases hj : j = i
      · subst hj
        rw [hi] at e1; cases e1
        rw [List.getElem?_set_self hiσ] at e2
        cases e2
        exact ⟨u, r, .inl ⟨hk, by simp⟩⟩
      · rw [List.getElem?_set_ne (Ne.symm hj)] at e2
        obtain ⟨u', r', q⟩ := hl j y v' e1 e2 e3
        refine ⟨u', r', ?_⟩
        rcases q with ⟨k, e⟩ | ⟨k, c, e, z⟩
        · refine .inl ⟨k, ?_⟩
          have : y ≠ x := fun e => hj (nodup_ix hN e1 (e ▸ hi))
          simp [this, e]
        · exact .inr ⟨k, c, e, z.sameBut hs (cne y c e)⟩
    · obtain ⟨w', z⟩ := I.cell y c e
      exact ⟨w', z.sameBut hs (cne y c e)⟩
    · obtain ⟨e, n, ne, nf, d⟩ := I.pin p hp
      exact ⟨(hs.2 p.1 ne).trans e, n, ne, nf, d⟩
  · have hfn : X.fn x = true := by
      rcases hf with z | z
      · exact z
      · rw [z] at hk; cases hk
    obtain ⟨c, hc⟩ := I.ok.has x (.inl hk)
    obtain ⟨w', z⟩ := I.cell x c hc
    refine wpAny_storeName_cell I.ok.kind hk hc z (fun h' hc' hs => ?_)
    obtain ⟨oc, hoc, hocd⟩ := id z
    refine h { s with heap := h' } ⟨I.ok, I.os, I.bare, ⟨fun b o e n hb hx => ?_, fun b o e n hb hx => ?_, I.base.free, fun b o e hx => ?_, I.base.tups, I.base.frzs, I.base.tbls⟩, ⟨m, hn.sameBut hs (Ne.symm (cne x c hc)), fun j y v' e1 e2 e3 => ?_⟩, fun y c' e => ?_, I.free, I.freeC, fun p hp => ?_, tracked ⟨oc, hoc, I.freeC x c hc⟩ hs, by simpa using I.len⟩ ⟨c, hs, .inr hc⟩
    · exact (hs.2 b (Nat.ne_of_lt (Nat.lt_of_lt_of_le (Heap.lt_size e) (I.ok.cab x c hfn hc)))).trans (I.base.keep b o e n hb hx)
    · obtain ⟨sl, e1⟩ := I.base.slot b o e n hb hx
      exact ⟨sl, (hs.2 b (Nat.ne_of_lt (Nat.lt_of_lt_of_le (Heap.lt_size e) (I.ok.cab x c hfn hc)))).trans e1⟩
    · obtain ⟨o', e1⟩ := I.base.there b o e hx
      exact ⟨o', (hs.2 b (Nat.ne_of_lt (Nat.lt_of_lt_of_le (Heap.lt_size e) (I.ok.cab x c hfn hc)))).trans e1⟩
    · by_cases hj : j = i
      · subst hj
        rw [hi] at e1; cases e1
        rw [List.getElem?_set_self hiσ] at e2
        cases e2
        exact ⟨u, r, .inr ⟨.inl hk, c, hc, hc'⟩⟩
      · rw [List.getElem?_set_ne (Ne.symm hj)] at e2
        obtain ⟨u', r', q⟩ := hl j y v' e1 e2 e3
        refine ⟨u', r', ?_⟩
        rcases q with q | ⟨k, c', e, z'⟩
        · exact .inl q
        · refine .inr ⟨k, c', e, z'.sameBut hs ?_⟩
          rintro rfl
          exact hj (nodup_ix hN e1 (I.ok.inj _ _ _ e hc ▸ hi))
    · by_cases hcc : c' = c
      · subst hcc; exact ⟨_, hc'⟩
      · obtain ⟨w2, z2⟩ := I.cell y c' e
        exact ⟨w2, z2.sameBut hs hcc⟩
    · obtain ⟨e, n, ne, nf, d⟩ := I.pin p hp
      refine ⟨(hs.2 p.1 ?_).trans e, n, ne, nf, d⟩
      intro q
      rw [q, hoc] at e
      have q' : oc = p.2 := Option.some.inj e
      exact d w' (by rw [← q']; exact hocd)
theorem store_ok {M : Model} {A : Around} {E : Value → Shared → Prop} {i : Nat} {x : Str} {v : V} {u : Value} {Q : Unit → Shared → Prop} (I : Inv X pins σ H s) (hN : X.N.Nodup) (hi : X.N[i]? = some x) (hx : Loc X.env.scope x) (r : RelV v u)
    (h : ∀ s', Inv X pins (σ.set i (some v)) H s' → Q () s') (hf : X.fn x = true ∨ X.env.scope.names.lookup x = some .local := by first | exact .inl rfl | exact .inr rfl | assumption) : wpAny M A (storeName X.env x u) Q E s :=
  store_ok2 I hN hi hx r (fun s' I' _ => h s' I') hf
/-- behind a call or a block, the state as it is -/
theorem Inv.call' {s' : Shared} {ch : List Addr} (I : Inv X pins σ H s) (ho : s'.os = s.os) (u : Un (frs X.stack) ch H H' s.heap s'.heap) (hok : HOk X.prog X.w H' s'.heap) (hg : AllBare s'.gens)
    (hch : ∀ b ∈ ch, (b ∈ X.ex ∨ X.s₀.heap.objs.size ≤ b) ∧ b ≠ X.env.locals ∧ (∀ x c, X.env.cells.lookup x = some c → c ≠ b) ∧ ∀ p ∈ X.pn ++ pins, p.1 ≠ b) : Inv X pins σ H' s' := by
  obtain ⟨h', g', d', t', o'⟩ := s'
  have e : o' = s.os := ho
  subst e
  exact I.call (g' := g') (t' := t') (d' := d') u hok hg hch
end

/-! ### the judgements -/
/-- an exception: its class, its own dict's address (where it has one), the abstract heap behind it -/
abbrev XK := Value → Option Addr → Hp → Prop
abbrev St := List (Option V)
abbrev VK := V → Hp → Prop
/-- an expression's reading; a test's; an argument list's -/
abbrev TE := St → Hp → VK → Prop
abbrev TT := St → Hp → (Bool → Hp → Prop) → Prop
abbrev TA := St → Hp → (List V → Hp → Prop) → Prop
/-- what is wanted behind a statement -/
structure Ends where
  nx : St → Hp → Prop
  rt : VK
  bk : St → Hp → Prop := fun _ _ => False
  ct : St → Hp → Prop := fun _ _ => False
abbrev TS := Ends → St → Hp → Prop

def EP (X : Cx) (pins : List (Addr × Obj)) (σ : St) (Q : VK) (u : Value) (s' : Shared) : Prop := ∃ v H', Inv X pins σ H' s' ∧ RelV v u ∧ Q v H'
def TP (X : Cx) (pins : List (Addr × Obj)) (σ : St) (Q : Bool → Hp → Prop) (b : Bool) (s' : Shared) : Prop := ∃ H', Inv X pins σ H' s' ∧ Q b H'
def AP (X : Cx) (pins : List (Addr × Obj)) (σ : St) (Q : List V → Hp → Prop) (us : List Value) (s' : Shared) : Prop := ∃ vs H', Inv X pins σ H' s' ∧ Vals vs us ∧ Q vs H'
def SP (X : Cx) (pins : List (Addr × Obj)) (D : Ends) (f : Flow) (s' : Shared) : Prop :=
  match f with
  | .next => ∃ σ' H', Inv X pins σ' H' s' ∧ D.nx σ' H'
  | .brk => ∃ σ' H', Inv X pins σ' H' s' ∧ D.bk σ' H'
  | .cont => ∃ σ' H', Inv X pins σ' H' s' ∧ D.ct σ' H'
  | .ret u => ∃ v σ' H', Inv X pins σ' H' s' ∧ RelV v u ∧ D.rt v H'

def PE (X : Cx) (e : Expr) (t : TE) : Prop :=
  ∀ (pins : List (Addr × Obj)) (s : Shared) (σ : St) (H : Hp) (Q : VK), Inv X pins σ H s → t σ H Q → wpAny (model X.prog X.w) X.A (eval e X.env) (EP X pins σ Q) X.xe s
def PT (X : Cx) (e : Expr) (t : TT) : Prop :=
  ∀ (pins : List (Addr × Obj)) (s : Shared) (σ : St) (H : Hp) (Q : Bool → Hp → Prop), Inv X pins σ H s → t σ H Q → wpAny (model X.prog X.w) X.A (isTrue e X.env (eval e X.env)) (TP X pins σ Q) X.xe s
/-- a test whatever its 'whole' is (and, or) -/
def PW (X : Cx) (e : Expr) (t : TT) : Prop :=
  ∀ (whole : Sem Value) (pins : List (Addr × Obj)) (s : Shared) (σ : St) (H : Hp) (Q : Bool → Hp → Prop), Inv X pins σ H s → t σ H Q → wpAny (model X.prog X.w) X.A (isTrue e X.env whole) (TP X pins σ Q) X.xe s
theorem PW.pt {X : Cx} {e : Expr} {t : TT} (h : PW X e t) : PT X e t := h _
/-- an argument list (no star), from the left -/
def PA (X : Cx) (es : List Expr) (t : TA) : Prop :=
  ∀ (pos : Pos) (pins : List (Addr × Obj)) (s : Shared) (σ : St) (H : Hp) (Q : List V → Hp → Prop), Inv X pins σ H s → t σ H Q → wpAny (model X.prog X.w) X.A (spliced (backTo pos (starEach es X.env))) (AP X pins σ Q) X.xe s
def PS (X : Cx) (st : Stmt) (t : TS) : Prop :=
  ∀ (pins : List (Addr × Obj)) (s : Shared) (σ : St) (H : Hp) (D : Ends), Inv X pins σ H s → t D σ H → wpAny (model X.prog X.w) X.A (exec st X.env) (SP X pins D) X.xe s
def PSs (X : Cx) (st : List Stmt) (t : TS) : Prop :=
  ∀ (pins : List (Addr × Obj)) (s : Shared) (σ : St) (H : Hp) (D : Ends), Inv X pins σ H s → t D σ H → wpAny (model X.prog X.w) X.A (execs st X.env) (SP X pins D) X.xe s
/-- weaken the end -/
theorem thn {α : Type} {t : Sem α} {Q Q' : α → Shared → Prop} {M : Model} {A : Around} {E : Value → Shared → Prop} {s : Shared} (h : wpAny M A t Q E s) (hQ : ∀ a s, Q a s → Q' a s) : wpAny M A t Q' E s := wpAny_mono h hQ fun _ _ x => x
end L2

namespace L2
open PySem PySem.Spec PyProof.Rows
section
variable {X : Cx}

/-! ### names and constants -/
inductive tVar (i : Nat) (σ : St) (H : Hp) (Q : VK) : Prop
  | mk (v : _) (_ : σ[i]? = some (some v)) (_ : Q v H) : tVar i σ H Q
def tC (v : V) : TE := fun _ H Q => Q v H
theorem pe_var {i : Nat} {x : Str} {pos : Pos} (hN : X.N[i]? = some x) (hv : Vis X.env.scope x) (hd : (x == ("__debug__" : Str)) = false := by decide) (hcd : (x == ("__classdict__" : Str)) = false := by decide) : PE X (.Name x pos) (tVar i) := by
  intro pins s σ H Q I h
  obtain ⟨v, e, h⟩ := h
  obtain ⟨m, hn, hl⟩ := I.loc
  obtain ⟨u, r, l⟩ := hl i x v hN e hv
  have fin : EP X pins σ Q u s := ⟨v, H, I, r, h⟩
  rcases l with ⟨hk, hm⟩ | ⟨hk, c, hc, hcell⟩
  · exact wpAny_Name (wpAny_loadName_local I.ok.kind hk hn hm fin) hd
  · rcases hk with hk | hk
    · exact wpAny_Name (wpAny_loadName_cell I.ok.kind hk hc hcell fin) hd
    · exact wpAny_Name (wpAny_loadName_free I.ok.kind hk hc hcell fin hcd) hd
theorem pe_int {i j pos} : PE X (.Constant (.int i) j pos) (tC (.int i)) := fun _ _ _ H _ I h => wpAny_Constant_int ⟨.int i, H, I.tok _, ⟨_, rfl⟩, h⟩
theorem pe_bl {b j pos} : PE X (.Constant (.bool b) j pos) (tC (.bl b)) := fun _ _ _ H _ I h => Constant_bool ⟨.bl b, H, I, rfl, h⟩
theorem pe_str {x j pos} : PE X (.Constant (.str x) j pos) (tC (.str x)) := fun _ _ _ H _ I h => Calls.Constant_str ⟨.str x, H, I.tok _, ⟨_, rfl⟩, h⟩

/-- a global name of the def -/
def Gl (X : Cx) (x : Str) : Prop := X.env.kindOf x = some .globalImplicit
theorem ld_glob {E : Value → Shared → Prop} {pins : List (Addr × Obj)} {s : Shared} {σ : St} {H : Hp} {x : Str} {u : Value} {pos : Pos} {Q : Value → Shared → Prop} (I : Inv X pins σ H s) (hg : Gl X x) (hm : X.mg x = some u) (h : Q u s)
    (hd : (x == ("__debug__" : Str)) = false := by decide) : wpAny (model X.prog X.w) X.A (eval (.Name x pos) X.env) Q E s :=
  Calls.Name_function_global I.ok.kind hg (Calls.loadGlobal_global (by rw [I.ok.glob]; exact I.mod.glob.keeps I.bk) hm h) hd
theorem ld_blt {E : Value → Shared → Prop} {pins : List (Addr × Obj)} {s : Shared} {σ : St} {H : Hp} {x : Str} {u : Value} {pos : Pos} {Q : Value → Shared → Prop} (I : Inv X pins σ H s) (hg : Gl X x) (hm : X.mg x = none) (hv : bootBuiltins x = some u) (h : Q u s)
    (hn : x ≠ "__name__" := by decide) (hd : (x == ("__debug__" : Str)) = false := by decide) : wpAny (model X.prog X.w) X.A (eval (.Name x pos) X.env) Q E s := by
  obtain ⟨mb, h1, h2⟩ := I.mod.blt
  exact Calls.Name_function_global I.ok.kind hg (Calls.loadGlobal_builtin (by rw [I.ok.glob]; exact I.mod.glob.keeps I.bk) hm (by rw [I.ok.blt]; exact h1.keeps I.bk) ((h2 x hn).trans hv) h) hd
/-- a module's constant, a class, a function, as a value -/
theorem pe_glob {x : Str} {v : V} {u : Value} {pos : Pos} (hg : Gl X x) (hm : X.mg x = some u) (r : RelV v u) (hd : (x == ("__debug__" : Str)) = false := by decide) : PE X (.Name x pos) (tC v) :=
  fun _ _ _ H _ I h => ld_glob I hg hm ⟨v, H, I, r, h⟩ hd
theorem pe_bltn {x : Str} {v : V} {u : Value} {pos : Pos} (hg : Gl X x) (hm : X.mg x = none) (hv : bootBuiltins x = some u) (r : RelV v u) (hn : x ≠ "__name__" := by decide) (hd : (x == ("__debug__" : Str)) = false := by decide) : PE X (.Name x pos) (tC v) :=
  fun _ _ _ H _ I h => ld_blt I hg hm hv ⟨v, H, I, r, h⟩ hn hd

/-! ### arithmetic -/
/-- two ints -/
def t2I (ta tb : TE) (k : Int → Int → Hp → Prop) : St → Hp → Prop := fun σ H => ta σ H fun x H1 => tb σ H1 fun y H2 => ∃ i j, x = .int i ∧ y = .int j ∧ k i j H2
def tAdd (ta tb : TE) : TE := fun σ H Q => t2I ta tb (fun i j H2 => Q (.int (i + j)) H2) σ H
def tSub (ta tb : TE) : TE := fun σ H Q => t2I ta tb (fun i j H2 => Q (.int (i - j)) H2) σ H
/-- the left factor below 2^64 -/
def tMul (ta tb : TE) : TE := fun σ H Q => t2I ta tb (fun i j H2 => (-(2 ^ 64) < i ∧ i < 2 ^ 64) ∧ Q (.int (i * j)) H2) σ H
variable {a b : Expr} {ta tb : TE} {pos : Pos}
/-! ### comparisons -/
def PC (X : Cx) (op : CmpOp) (a b : Expr) (t : TE) : Prop :=
  ∀ (pins : List (Addr × Obj)) (s : Shared) (σ : St) (H : Hp) (Q : VK), Inv X pins σ H s → t σ H Q →
    wpAny (model X.prog X.w) X.A (eval a X.env) (fun v s₁ => wpAny (model X.prog X.w) X.A (eval b X.env) (fun u s₂ => wpAny (model X.prog X.w) X.A (compareOp op v u) (EP X pins σ Q) X.xe s₂) X.xe s₁) X.xe s
def tCmp (p : Int → Int → Bool) (ta tb : TE) : TE := fun σ H Q => t2I ta tb (fun i j H2 => Q (.bl (p i j)) H2) σ H
abbrev tLt : TE → TE → TE := tCmp fun i j => decide (i < j)
abbrev tLe : TE → TE → TE := tCmp fun i j => decide (i ≤ j)
abbrev tGt : TE → TE → TE := tCmp fun i j => decide (j < i)
abbrev tGe : TE → TE → TE := tCmp fun i j => decide (j ≤ i)
abbrev tEqI : TE → TE → TE := tCmp fun i j => decide (i = j)
abbrev tNeI : TE → TE → TE := tCmp fun i j => !decide (i = j)
/-- is None -/
def tIsN (ta : TE) : TE := fun σ H Q => ta σ H fun x H1 => Q (.bl (decide (x = .non))) H1
def tNotN (ta : TE) : TE := fun σ H Q => ta σ H fun x H1 => Q (.bl (!decide (x = .non))) H1
/-- a comparison as a value, as a test -/
inductive tBq  (Q : Bool → Hp → Prop) (x : V) (H1 : Hp) : Prop
  | mk (c : _) (_ : x = .bl c) (_ : Q c H1) : tBq Q x H1
def tB (t : TE) : TT := fun σ H Q => t σ H fun x H1 => tBq Q x H1
/-- an expression whose value is a bool, as a test -/
theorem pt_val {e : Expr} {t : TE} (h : PE X e t) (he : ∀ whole, isTrue e X.env whole = (do let v ← whole; standAt e.pos; holding [v] (truthy v)) := by intro _; rfl) : PT X e (tB t) := by
  intro pins s σ H Q I hw
  refine isTrue_plain (thn (h pins s σ H _ I hw) fun v s1 ⟨x, H1, I1, r1, q1⟩ => ?_) (he _)
  obtain ⟨d, rfl, q⟩ := q1
  cases r1
  exact wpAny_truthy_bool ⟨H1, I1, q⟩

/-! ### and, or, not -/
variable {tA tB' : TT} {rest : List Expr}
def tAnd (t u : TT) : TT := fun σ H Q => t σ H fun c H1 => if c = true then u σ H1 Q else Q false H1
def tOr (t u : TT) : TT := fun σ H Q => t σ H fun c H1 => if c = true then Q true H1 else u σ H1 Q
def tNot (t : TT) : TT := fun σ H Q => t σ H fun c H1 => Q (!c) H1
theorem pw_and1 (ha : PT X a tA) : PW X (.BoolOp .And [a] pos) tA := by
  intro wh pins s σ H Q I h
  refine isTrue_and (thn (ha pins s σ H Q I h) fun c s1 e => ?_)
  cases c with
  | true => exact isTrue_and_nil e
  | false => exact e
theorem pw_or1 (ha : PT X a tA) : PW X (.BoolOp .Or [a] pos) tA := by
  intro wh pins s σ H Q I h
  refine isTrue_or (thn (ha pins s σ H Q I h) fun c s1 e => ?_)
  cases c with
  | false => exact isTrue_or_nil e
  | true => exact e
theorem pw_and (ha : PT X a tA) (hb : PW X (.BoolOp .And (b :: rest) pos) tB') : PW X (.BoolOp .And (a :: b :: rest) pos) (tAnd tA tB') := by
  intro wh pins s σ H Q I h
  refine isTrue_and (thn (ha pins s σ H _ I h) fun c s1 ⟨H1, I1, q1⟩ => ?_)
  cases c with
  | true => exact hb wh pins s1 σ H1 Q I1 q1
  | false => exact ⟨H1, I1, q1⟩
theorem pw_or (ha : PT X a tA) (hb : PW X (.BoolOp .Or (b :: rest) pos) tB') : PW X (.BoolOp .Or (a :: b :: rest) pos) (tOr tA tB') := by
  intro wh pins s σ H Q I h
  refine isTrue_or (thn (ha pins s σ H _ I h) fun c s1 ⟨H1, I1, q1⟩ => ?_)
  cases c with
  | true => exact ⟨H1, I1, q1⟩
  | false => exact hb wh pins s1 σ H1 Q I1 q1
theorem pt_not (ha : PT X a tA) : PT X (.UnaryOp .Not a pos) (tNot tA) := by
  intro pins s σ H Q I h
  exact isTrue_not (ha pins s σ H (fun c H1 => Q (!c) H1) I h)
/-- .. as values (bools) -/
inductive tAndVq (tb : TE) (σ : St) (Q : VK) (x : V) (H1 : Hp) : Prop
  | mk (c : _) (_ : x = .bl c) (_ : if c = true then tb σ H1 Q else Q (.bl false) H1) : tAndVq tb σ Q x H1
def tAndV (ta tb : TE) : TE := fun σ H Q => ta σ H fun x H1 => tAndVq tb σ Q x H1
inductive tOrVq (tb : TE) (σ : St) (Q : VK) (x : V) (H1 : Hp) : Prop
  | mk (c : _) (_ : x = .bl c) (_ : if c = true then Q (.bl true) H1 else tb σ H1 Q) : tOrVq tb σ Q x H1
def tOrV (ta tb : TE) : TE := fun σ H Q => ta σ H fun x H1 => tOrVq tb σ Q x H1
inductive tNotVq  (Q : VK) (x : V) (H1 : Hp) : Prop
  | mk (c : _) (_ : x = .bl c) (_ : Q (.bl (!c)) H1) : tNotVq Q x H1
def tNotV (ta : TE) : TE := fun σ H Q => ta σ H fun x H1 => tNotVq Q x H1
theorem pe_one {op} {t : TE} (h : PE X a t) : PE X (.BoolOp op [a] pos) t := fun pins s σ H Q I hw => BoolOp_one (h pins s σ H Q I hw)
theorem pe_and (ha : PE X a ta) (hb : PE X (.BoolOp .And (b :: rest) pos) tb) : PE X (.BoolOp .And (a :: b :: rest) pos) (tAndV ta tb) := by
  intro pins s σ H Q I h
  refine BoolOp_and (thn (ha pins s σ H _ I h) fun v s1 ⟨x, H1, I1, r1, q1⟩ => ?_)
  obtain ⟨c, rfl, q1⟩ := q1
  cases r1
  refine wpAny_truthy_bool ?_
  cases c with
  | true => exact hb pins s1 σ H1 Q I1 q1
  | false => exact ⟨.bl false, H1, I1, rfl, q1⟩
theorem pe_not (ha : PE X a ta) : PE X (.UnaryOp .Not a pos) (tNotV ta) := by
  intro pins s σ H Q I h
  refine UnaryOp_ (thn (ha pins s σ H _ I h) fun v s1 ⟨x, H1, I1, r1, q1⟩ => ?_)
  obtain ⟨c, rfl, q1⟩ := q1
  cases r1
  exact not_of (wpAny_truthy_bool ⟨.bl (!c), H1, I1, rfl, q1⟩)
/-- a if t else b -/
def tIf (t : TT) (ta tb : TE) : TE := fun σ H Q => t σ H fun c H1 => if c = true then ta σ H1 Q else tb σ H1 Q
theorem pe_ifExp {c : Expr} (hc : PT X c tA) (ha : PE X a ta) (hb : PE X b tb) : PE X (.IfExp c a b pos) (tIf tA ta tb) := by
  intro pins s σ H Q I h
  refine wpAny_IfExp (thn (hc pins s σ H _ I h) fun d s1 ⟨H1, I1, q1⟩ => ?_)
  cases d with
  | true => exact ha pins s1 σ H1 Q I1 q1
  | false => exact hb pins s1 σ H1 Q I1 q1
end
end L2

namespace L2
open PySem PySem.Spec PyProof.Rows

/-! ### a list, a tuple that is read: tracked, frozen, or an object of the module -/
def SqL (K : PySem.W.Frag) (H : Hp) (a : Addr) (xs : List V) : Prop :=
  Rd H a (.lst xs) ∨
    ∃ (o : Obj) (its : Array Value) (n : Nat), K.lookup a = some o ∧ o.cls = .type "list" ∧ o.dict = none ∧ o.data = .seq its n ∧ its.size ≤ sizeLine ∧ Vals xs its.toList
def SqT (K : PySem.W.Frag) (H : Hp) (a : Addr) (xs : List V) : Prop :=
  Rd H a (.tup xs) ∨
    ∃ (o : Obj) (its : Array Value) (n : Nat), K.lookup a = some o ∧ o.cls = .type "tuple" ∧ o.data = .seq its n ∧ its.size ≤ sizeLine ∧ Vals xs its.toList
def absV : Value → Option V
  | .none => some .non
  | .bool b => some (.bl b)
  | .int i _ => some (.int i)
  | .str x _ => some (.str x)
  | .bytes b _ => some (.byt b)
  | .float b _ => some (.flt b)
  | .ref a => some (.ref a)
  | .type n => some (.ty n)
  | _ => none
theorem RelV.abs {x : V} {u : Value} (r : RelV x u) : absV u = some x := by
  cases x with
  | non => cases r; rfl
  | bl _ => cases r; rfl
  | int _ => obtain ⟨t, rfl⟩ := r; rfl
  | str _ => obtain ⟨t, rfl⟩ := r; rfl
  | byt _ => obtain ⟨t, rfl⟩ := r; rfl
  | flt _ => obtain ⟨t, rfl⟩ := r; rfl
  | ref _ => cases r; rfl
  | ty _ => cases r; rfl
theorem RelV.inj {x y : V} {u : Value} (r : RelV x u) (q : RelV y u) : x = y := Option.some.inj (r.abs.symm.trans q.abs)
theorem Vals.inj : ∀ {xs ys : List V} {us : List Value}, Vals xs us → Vals ys us → xs = ys
  | _, _, _, .nil, .nil => rfl
  | _, _, _, .cons r t, .cons r' t' => by rw [r.inj r', Vals.inj t t']
section
variable {X : Cx} {pins : List (Addr × Obj)} {σ : St} {H : Hp} {s : Shared} {a : Addr} {xs ys : List V}
theorem SqL.of {K : PySem.W.Frag} (h : H a = some (.lst xs)) : SqL K H a xs := .inl (.inl h)
theorem SqT.of {K : PySem.W.Frag} (h : H a = some (.tup xs)) : SqT K H a xs := .inl (.inl h)
theorem Inv.list (I : Inv X pins σ H s) (h : SqL X.K H a xs) : ∃ its : List Value, Vals xs its ∧ PlainL s.heap a its.toArray ∧ xs.length ≤ sizeLine := by
  rcases h with h | ⟨o, its, n, hk, hc, hd, hs, hz, r⟩
  · obtain ⟨z, its, n, r, e⟩ := h.ok I.hok
    exact ⟨its, r, ⟨_, n, e, rfl, rfl, rfl⟩, z⟩
  · refine ⟨its.toList, r, ⟨o, n, I.kIn a o hk, hc, hd, by simpa using hs⟩, ?_⟩
    have e := r.length
    simp only [Array.length_toList] at e
    omega
theorem Inv.tuple (I : Inv X pins σ H s) (h : SqT X.K H a xs) : ∃ its : List Value, Vals xs its ∧ IsTup s.heap a its.toArray ∧ xs.length ≤ sizeLine := by
  rcases h with h | ⟨o, its, n, hk, hc, hs, hz, r⟩
  · obtain ⟨z, its, r, p⟩ := h.ok I.hok
    exact ⟨its, r, p, z⟩
  · refine ⟨its.toList, r, ⟨o, I.kIn a o hk, hc, n, by simpa using hs⟩, ?_⟩
    have e := r.length
    simp only [Array.length_toList] at e
    omega
theorem Inv.list_inj (I : Inv X pins σ H s) (h : SqL X.K H a xs) (h' : SqL X.K H a ys) : xs = ys := by
  obtain ⟨its, r, ⟨o, n, e, _, _, d⟩, _⟩ := I.list h
  obtain ⟨its', r', ⟨o', n', e', _, _, d'⟩, _⟩ := I.list h'
  rw [e] at e'; cases e'
  rw [d] at d'
  injection d' with d1 _
  have : its = its' := by simpa using congrArg Array.toList d1
  subst this
  exact r.inj r'
theorem Inv.tuple_inj (I : Inv X pins σ H s) (h : SqT X.K H a xs) (h' : SqT X.K H a ys) : xs = ys := by
  obtain ⟨its, r, ⟨o, e, _, n, d⟩, _⟩ := I.tuple h
  obtain ⟨its', r', ⟨o', e', _, n', d'⟩, _⟩ := I.tuple h'
  rw [e] at e'; cases e'
  rw [d] at d'
  injection d' with d1 _
  have : its = its' := by simpa using congrArg Array.toList d1
  subst this
  exact r.inj r'
end

/-! ### another wish about exceptions -/
abbrev Cx.wish (X : Cx) (E : Value → Shared → Prop) : Cx := { X with xe := E }
/-- no exception leaves -/
abbrev Cx.nox (X : Cx) : Cx := X.wish fun _ _ => False
theorem Cx.Ok.wish {X : Cx} (ok : X.Ok) (E : Value → Shared → Prop) : (X.wish E).Ok :=
  ⟨ok.mod, ok.kind, ok.glob, ok.blt, ok.above, ok.inj, ok.has, ok.cab, ok.hd, ok.frames, ok.stk, ok.exf, ok.bs, ok.bsz, ok.noex, ok.exfs, ok.funs, ok.frf⟩
theorem Cx.Ok.unwish {X : Cx} {E : Value → Shared → Prop} (ok : (X.wish E).Ok) : X.Ok :=
  ⟨ok.mod, ok.kind, ok.glob, ok.blt, ok.above, ok.inj, ok.has, ok.cab, ok.hd, ok.frames, ok.stk, ok.exf, ok.bs, ok.bsz, ok.noex, ok.exfs, ok.funs, ok.frf⟩
section
variable {X : Cx} {pins : List (Addr × Obj)} {σ : St} {H : Hp} {s : Shared} {E : Value → Shared → Prop}
theorem Inv.wish (I : Inv X pins σ H s) (E : Value → Shared → Prop) : Inv (X.wish E) pins σ H s := ⟨I.ok.wish E, I.os, I.bare, I.base, I.loc, I.cell, I.free, I.freeC, I.pin, I.hok, I.len⟩
theorem Inv.unwish (I : Inv (X.wish E) pins σ H s) : Inv X pins σ H s := ⟨I.ok.unwish, I.os, I.bare, I.base, I.loc, I.cell, I.free, I.freeC, I.pin, I.hok, I.len⟩
theorem SP.unwish {D : Ends} {f : Flow} {s' : Shared} (h : SP (X.wish E) pins D f s') : SP X pins D f s' := by
  cases f with
  | next => obtain ⟨σ', H', I, q⟩ := h; exact ⟨σ', H', I.unwish, q⟩
  | brk => obtain ⟨σ', H', I, q⟩ := h; exact ⟨σ', H', I.unwish, q⟩
  | cont => obtain ⟨σ', H', I, q⟩ := h; exact ⟨σ', H', I.unwish, q⟩
  | ret u => obtain ⟨v, σ', H', I, r, q⟩ := h; exact ⟨v, σ', H', I.unwish, r, q⟩
theorem PSs.nox {st : List Stmt} {t : TS} (h : PSs X.nox st t) : PSs X st t := fun pins s σ H D I hw =>
  wpAny_mono (h pins s σ H D (I.wish _) hw) (fun _ _ q => q.unwish) fun _ _ z => False.elim z
end

/-! ### blocks and small statements -/
section
variable {X : Cx} {st : Stmt} {rest : List Stmt} {t u : TS} {e : Expr} {te : TE} {pos : Pos}
def tNext : TS := fun D σ H => D.nx σ H
def tSeq (t u : TS) : TS := fun D σ H => t { D with nx := u D } σ H
theorem pss_nil : PSs X [] tNext := fun _ _ σ H _ I h => wpAny_execs_nil ⟨σ, H, I, h⟩
theorem pss_cons (h1 : PS X st t) (h2 : PSs X rest u) : PSs X (st :: rest) (tSeq t u) := by
  intro pins s σ H D I h
  refine wpAny_execs_cons (thn (h1 pins s σ H { D with nx := u D } I h) fun f s1 q => ?_)
  cases f with
  | next =>
    obtain ⟨σ', H', I', q⟩ := q
    exact h2 pins s1 σ' H' D I' q
  | ret v => exact q
  | brk => exact q
  | cont => exact q
theorem pss_one (h1 : PS X st t) : PSs X [st] t := by
  intro pins s σ H D I h
  refine wpAny_execs_cons (thn (h1 pins s σ H D I h) fun f s1 q => ?_)
  cases f with
  | next => exact wpAny_execs_nil q
  | ret v => exact q
  | brk => exact q
  | cont => exact q
def tBreak : TS := fun D σ H => D.bk σ H
def tCont : TS := fun D σ H => D.ct σ H
theorem ps_continue : PS X (.Continue pos) tCont := fun _ _ σ H _ I h => wpAny_Continue ⟨σ, H, I, h⟩
/-- in a def's body nothing is shown -/
theorem Inv.quiet {pins : List (Addr × Obj)} {σ : St} {H : Hp} {s : Shared} (I : Inv X pins σ H s) : interactive X.env = false := by simp [interactive, I.ok.kind]
/-- an expression whose value is dropped -/
def tDrop (te : TE) : TS := fun D σ H => te σ H fun _ H1 => D.nx σ H1
theorem ps_expr (he : PE X e te) (hs : swapsWith e none pos.line X.env = pure false := by rfl) : PS X (.Expr e pos) (tDrop te) := by
  intro pins s σ H D I h
  exact wpAny_Expr_any (thn (he pins s σ H _ I h) fun v s1 ⟨x, H1, I1, r1, q1⟩ => ⟨σ, H1, I1, q1⟩) I.quiet hs
def tRet (te : TE) : TS := fun D σ H => te σ H D.rt
theorem ps_ret (he : PE X e te) : PS X (.Return (some e) pos) (tRet te) := by
  intro pins s σ H D I h
  exact wpAny_Return_some (thn (he pins s σ H _ I h) fun v s1 ⟨x, H1, I1, r1, q1⟩ => ⟨x, σ, H1, I1, r1, q1⟩)
def tRetN : TS := fun D _ H => D.rt .non H
def tIfS (c : TT) (t u : TS) : TS := fun D σ H => c σ H fun b H1 => if b = true then t D σ H1 else u D σ H1
theorem ps_if {c : Expr} {a b : List Stmt} {tc : TT} (hc : PT X c tc) (ha : PSs X a t) (hb : PSs X b u) : PS X (.If c a b pos) (tIfS tc t u) := by
  intro pins s σ H D I h
  refine wpAny_If (thn (hc pins s σ H _ I h) fun d s1 ⟨H1, I1, q1⟩ => ?_)
  cases d with
  | true => exact ha pins s1 σ H1 D I1 q1
  | false => exact hb pins s1 σ H1 D I1 q1
/-- code that the proof never comes to -/
def tNever : TS := fun _ _ _ => False
end

/-! ### targets -/
abbrev TG := V → St → Hp → (St → Hp → Prop) → Prop
abbrev TGs := List V → St → Hp → (St → Hp → Prop) → Prop
def PG (X : Cx) (target : Expr) (t : TG) : Prop :=
  ∀ (pins : List (Addr × Obj)) (s : Shared) (σ : St) (H : Hp) (v : V) (u : Value) (Q : St → Hp → Prop), Inv X pins σ H s → RelV v u → t v σ H Q →
    wpAny (model X.prog X.w) X.A (assign target X.env u) (fun _ s' => ∃ σ' H', Inv X pins σ' H' s' ∧ Q σ' H') X.xe s
/-- several targets, one after another -/
def PGs (X : Cx) (ts : List Expr) (t : TGs) : Prop :=
  ∀ (pins : List (Addr × Obj)) (s : Shared) (σ : St) (H : Hp) (vs : List V) (us : List Value) (Q : St → Hp → Prop), Inv X pins σ H s → Vals vs us → t vs σ H Q →
    wpAny (model X.prog X.w) X.A (assignInOrder ((assignEach ts X.env).map (·.2)) us) (fun _ s' => ∃ σ' H', Inv X pins σ' H' s' ∧ Q σ' H') X.xe s
/-- o[i] = v, by values -/
abbrev TSet := V → V → V → Hp → (Hp → Prop) → Prop
def PSet (X : Cx) (t : TSet) : Prop :=
  ∀ (pins : List (Addr × Obj)) (s : Shared) (σ : St) (H : Hp) (o i v : V) (ov iv u : Value) (Q : Hp → Prop), Inv X pins σ H s → RelV o ov → RelV i iv → RelV v u → t o i v H Q →
    wpAny (model X.prog X.w) X.A (setItem ov iv u) (fun _ s' => ∃ H', Inv X pins σ H' s' ∧ Q H') X.xe s
/-- a op= b, by values -/
abbrev TIp := V → V → Hp → VK → Prop
def PIp (X : Cx) (op : Operator) (t : TIp) : Prop :=
  ∀ (pins : List (Addr × Obj)) (s : Shared) (σ : St) (H : Hp) (x y : V) (v u : Value) (Q : VK), Inv X pins σ H s → RelV x v → RelV y u → t x y H Q →
    wpAny (model X.prog X.w) X.A (inplaceOp op v u) (EP X pins σ Q) X.xe s
section
variable {X : Cx} {pos : Pos}
def gName (i : Nat) : TG := fun v σ H Q => Q (σ.set i (some v)) H
theorem pg_name {i : Nat} {x : Str} (hN : X.N.Nodup) (hi : X.N[i]? = some x) (hx : Loc X.env.scope x) (hf : X.fn x = true ∨ X.env.scope.names.lookup x = some .local := by first | exact .inl rfl | exact .inr rfl | assumption) : PG X (.Name x pos) (gName i) := by
  intro pins s σ H v u Q I r h
  exact wpAny_assign_Name (store_ok I hN hi hx r (fun s' I' => ⟨_, H, I', h⟩) hf)
def gNil : TGs := fun vs σ H Q => vs = [] ∧ Q σ H
def gCons (t : TG) (u : TGs) : TGs := fun vs σ H Q => ∃ v r, vs = v :: r ∧ t v σ H fun σ' H' => u r σ' H' Q
theorem pgs_nil : PGs X [] gNil := by
  intro pins s σ H vs us Q I r h
  obtain ⟨e, h⟩ := h
  subst e
  cases r
  exact assignInOrder_nil ⟨σ, H, I, h⟩
theorem pgs_cons {e : Expr} {es : List Expr} {t : TG} {u : TGs} (h1 : PG X e t) (h2 : PGs X es u)
    (hs : (assignEach (e :: es) X.env).map (·.2) = assign e X.env :: (assignEach es X.env).map (·.2) := by rfl) : PGs X (e :: es) (gCons t u) := by
  intro pins s σ H vs us Q I r h
  obtain ⟨v, vr, e1, h⟩ := h
  subst e1
  cases r with
  | cons r rr =>
    rw [hs]
    refine assignInOrder_cons (thn (h1 pins s σ H _ _ _ I r h) fun _ s1 ⟨σ1, H1, I1, q1⟩ => ?_)
    exact h2 pins s1 σ1 H1 _ _ Q I1 rr q1
/-- (a, b, ..) = a tuple of that length -/
def gTup (K : PySem.W.Frag) (n : Nat) (t : TGs) : TG := fun v σ H Q => ∃ a xs, v = .ref a ∧ SqT K H a xs ∧ xs.length = n ∧ t xs σ H Q
theorem pg_tup {es : List Expr} {k : Nat} {t : TGs} {n : Nat} (hc : X.calm = true) (h : PGs X es t)
    (hn : (assignEach es X.env).length = n := by rfl) (hst : (assignEach es X.env).findIdx? (·.1) = none := by rfl) : PG X (.Tuple es k pos) (gTup X.K n t) := by
  intro pins s σ H v u Q I r hw
  obtain ⟨a, xs, e1, hq, hl, hw⟩ := hw
  subst e1
  cases r
  obtain ⟨its, rv, ht, hz⟩ := I.tuple hq
  refine assign_Tuple_tuple (I.ok.hd hc) ht (by simp [hn, ← hl, rv.length]) hst fun h' hx => ?_
  have I1 : Inv X pins σ H { s with heap := h' } := I.kept (t' := s.toks) fun b o e => hx b o (Nat.ne_of_lt (Heap.lt_size e)) e
  exact h pins _ σ H xs _ Q I1 (by simpa using rv) hw
/-- o[i] = .. -/
def gSub (to ti : TE) (t : TSet) : TG := fun v σ H Q => to σ H fun o H1 => ti σ H1 fun i H2 => t o i v H2 fun H3 => Q σ H3
theorem pg_sub {o i : Expr} {to ti : TE} {t : TSet} (ho : PE X o to) (hi : PE X i ti) (hs : PSet X t)
    (ha : ∀ v, assign (.Subscript o i pos) X.env v = (do
      let ov ← holding [v] (eval o X.env)
      let iv ← holding [v, ov] (eval i X.env)
      standAt pos
      holding [v, ov, iv] (setItem ov iv v)
      release [v, ov, iv] []) := by intro _; rfl) : PG X (.Subscript o i pos) (gSub to ti t) := by
  intro pins s σ H v u Q I r h
  rw [ha]
  refine wpAny_bind (wpAny_holding (thn (ho pins s σ H _ I h) fun ov s1 ⟨x, H1, I1, r1, q1⟩ => ?_))
  refine wpAny_bind (wpAny_holding (thn (hi pins s1 σ H1 _ I1 q1) fun iv s2 ⟨y, H2, I2, r2, q2⟩ => ?_))
  refine wpAny_bind (wpAny_standAt (wpAny_bind (wpAny_holding (thn (hs pins s2 σ H2 x y v ov iv u _ I2 r1 r2 r q2) fun _ s3 ⟨H3, I3, q3⟩ => ?_))))
  exact wpAny_release ⟨σ, H3, I3, q3⟩
/-- target = value -/
def tAsg (te : TE) (g : TG) : TS := fun D σ H => te σ H fun x H1 => g x σ H1 D.nx
theorem ps_asg {tg e : Expr} {te : TE} {g : TG} (he : PE X e te) (hg : PG X tg g) (hs : swapsWithSole [tg] e pos.line X.env = pure false := by rfl) (hw : swappedStores [tg] e X.env = pure none := by rfl)
    (h1 : (assignEach [tg] X.env).map (·.2) = [assign tg X.env] := by rfl) : PS X (.Assign [tg] e pos) (tAsg te g) := by
  intro pins s σ H D I h
  refine wpAny_Assign_stores (thn (he pins s σ H _ I h) fun v s1 ⟨x, H1, I1, r1, q1⟩ => ?_) hs hw
  rw [h1]
  exact thn (hg pins s1 σ H1 x v _ I1 r1 q1) fun _ s2 q => q
/-- name = value -/
theorem ps_set {i : Nat} {x : Str} {e : Expr} {te : TE} {pos' : Pos} (hN : X.N.Nodup) (hi : X.N[i]? = some x) (hx : Loc X.env.scope x) (he : PE X e te) (hs : swapsWith e (some (.Name x pos')) pos.line X.env = pure false := by rfl) (hf : X.fn x = true ∨ X.env.scope.names.lookup x = some .local := by first | exact .inl rfl | exact .inr rfl | assumption) :
    PS X (.Assign [.Name x pos'] e pos) (tAsg te (gName i)) := by
  intro pins s σ H D I h
  refine wpAny_Assign_Name (thn (he pins s σ H _ I h) fun v s1 ⟨y, H1, I1, r1, q1⟩ => ?_) hs
  exact store_ok I1 hN hi hx r1 (fun s2 I2 => ⟨_, H1, I2, q1⟩) hf
/-- a, b = x, y with plain local names: stored from the right; the pair itself is not tracked (the opening rows as in PyProof/Rows/TupAssign.lean:23) -/
inductive tParq (i : Nat) (j : Nat) (D : Ends) (σ : St) (vs : List V) (H1 : Hp) : Prop
  | mk (v w : _) (_ : vs = [v, w]) (_ : D.nx ((σ.set i (some v)).set j (some w)) H1) : tParq i j D σ vs H1
def tPar (i j : Nat) (ta : TA) : TS := fun D σ H => ta σ H fun vs H1 => tParq i j D σ vs H1
/-- name op= e -/
inductive tAug (i : Nat) (te : TE) (ti : TIp) (D : Ends) (σ : St) (H : Hp) : Prop
  | mk (x : _) (_ : σ[i]? = some (some x)) (_ : te σ H fun y H1 => ti x y H1 fun z H2 => D.nx (σ.set i (some z)) H2) : tAug i te ti D σ H
theorem ps_aug {i : Nat} {x : Str} {e : Expr} {te : TE} {op : Operator} {ti : TIp} {pos' : Pos} (hN : X.N.Nodup) (hi : X.N[i]? = some x) (hx : Loc X.env.scope x) (he : PE X e te) (ho : PIp X op ti) (hf : X.fn x = true ∨ X.env.scope.names.lookup x = some .local := by first | exact .inl rfl | exact .inr rfl | assumption) :
    PS X (.AugAssign (.Name x pos') op e pos) (tAug i te ti) := by
  intro pins s σ H D I h
  obtain ⟨v, e1, h⟩ := h
  obtain ⟨m, hn, hl⟩ := I.loc
  have vis : Vis X.env.scope x := by rcases hx with k | k; exact .inl k; exact .inr (.inl k)
  obtain ⟨u, r, l⟩ := hl i x v hi e1 vis
  refine wpAny_AugAssign_Name ?_
  have go : wpAny (model X.prog X.w) X.A (eval e X.env) (fun w s₂ => wpAny (model X.prog X.w) X.A (inplaceOp op u w) (fun r s₃ => wpAny (model X.prog X.w) X.A (storeName X.env x r) (fun _ => SP X pins D .next) X.xe s₃) X.xe s₂) X.xe s := by
    refine thn (he pins s σ H _ I h) fun w s1 ⟨y, H1, I1, r1, q1⟩ => ?_
    refine thn (ho pins s1 σ H1 v y u w _ I1 r r1 q1) fun z s2 ⟨zv, H2, I2, r2, q2⟩ => ?_
    exact store_ok I2 hN hi hx r2 (fun s3 I3 => ⟨_, H2, I3, q2⟩) hf
  rcases l with ⟨hk, hm⟩ | ⟨hk, c, hc, hcell⟩
  · exact wpAny_loadName_local I.ok.kind hk hn hm go
  · rcases hk with hk | hk
    · exact wpAny_loadName_cell I.ok.kind hk hc hcell go
    · rcases hx with k | k
      · have : X.env.scope.names.lookup x = some .free := hk
        rw [k] at this; cases this
      · have : X.env.scope.names.lookup x = some .free := hk
        rw [k] at this; cases this
/-- o[i] op= e -/
def tAugS (to ti te : TE) (tget : V → V → Hp → VK → Prop) (tip : TIp) (tset : TSet) : TS := fun D σ H => to σ H fun o H1 => ti σ H1 fun i H2 => tget o i H2 fun x H3 => te σ H3 fun y H4 => tip x y H4 fun z H5 => tset o i z H5 fun H6 => D.nx σ H6
/-- o[i], by values -/
def PGet (X : Cx) (t : V → V → Hp → VK → Prop) : Prop :=
  ∀ (pins : List (Addr × Obj)) (s : Shared) (σ : St) (H : Hp) (o i : V) (ov iv : Value) (Q : VK), Inv X pins σ H s → RelV o ov → RelV i iv → t o i H Q →
    wpAny (model X.prog X.w) X.A (getItem ov iv) (EP X pins σ Q) X.xe s
/-- ints -/
def ipI (f : Int → Int → Int) : TIp := fun x y H Q => ∃ i j, x = .int i ∧ y = .int j ∧ Q (.int (f i j)) H
theorem ip_add : PIp X .Add (ipI fun i j => i + j) := by
  intro pins s σ H x y v u Q I r1 r2 h
  obtain ⟨i, j, e1, e2, q⟩ := h
  subst e1; subst e2
  obtain ⟨t, rfl⟩ := r1
  obtain ⟨t', rfl⟩ := r2
  exact iadd_int ⟨.int _, H, I.tok _, ⟨_, rfl⟩, q⟩
end

/-! ### while -/
section
variable {X : Cx} {pos : Pos}
/-- the invariant W with its measure -/
def tWhile (c : TT) (tb : TS) : TS := fun D σ H => ∃ W : Nat → St → Hp → Prop, (∃ m, W m σ H) ∧ ∀ m σ H, W m σ H →
  c σ H fun b H1 => if b = true then ∃ N : St → Hp → Prop, (∀ σ' H', N σ' H' → ∃ m', m' < m ∧ W m' σ' H') ∧ tb { D with nx := N, ct := N, bk := D.nx } σ H1 else D.nx σ H1
theorem ps_while {c : Expr} {body : List Stmt} {tc : TT} {tb : TS} (hp : PassesOwn (model X.prog X.w) X.A X.env X.xe) (hc : PT X c tc) (hb : PSs X body tb) : PS X (.While c body [] pos) (tWhile tc tb) := by
  intro pins s σ H D I h
  obtain ⟨W, ⟨m0, w0⟩, turn⟩ := h
  refine wpAny_While (codeAny_whileLoop (fun n s' => ∃ σ' H', Inv X pins σ' H' s' ∧ W n σ' H') ?_ m0 ⟨σ, H, I, w0⟩)
  rintro n s1 ⟨σ1, H1, I1, w1⟩
  refine wpAny_passesOwn hp (thn (hc pins s1 σ1 H1 _ I1 (turn n σ1 H1 w1)) fun b s2 ⟨H2, I2, q2⟩ => ?_)
  cases b with
  | true =>
    obtain ⟨N, hN, q2⟩ := q2
    rw [if_pos rfl]
    refine wpAny_passesOwn hp (thn (hb pins s2 σ1 H2 _ I2 q2) fun f s3 q3 => ?_)
    cases f with
    | next =>
      obtain ⟨σ3, H3, I3, n3⟩ := q3
      obtain ⟨m', hm, w3⟩ := hN σ3 H3 n3
      exact ⟨m', hm, σ3, H3, I3, w3⟩
    | cont =>
      obtain ⟨σ3, H3, I3, n3⟩ := q3
      obtain ⟨m', hm, w3⟩ := hN σ3 H3 n3
      exact ⟨m', hm, σ3, H3, I3, w3⟩
    | brk => exact q3
    | ret v => exact q3
  | false =>
    rw [if_neg Bool.false_ne_true]
    exact wpAny_execs_nil ⟨σ1, H2, I2, q2⟩
end

/-! ### what a loop or a comprehension walks -/
/-- at turn i: it yields x (the heap may grow), or it stops -/
structure It where
  go : Nat → Hp → Prop
  yld : Nat → Hp → V → Hp → Prop
  stop : Nat → Hp → Prop
/-- the iterator's own objects may turn: they are not the frame's, not pinned, younger than the entry (or a comprehension's own) -/
def FpOk (X : Cx) (pins : List (Addr × Obj)) (H : Hp) (b : Addr) : Prop :=
  H b = none ∧ b ≠ X.env.locals ∧ b ∉ X.fs ∧ (b ∈ X.ex ∨ X.s₀.heap.objs.size ≤ b) ∧ (∀ x c, X.env.cells.lookup x = some c → c ≠ b) ∧ ∀ p ∈ X.pn ++ pins, p.1 ≠ b
theorem Inv.fpOk {X : Cx} {pins : List (Addr × Obj)} {σ : St} {H H' : Hp} {s : Shared} {b : Addr} (I : Inv X pins σ H s) (hb : s.heap.objs.size ≤ b) (hn : H' b = none) : FpOk X pins H' b := by
  refine ⟨hn, Nat.ne_of_gt (Nat.lt_of_lt_of_le I.lt hb), I.nofs hb, .inr (Nat.le_trans I.sz hb), fun x c e z => ?_, fun p hp z => ?_⟩
  · obtain ⟨v, q⟩ := I.cell x c e
    exact absurd (Nat.lt_of_lt_of_le q.lt (by rw [z]; exact hb)) (Nat.lt_irrefl _)
  · exact absurd (Nat.lt_of_lt_of_le (Heap.lt_size (I.pin p hp).1) (by rw [z]; exact hb)) (Nat.lt_irrefl _)
structure Turn (P : Program) (w : World) (K : PySem.W.Frag) (tg : Expr) (J : It) (fp : List Addr) (it : Addr) (tn : Nat → Heap → Prop) : Prop where
  mem : it ∈ fp
  obj : ∀ i h, tn i h → ∀ b ∈ fp, ∃ o, h.get? b = some o ∧ ∀ v, o.data ≠ .cell v
  keep : ∀ i h h', tn i h → (∀ b ∈ fp, ∀ o, h.get? b = some o → h'.get? b = some o) → tn i h'
  item : ∀ (X : Cx), X.prog = P → X.w = w → X.K = K → X.calm = true → ∀ (i : Nat) (pins : List (Addr × Obj)) (s : Shared) (σ : St) (H : Hp) (E : Value → Shared → Prop), Inv X pins σ H s → (∀ b ∈ fp, FpOk X pins H b) → tn i s.heap → J.go i H →
    wpAny (model P w) X.A (pyNext (.ref it)) (fun r s1 => ∃ u, r = some u ∧
      wpAny (model P w) X.A (letOwnedTupleGo tg (.ref it) u) (fun _ s2 => ∃ x H', Inv X pins σ H' s2 ∧ RelV x u ∧ J.yld i H x H' ∧ tn (i + 1) s2.heap ∧ ∀ b ∈ fp, H' b = none) E s1) E s
  done : ∀ (X : Cx), X.prog = P → X.w = w → X.K = K → X.calm = true → ∀ (i : Nat) (pins : List (Addr × Obj)) (s : Shared) (σ : St) (H : Hp) (E : Value → Shared → Prop), Inv X pins σ H s → (∀ b ∈ fp, FpOk X pins H b) → tn i s.heap → J.stop i H →
    wpAny (model P w) X.A (pyNext (.ref it)) (fun r s1 => r = none ∧ Inv X pins σ H s1) E s
  self : ∀ (A : Around) (i : Nat) (s : Shared) (Q : Value → Shared → Prop) (E : Value → Shared → Prop), tn i s.heap → Q (.ref it) s → wpAny (model P w) A (pyIter (.ref it)) Q E s
abbrev TI := St → Hp → (It → Hp → Prop) → Prop
/-- an iterator has come -/
def PIE (X : Cx) (pins : List (Addr × Obj)) (σ : St) (tg : Expr) (R : It → Hp → Prop) (itv : Value) (s2 : Shared) : Prop :=
  ∃ (it : Addr) (fp : List Addr) (tn : Nat → Heap → Prop) (J : It) (H' : Hp), itv = .ref it ∧ Inv X pins σ H' s2 ∧ Turn X.prog X.w X.K tg J fp it tn ∧ tn 0 s2.heap ∧ (∀ b ∈ fp, FpOk X pins H' b) ∧ R J H'
def PI (X : Cx) (tg iter : Expr) (wi : TI) : Prop :=
  ∀ (pins : List (Addr × Obj)) (s : Shared) (σ : St) (H : Hp) (R : It → Hp → Prop), Inv X pins σ H s → wi σ H R →
    wpAny (model X.prog X.w) X.A (eval iter X.env) (fun v s1 => wpAny (model X.prog X.w) X.A (pyIter v) (PIE X pins σ tg R) X.xe s1) X.xe s

/-- the step ahead of the store is nothing for an iterator that keeps no tuple -/
theorem go_of {M : Model} {A : Around} {E : Value → Shared → Prop} {s : Shared} {tg : Expr} {it : Addr} {u : Value} {o : Obj} {n : String} {vs : Array Value} {Q : Unit → Shared → Prop} (ho : s.heap.get? it = some o) (hc : o.cls = .type n) (hd : o.data = .fields vs)
    (hn : ["enumerate", "zip", "dict_itemiterator", "dict_reverseitemiterator", "odict_iterator", "itertools.zip_longest", "itertools.pairwise"].contains n = false) (hQ : Q () s) : wpAny M A (letOwnedTupleGo tg (.ref it) u) Q E s := by
  unfold letOwnedTupleGo
  cases tg <;> first
    | exact wpAny_pure hQ
    | (cases u <;> first
        | exact wpAny_pure hQ
        | (refine wpAny_bind (wpAny_load ho ?_)
           rw [hc, hd]
           show wpAny M A (if (["enumerate", "zip", "dict_itemiterator", "dict_reverseitemiterator", "odict_iterator", "itertools.zip_longest", "itertools.pairwise"].contains n && vs[0]? == some (rawInt _)) = true then _ else _) Q E s
           rw [if_neg (by intro h; rw [hn, Bool.false_and] at h; cases h)]
           exact wpAny_pure hQ))

/-- the list at a, as it stands at each turn (a loop may append to it) -/
def Itl (K : PySem.W.Frag) (a : Addr) : It :=
  ⟨fun i H => ∃ xs x, SqL K H a xs ∧ xs[i]? = some x, fun i H x H' => H' = H ∧ ∀ xs, SqL K H a xs → xs[i]? = some x, fun i H => ∃ xs, SqL K H a xs ∧ xs.length ≤ i⟩
def Itt (K : PySem.W.Frag) (a : Addr) : It :=
  ⟨fun i H => ∃ xs x, SqT K H a xs ∧ xs[i]? = some x, fun i H x H' => H' = H ∧ ∀ xs, SqT K H a xs → xs[i]? = some x, fun i H => ∃ xs, SqT K H a xs ∧ xs.length ≤ i⟩
/-- lo, lo + 1, .. (n of them) -/
def Itr (lo : Int) (n : Nat) : It := ⟨fun i _ => i < n, fun i H x H' => H' = H ∧ x = .int (lo + i), fun i _ => n ≤ i⟩
theorem turn_list {P : Program} {w : World} {K : PySem.W.Frag} {tg : Expr} (a it : Addr) : Turn P w K tg (Itl K a) [it] it (fun i h => h.IsListIter it a i) where
  mem := by simp
  obj := fun i h st b hb => by
    have e : b = it := by simpa using hb
    subst e
    obtain ⟨o, e, c, d⟩ := st
    exact ⟨o, e, fun v z => by rw [d] at z; cases z⟩
  keep := fun i h h' st k => st.at fun o e => k it (by simp) o e
  item := by
    intro X hP hw hK hc i pins s σ H E I hf st hg
    subst hP hw hK
    obtain ⟨xs, x, hq, hx⟩ := hg
    obtain ⟨its, rv, p, hz⟩ := I.list hq
    obtain ⟨u, hu, ru⟩ := rv.get hx
    obtain ⟨f0, f1, f2, f3, f4, f5⟩ := hf it (by simp)
    refine wpAny_pyNext_list_item st p.isList (x := u) (by simpa using hu) fun h' st' sb => ?_
    have I1 : Inv X pins σ H { s with heap := h' } := I.turned (t' := s.toks) (fun b o hb e => (sb.2 b hb).trans e) f0 f1 f3 f4 f5
    obtain ⟨o, e, c, d⟩ := id st'
    exact ⟨u, rfl, go_of (s := { s with heap := h' }) e c d (by decide) ⟨x, H, I1, ru, ⟨rfl, fun ys hy => by rw [I.list_inj hy hq]; exact hx⟩, st', fun b hb => (hf b hb).1⟩⟩
  done := by
    intro X hP hw hK hc i pins s σ H E I hf st hg
    subst hP hw hK
    obtain ⟨xs, hq, hx⟩ := hg
    obtain ⟨its, rv, p, hz⟩ := I.list hq
    obtain ⟨f0, f1, f2, f3, f4, f5⟩ := hf it (by simp)
    have hl := rv.length
    exact wpAny_pyNext_list_end (I.ok.hd hc) st p.isList (by simp; omega) fun h' eb => ⟨rfl, I.turned (t' := s.toks) (fun b o hb e => eb b o hb e) f0 f1 f3 f4 f5⟩
  self := fun _ _ _ _ _ st h => wpAny_pyIter_listiter st h
theorem turn_tuple {P : Program} {w : World} {K : PySem.W.Frag} {tg : Expr} (a it : Addr) : Turn P w K tg (Itt K a) [it] it (fun i h => h.IsTupleIter it a i) where
  mem := by simp
  obj := fun i h st b hb => by
    have e : b = it := by simpa using hb
    subst e
    obtain ⟨o, e, c, d⟩ := st
    exact ⟨o, e, fun v z => by rw [d] at z; cases z⟩
  keep := fun i h h' st k => st.at fun o e => k it (by simp) o e
  item := by
    intro X hP hw hK hc i pins s σ H E I hf st hg
    subst hP hw hK
    obtain ⟨xs, x, hq, hx⟩ := hg
    obtain ⟨its, rv, p, hz⟩ := I.tuple hq
    obtain ⟨u, hu, ru⟩ := rv.get hx
    obtain ⟨f0, f1, f2, f3, f4, f5⟩ := hf it (by simp)
    refine wpAny_pyNext_tuple_item st (show s.heap.IsTuple a its.toArray from p) (x := u) (by simpa using hu) fun h' st' sb => ?_
    have I1 : Inv X pins σ H { s with heap := h' } := I.turned (t' := s.toks) (fun b o hb e => (sb.2 b hb).trans e) f0 f1 f3 f4 f5
    obtain ⟨o, e, c, d⟩ := id st'
    exact ⟨u, rfl, go_of (s := { s with heap := h' }) e c d (by decide) ⟨x, H, I1, ru, ⟨rfl, fun ys hy => by rw [I.tuple_inj hy hq]; exact hx⟩, st', fun b hb => (hf b hb).1⟩⟩
  done := by
    intro X hP hw hK hc i pins s σ H E I hf st hg
    subst hP hw hK
    obtain ⟨xs, hq, hx⟩ := hg
    obtain ⟨its, rv, p, hz⟩ := I.tuple hq
    obtain ⟨f0, f1, f2, f3, f4, f5⟩ := hf it (by simp)
    have hl := rv.length
    exact wpAny_pyNext_tuple_end (I.ok.hd hc) st (show s.heap.IsTuple a its.toArray from p) (by simp; omega) fun h' eb => ⟨rfl, I.turned (t' := s.toks) (fun b o hb e => eb b o hb e) f0 f1 f3 f4 f5⟩
  self := fun _ _ _ _ _ st h => wpAny_pyIter_tupleiter st h
theorem turn_range {P : Program} {w : World} {K : PySem.W.Frag} {tg : Expr} (it : Addr) (lo : Int) (n : Nat) : Turn P w K tg (Itr lo n) [it] it (fun i h => IsRangeIter h it (lo + (i : Nat) * 1) ((n : Int) - (i : Nat)) 1) where
  mem := by simp
  obj := fun i h st b hb => by
    have e : b = it := by simpa using hb
    subst e
    exact ⟨_, st, fun v z => by
      have z' : Data.fields _ = Data.cell v := z
      cases z'⟩
  keep := fun i h h' st k => k it (by simp) _ st
  item := by
    intro X hP hw hK hc i pins s σ H E I hf st hg
    subst hP hw hK
    obtain ⟨f0, f1, f2, f3, f4, f5⟩ := hf it (by simp)
    have W := Walks.range (prog := X.prog) (w := X.w) (I.ok.hd hc) it lo 1 n
    refine W.item i s _ _ hg st fun v h' tk hv st' kk => ?_
    obtain ⟨t, rfl⟩ := hv
    have I1 : Inv X pins σ H { s with heap := h', toks := tk } := I.turned (fun b o hb e => kk b o (by simpa using hb) e) f0 f1 f3 f4 f5
    refine ⟨_, rfl, go_of (s := { s with heap := h', toks := tk }) (n := "range_iterator") st' rfl rfl (by decide) ⟨.int (lo + i), H, I1, ⟨t, ?_⟩, ⟨rfl, rfl⟩, st', fun b hb => (hf b hb).1⟩⟩
    rw [Int.mul_one]
  done := by
    intro X hP hw hK hc i pins s σ H E I hf st hg
    subst hP hw hK
    obtain ⟨f0, f1, f2, f3, f4, f5⟩ := hf it (by simp)
    exact wpAny_pyNext_range_end (I.ok.hd hc) st (by have : n ≤ i := hg; omega) fun h' eb => ⟨rfl, I.turned (t' := s.toks) (fun b o hb e => eb b o hb e) f0 f1 f3 f4 f5⟩
  self := fun _ _ _ _ _ st h => wpAny_pyIter_rangeiter st h
end L2

namespace L2
open PySem PySem.Spec PyProof.Rows
section
variable {X : Cx} {tg : Expr}
inductive iListq (K : PySem.W.Frag) (R : It → Hp → Prop) (x : V) (H1 : Hp) : Prop
  | mk (a : _) (_ : x = .ref a) (_ : (∃ xs, SqL K H1 a xs)) (_ : R (Itl K a) H1) : iListq K R x H1
def iList (K : PySem.W.Frag) (tl : TE) : TI := fun σ H R => tl σ H fun x H1 => iListq K R x H1
inductive iTupq (K : PySem.W.Frag) (R : It → Hp → Prop) (x : V) (H1 : Hp) : Prop
  | mk (a : _) (_ : x = .ref a) (_ : (∃ xs, SqT K H1 a xs)) (_ : R (Itt K a) H1) : iTupq K R x H1
def iTup (K : PySem.W.Frag) (tl : TE) : TI := fun σ H R => tl σ H fun x H1 => iTupq K R x H1
theorem pi_list {l : Expr} {tl : TE} (hl : PE X l tl) : PI X tg l (iList X.K tl) := by
  intro pins s σ H R I h
  refine thn (hl pins s σ H _ I h) fun v s1 ⟨x, H1, I1, r1, q1⟩ => ?_
  obtain ⟨a, e, ⟨xs, hq⟩, q⟩ := q1
  subst e
  cases r1
  obtain ⟨its, rv, p, hz⟩ := I1.list hq
  refine wpAny_pyIter_list p.isList ?_
  refine ⟨s1.heap.objs.size, [s1.heap.objs.size], _, _, H1, rfl, I1.kept (t' := s1.toks) fun b o e => Heap.get?_push_of_some _ e, turn_list a _, ⟨_, Heap.get?_push_size _ rfl, rfl, rfl⟩, fun b hb => ?_, q⟩
  have e : b = s1.heap.objs.size := by simpa using hb
  subst e
  exact I1.fpOk (Nat.le_refl _) (I1.hok.fresh (Nat.le_refl _))
theorem pi_tup {l : Expr} {tl : TE} (hl : PE X l tl) : PI X tg l (iTup X.K tl) := by
  intro pins s σ H R I h
  refine thn (hl pins s σ H _ I h) fun v s1 ⟨x, H1, I1, r1, q1⟩ => ?_
  obtain ⟨a, e, ⟨xs, hq⟩, q⟩ := q1
  subst e
  cases r1
  obtain ⟨its, rv, p, hz⟩ := I1.tuple hq
  refine wpAny_pyIter_tuple (show s1.heap.IsTuple a its.toArray from p) ?_
  refine ⟨s1.heap.objs.size, [s1.heap.objs.size], _, _, H1, rfl, I1.kept (t' := s1.toks) fun b o e => Heap.get?_push_of_some _ e, turn_tuple a _, ⟨_, Heap.get?_push_size _ rfl, rfl, rfl⟩, fun b hb => ?_, q⟩
  have e : b = s1.heap.objs.size := by simpa using hb
  subst e
  exact I1.fpOk (Nat.le_refl _) (I1.hok.fresh (Nat.le_refl _))
/-- a range object just made, walked -/
theorem range_it {pins : List (Addr × Obj)} {σ : St} {H : Hp} {s : Shared} {R : It → Hp → Prop} {E : Value → Shared → Prop} {lo hi : Int} {t u v : Tok} {tk : Nat} (I : Inv X pins σ H s) (h1 : -(2 ^ 62) ≤ lo) (h2 : lo < 2 ^ 62) (h3 : -(2 ^ 62) ≤ hi) (h4 : hi < 2 ^ 62)
    (q : R (Itr lo (hi - lo).toNat) H) : wpAny (model X.prog X.w) X.A (pyIter (.ref s.heap.objs.size)) (PIE X pins σ tg R) E { s with heap := s.heap.push { cls := .type "range", data := .fields #[.int lo t, .int hi u, .int 1 v] }, toks := tk } := by
  refine wpAny_pyIter_range (IsRange.new ..) (small_one h1 h2 h3 h4) ?_
  have I1 : Inv X pins σ H { s with heap := s.heap.push { cls := .type "range", data := .fields #[.int lo t, .int hi u, .int 1 v] }, toks := tk } := I.kept fun b o e => Heap.get?_push_of_some _ e
  refine ⟨(s.heap.push { cls := .type "range", data := .fields #[.int lo t, .int hi u, .int 1 v] }).objs.size, [(s.heap.push { cls := .type "range", data := .fields #[.int lo t, .int hi u, .int 1 v] }).objs.size], _, _, H, rfl,
    I1.kept (t' := tk) fun b o e => Heap.get?_push_of_some _ e, turn_range _ lo (hi - lo).toNat, ?_, fun b hb => ?_, q⟩
  · have e1 : lo + ((0 : Nat) : Int) * 1 = lo := by simp
    have e2 : (((hi - lo).toNat : Nat) : Int) - ((0 : Nat) : Int) = Builtin.Range.rangeSize lo hi 1 := by rw [rangeSize_one]; split <;> omega
    show IsRangeIter _ _ (lo + ((0 : Nat) : Int) * 1) ((((hi - lo).toNat : Nat) : Int) - ((0 : Nat) : Int)) 1
    rw [e1, e2]
    exact Heap.get?_push_size _ rfl
  · have e : b = (s.heap.push { cls := .type "range", data := .fields #[.int lo t, .int hi u, .int 1 v] }).objs.size := by simpa using hb
    subst e
    exact I1.fpOk (Nat.le_refl _) (I1.hok.fresh (Nat.le_refl _))
inductive iRng1q  (R : It → Hp → Prop) (vs : List V) (H1 : Hp) : Prop
  | mk (j : Int) (_ : vs = [.int j]) (_ : -(2 ^ 62) ≤ j) (_ : j < 2 ^ 62) (_ : R (Itr 0 j.toNat) H1) : iRng1q R vs H1
def iRng1 (ta : TA) : TI := fun σ H R => ta σ H fun vs H1 => iRng1q R vs H1
inductive iRng2q  (R : It → Hp → Prop) (vs : List V) (H1 : Hp) : Prop
  | mk (i j : Int) (_ : vs = [.int i, .int j]) (_ : (-(2 ^ 62) ≤ i ∧ i < 2 ^ 62 ∧ -(2 ^ 62) ≤ j ∧ j < 2 ^ 62)) (_ : R (Itr i (j - i).toNat) H1) : iRng2q R vs H1
def iRng2 (ta : TA) : TI := fun σ H R => ta σ H fun vs H1 => iRng2q R vs H1
theorem pi_range1 {a : Expr} {ta : TA} {p pos : Pos} (hg : Gl X "range") (hm : X.mg "range" = none) (ha : PA X [a] ta) (hs : starEach [a] X.env = [(false, eval a X.env)] := by rfl) : PI X tg (.Call (.Name "range" p) [a] [] pos) (iRng1 ta) := by
  intro pins s σ H R I h
  refine Call_ (ld_blt I hg hm boot_range (PyProof.Rows.callWith_type1 (thn (ha pos pins s σ H _ I h) fun us s1 ⟨vs, H1, I1, r1, q1⟩ => ?_) hs rfl))
  obtain ⟨j, e, q1, q2, q⟩ := q1
  subst e
  cases r1 with
  | cons r rr =>
    cases rr
    obtain ⟨t, rfl⟩ := r
    exact call_range_1 (range_it I1 (by omega) (by omega) q1 q2 (by simpa using q))
/-! ### for -/
/-- W: the invariant by the turn and a measure; N: what the body is to reach -/
def tFor (wi : TI) (g : TG) (tb : TS) : TS := fun D σ H => wi σ H fun J H1 => ∃ W : Nat → Nat → St → Hp → Prop, (∃ m, W 0 m σ H1) ∧ ∀ i m σ H, W i m σ H →
  (J.stop i H ∧ D.nx σ H) ∨ (J.go i H ∧ ∃ N : St → Hp → Prop, (∀ σ' H', N σ' H' → ∃ m', m' < m ∧ W (i + 1) m' σ' H') ∧ ∀ x H', J.yld i H x H' → g x σ H' fun σ2 H2 => tb { D with nx := N, ct := N, bk := D.nx } σ2 H2)
/-- the records at fp as they stand -/
def pinsAt (fp : List Addr) (h : Heap) : List (Addr × Obj) := fp.filterMap fun b => (h.get? b).map fun o => (b, o)
theorem mem_pinsAt {fp : List Addr} {h : Heap} {b : Addr} {o : Obj} (hb : b ∈ fp) (e : h.get? b = some o) : (b, o) ∈ pinsAt fp h := List.mem_filterMap.mpr ⟨b, hb, by rw [e]; rfl⟩
theorem of_pinsAt {fp : List Addr} {h : Heap} {p : Addr × Obj} (hp : p ∈ pinsAt fp h) : p.1 ∈ fp ∧ h.get? p.1 = some p.2 := by
  obtain ⟨b, hb, e⟩ := List.mem_filterMap.mp hp
  cases q : h.get? b with
  | none => rw [q] at e; cases e
  | some o =>
    rw [q] at e
    have e' : (b, o) = p := Option.some.inj e
    subst e'
    exact ⟨hb, q⟩
theorem Inv.pinned {pins : List (Addr × Obj)} {σ : St} {H : Hp} {s : Shared} {fp : List Addr} (I : Inv X pins σ H s) (hf : ∀ b ∈ fp, FpOk X pins H b) (ho : ∀ b ∈ fp, ∃ o, s.heap.get? b = some o ∧ ∀ v, o.data ≠ .cell v) : Inv X (pins ++ pinsAt fp s.heap) σ H s :=
  I.pins_of fun p hp => (List.mem_append.mp hp).elim (fun z => I.pin p (List.mem_append_right _ z)) fun z => by
    obtain ⟨hb, e⟩ := of_pinsAt z
    obtain ⟨f0, f1, f2, _⟩ := hf p.1 hb
    obtain ⟨o, e', d⟩ := ho p.1 hb
    rw [e] at e'; cases e'
    exact ⟨e, f0, f1, f2, d⟩
theorem Inv.unpinned {pins pl : List (Addr × Obj)} {σ : St} {H : Hp} {s : Shared} (I : Inv X (pins ++ pl) σ H s) : Inv X pins σ H s := I.pins_of fun p hp => I.pin p (List.mem_append_right _ (List.mem_append_left _ hp))
theorem ps_for {iter : Expr} {body : List Stmt} {wi : TI} {g : TG} {tb : TS} {pos : Pos} (hp : PassesOwn (model X.prog X.w) X.A X.env X.xe) (hc : X.calm = true) (hi : PI X tg iter wi) (hg : PG X tg g) (hb : PSs X body tb)
    (hs : ∀ x, foldedSetIterable iter X.env x = pure x := by intro _; rfl) : PS X (.For tg iter body [] pos) (tFor wi g tb) := by
  intro pins s σ H D I h
  refine wpAny_For (thn (hi pins s σ H _ I h) fun v s1 h1 => thn h1 fun itv s2 h2 => ?_) hs
  obtain ⟨it, fp, tn, J, H2, e, I2, T, st2, f2, W, ⟨m0, w0⟩, turn⟩ := h2
  subst e
  -- what stays true of the iterator's objects through the loop
  have stat : ∀ {H' : Hp}, (∀ b ∈ fp, H' b = none) → ∀ b ∈ fp, FpOk X pins H' b := fun hn b hb => ⟨hn b hb, (f2 b hb).2⟩
  refine codeAny_forLoop_any (fun n s' => ∃ i σ' H', Inv X pins σ' H' s' ∧ tn i s'.heap ∧ (∀ b ∈ fp, H' b = none) ∧ W i n σ' H') ?_ m0 ⟨0, σ, H2, I2, st2, fun b hb => (f2 b hb).1, w0⟩
  rintro n s3 ⟨i, σ3, H3, I3, st3, fr3, w3⟩
  rcases turn i n σ3 H3 w3 with ⟨stop, qn⟩ | ⟨go, N, hN, step⟩
  · refine wpAny_passesOwn hp (thn (T.done X rfl rfl rfl hc i pins s3 σ3 H3 X.xe I3 (stat fr3) st3 stop) fun r s4 ⟨hr, I4⟩ => ?_)
    subst hr
    exact wpAny_execs_nil ⟨σ3, H3, I4, qn⟩
  · refine wpAny_passesOwn hp (thn (T.item X rfl rfl rfl hc i pins s3 σ3 H3 X.xe I3 (stat fr3) st3 go) fun r s4 ⟨u, hr, h4⟩ => ?_)
    subst hr
    refine wpAny_passesOwn hp (thn h4 fun _ s5 ⟨x, H5, I5, r5, y5, st5, fr5⟩ => ?_)
    have I5' := I5.pinned (stat fr5) (T.obj _ _ st5)
    refine wpAny_passesOwn hp (thn (hg _ s5 σ3 H5 x u _ I5' r5 (step x H5 y5)) fun _ s6 ⟨σ6, H6, I6, q6⟩ => ?_)
    refine wpAny_passesOwn hp (thn (hb _ s6 σ6 H6 _ I6 q6) fun f s7 q7 => ?_)
    have again : ∀ {σ7 : St} {H7 : Hp}, Inv X (pins ++ pinsAt fp s5.heap) σ7 H7 s7 → N σ7 H7 → ∃ m, m < n ∧ ∃ i σ' H', Inv X pins σ' H' s7 ∧ tn i s7.heap ∧ (∀ b ∈ fp, H' b = none) ∧ W i m σ' H' := fun {σ7 H7} I7 n7 => by
      obtain ⟨m', hm, w7⟩ := hN σ7 H7 n7
      refine ⟨m', hm, i + 1, σ7, H7, I7.unpinned, T.keep _ _ _ st5 fun b hb o e => (I7.pin (b, o) (List.mem_append_right _ (List.mem_append_right _ (mem_pinsAt hb e)))).1, fun b hb => ?_, w7⟩
      obtain ⟨o, e, d⟩ := T.obj _ _ st5 b hb
      exact (I7.pin (b, o) (List.mem_append_right _ (List.mem_append_right _ (mem_pinsAt hb e)))).2.1
    cases f with
    | next => obtain ⟨σ7, H7, I7, n7⟩ := q7; exact again I7 n7
    | cont => obtain ⟨σ7, H7, I7, n7⟩ := q7; exact again I7 n7
    | brk => obtain ⟨σ7, H7, I7, q7⟩ := q7; exact ⟨σ7, H7, I7.unpinned, q7⟩
    | ret v => obtain ⟨x7, σ7, H7, I7, r7, q7⟩ := q7; exact ⟨x7, σ7, H7, I7.unpinned, r7, q7⟩
end

/-! ### the forms one uses -/
/-- over a list that the body leaves as it is -/
theorem for_list {K : PySem.W.Frag} {a : Addr} {xs : List V} {g : TG} {tb : TS} {D : Ends} {σ : St} {H : Hp} (Pv : Nat → St → Hp → Prop) (h0 : Pv 0 σ H) (hl : ∀ i σ H, i ≤ xs.length → Pv i σ H → SqL K H a xs)
    (hs : ∀ i x σ H, xs[i]? = some x → Pv i σ H → g x σ H fun σ2 H2 => tb { D with nx := Pv (i + 1), ct := Pv (i + 1), bk := D.nx } σ2 H2) (hd : ∀ σ H, Pv xs.length σ H → D.nx σ H) :
    ∃ W : Nat → Nat → St → Hp → Prop, (∃ m, W 0 m σ H) ∧ ∀ i m σ H, W i m σ H →
      ((Itl K a).stop i H ∧ D.nx σ H) ∨ ((Itl K a).go i H ∧ ∃ N : St → Hp → Prop, (∀ σ' H', N σ' H' → ∃ m', m' < m ∧ W (i + 1) m' σ' H') ∧ ∀ x H', (Itl K a).yld i H x H' → g x σ H' fun σ2 H2 => tb { D with nx := N, ct := N, bk := D.nx } σ2 H2) := by
  refine ⟨fun i m σ H => m = xs.length - i ∧ i ≤ xs.length ∧ Pv i σ H, ⟨xs.length, by simp, Nat.zero_le _, h0⟩, ?_⟩
  rintro i m σ H ⟨rfl, hi, p⟩
  have q := hl i σ H hi p
  by_cases hlt : i < xs.length
  · refine .inr ⟨⟨xs, xs[i], q, by simp [hlt]⟩, Pv (i + 1), fun σ' H' p' => ⟨xs.length - (i + 1), by omega, rfl, hlt, p'⟩, fun x H' y => ?_⟩
    obtain ⟨e, y⟩ := y
    subst e
    exact hs i x σ _ (y xs q) p
  · have e : i = xs.length := by omega
    subst e
    exact .inl ⟨⟨xs, q, Nat.le_refl _⟩, hd σ H p⟩
theorem for_tup {K : PySem.W.Frag} {a : Addr} {xs : List V} {g : TG} {tb : TS} {D : Ends} {σ : St} {H : Hp} (Pv : Nat → St → Hp → Prop) (h0 : Pv 0 σ H) (hl : ∀ i σ H, i ≤ xs.length → Pv i σ H → SqT K H a xs)
    (hs : ∀ i x σ H, xs[i]? = some x → Pv i σ H → g x σ H fun σ2 H2 => tb { D with nx := Pv (i + 1), ct := Pv (i + 1), bk := D.nx } σ2 H2) (hd : ∀ σ H, Pv xs.length σ H → D.nx σ H) :
    ∃ W : Nat → Nat → St → Hp → Prop, (∃ m, W 0 m σ H) ∧ ∀ i m σ H, W i m σ H →
      ((Itt K a).stop i H ∧ D.nx σ H) ∨ ((Itt K a).go i H ∧ ∃ N : St → Hp → Prop, (∀ σ' H', N σ' H' → ∃ m', m' < m ∧ W (i + 1) m' σ' H') ∧ ∀ x H', (Itt K a).yld i H x H' → g x σ H' fun σ2 H2 => tb { D with nx := N, ct := N, bk := D.nx } σ2 H2) := by
  refine ⟨fun i m σ H => m = xs.length - i ∧ i ≤ xs.length ∧ Pv i σ H, ⟨xs.length, by simp, Nat.zero_le _, h0⟩, ?_⟩
  rintro i m σ H ⟨rfl, hi, p⟩
  have q := hl i σ H hi p
  by_cases hlt : i < xs.length
  · refine .inr ⟨⟨xs, xs[i], q, by simp [hlt]⟩, Pv (i + 1), fun σ' H' p' => ⟨xs.length - (i + 1), by omega, rfl, hlt, p'⟩, fun x H' y => ?_⟩
    obtain ⟨e, y⟩ := y
    subst e
    exact hs i x σ _ (y xs q) p
  · have e : i = xs.length := by omega
    subst e
    exact .inl ⟨⟨xs, q, Nat.le_refl _⟩, hd σ H p⟩
theorem for_range {lo : Int} {n : Nat} {g : TG} {tb : TS} {D : Ends} {σ : St} {H : Hp} (Pv : Nat → St → Hp → Prop) (h0 : Pv 0 σ H)
    (hs : ∀ i σ H, i < n → Pv i σ H → g (.int (lo + i)) σ H fun σ2 H2 => tb { D with nx := Pv (i + 1), ct := Pv (i + 1), bk := D.nx } σ2 H2) (hd : ∀ σ H, Pv n σ H → D.nx σ H) :
    ∃ W : Nat → Nat → St → Hp → Prop, (∃ m, W 0 m σ H) ∧ ∀ i m σ H, W i m σ H →
      ((Itr lo n).stop i H ∧ D.nx σ H) ∨ ((Itr lo n).go i H ∧ ∃ N : St → Hp → Prop, (∀ σ' H', N σ' H' → ∃ m', m' < m ∧ W (i + 1) m' σ' H') ∧ ∀ x H', (Itr lo n).yld i H x H' → g x σ H' fun σ2 H2 => tb { D with nx := N, ct := N, bk := D.nx } σ2 H2) := by
  refine ⟨fun i m σ H => m = n - i ∧ i ≤ n ∧ Pv i σ H, ⟨n, by simp, Nat.zero_le _, h0⟩, ?_⟩
  rintro i m σ H ⟨rfl, hi, p⟩
  by_cases hlt : i < n
  · refine .inr ⟨hlt, Pv (i + 1), fun σ' H' p' => ⟨n - (i + 1), by omega, rfl, hlt, p'⟩, fun x H' y => ?_⟩
    obtain ⟨e, y⟩ := y
    subst e y
    exact hs i σ _ hlt p
  · have e : i = n := by omega
    subst e
    exact .inl ⟨Nat.le_refl _, hd σ H p⟩
end L2

namespace L2
open PySem PySem.Spec PyProof.Rows

abbrev R2 := V → V → Hp → VK → Prop
/-- a two-place operation on values: f is binaryOp op, inplaceOp op or compareOp op -/
def OpR (X : Cx) (f : Value → Value → Sem Value) (r : R2) : Prop :=
  ∀ (pins : List (Addr × Obj)) (s : Shared) (σ : St) (H : Hp) (x y : V) (v u : Value) (Q : VK), Inv X pins σ H s → RelV x v → RelV y u → r x y H Q →
    wpAny (model X.prog X.w) X.A (f v u) (EP X pins σ Q) X.xe s
/-- a one-place operation -/
def UnR (X : Cx) (f : Value → Sem Value) (r : V → Hp → VK → Prop) : Prop :=
  ∀ (pins : List (Addr × Obj)) (s : Shared) (σ : St) (H : Hp) (x : V) (v : Value) (Q : VK), Inv X pins σ H s → RelV x v → r x H Q →
    wpAny (model X.prog X.w) X.A (f v) (EP X pins σ Q) X.xe s
/-- a call of a value that is known (a builtin, a type) with values -/
def CallR (X : Cx) (f : Value) (r : List V → Hp → VK → Prop) : Prop :=
  ∀ (pins : List (Addr × Obj)) (s : Shared) (σ : St) (H : Hp) (xs : List V) (us : List Value) (Q : VK), Inv X pins σ H s → Vals xs us → r xs H Q →
    wpAny (model X.prog X.w) X.A (call f us) (EP X pins σ Q) X.xe s
/-- a value's truth -/
def TruR (X : Cx) (r : V → Hp → (Bool → Hp → Prop) → Prop) : Prop :=
  ∀ (pins : List (Addr × Obj)) (s : Shared) (σ : St) (H : Hp) (x : V) (v : Value) (Q : Bool → Hp → Prop), Inv X pins σ H s → RelV x v → r x H Q →
    wpAny (model X.prog X.w) X.A (truthy v) (TP X pins σ Q) X.xe s

def tOp (r : R2) (ta tb : TE) : TE := fun σ H Q => ta σ H fun x H1 => tb σ H1 fun y H2 => r x y H2 Q
def tUn (r : V → Hp → VK → Prop) (ta : TE) : TE := fun σ H Q => ta σ H fun x H1 => r x H1 Q
/-- ints in, under C, and a value out -/
inductive rI (C : Int → Int → Prop) (g : Int → Int → V) (x : V) (y : V) (H : Hp) (Q : VK) : Prop
  | mk (i j : _) (_ : x = .int i) (_ : y = .int j) (_ : C i j) (_ : Q (g i j) H) : rI C g x y H Q
inductive rI0 (g : Int → Int → V) (x : V) (y : V) (H : Hp) (Q : VK) : Prop
  | mk (i j : _) (_ : x = .int i) (_ : y = .int j) (_ : Q (g i j) H) : rI0 g x y H Q
inductive rU (g : Int → V) (x : V) (H : Hp) (Q : VK) : Prop
  | mk (i : _) (_ : x = .int i) (_ : Q (g i) H) : rU g x H Q

section
variable {X : Cx} {a b c : Expr} {ta tb tc : TE} {pos : Pos}

theorem binT (ha : PE X a ta) (hb : PE X b tb) {pins : List (Addr × Obj)} {s : Shared} {σ : St} {H : Hp} {R : V → V → Hp → Prop} (I : Inv X pins σ H s)
    (h : ta σ H fun x H1 => tb σ H1 fun y H2 => R x y H2) {Q : Value → Shared → Prop} {f : Value → Value → Sem Value}
    (hf : ∀ v u s2 x y H2, Inv X pins σ H2 s2 → RelV x v → RelV y u → R x y H2 → wpAny (model X.prog X.w) X.A (f v u) Q X.xe s2) :
    wpAny (model X.prog X.w) X.A (eval a X.env) (fun v s₁ => wpAny (model X.prog X.w) X.A (eval b X.env) (fun u s₂ => wpAny (model X.prog X.w) X.A (f v u) Q X.xe s₂) X.xe s₁) X.xe s := by
  refine thn (ha pins s σ H _ I h) fun v s1 ⟨x, H1, I1, r1, q1⟩ => ?_
  refine thn (hb pins s1 σ H1 _ I1 q1) fun u s2 ⟨y, H2, I2, r2, q2⟩ => ?_
  exact hf v u s2 x y H2 I2 r1 r2 q2

theorem pe_op {op : Operator} {r : R2} (ho : OpR X (binaryOp op) r) (ha : PE X a ta) (hb : PE X b tb) : PE X (.BinOp a op b pos) (tOp r ta tb) := by
  intro pins s σ H Q I h
  exact wpAny_BinOp (binT ha hb I h fun v u s2 x y H2 I2 rx ry q => ho pins s2 σ H2 x y v u Q I2 rx ry q)
theorem pe_un {op : UnaryOp} {r : V → Hp → VK → Prop} (ho : UnR X (unaryOp op) r) (ha : PE X a ta) : PE X (.UnaryOp op a pos) (tUn r ta) := by
  intro pins s σ H Q I h
  exact UnaryOp_ (thn (ha pins s σ H _ I h) fun v s1 ⟨x, H1, I1, r1, q1⟩ => ho pins s1 σ H1 x v Q I1 r1 q1)
/-! ### ints -/
theorem opI {f : Value → Value → Sem Value} {C : Int → Int → Prop} {g : Int → Int → Int}
    (rule : ∀ (i j : Int) (t u : Tok) (s : Shared) (Q : Value → Shared → Prop) (E : Value → Shared → Prop), C i j → Q (.int (g i j) s.toks) { s with toks := s.toks + 1 } → wpAny (model X.prog X.w) X.A (f (.int i t) (.int j u)) Q E s) :
    OpR X f (rI C fun i j => .int (g i j)) := by
  intro pins s σ H x y v u Q I rx ry h
  obtain ⟨i, j, rfl, rfl, hc, q⟩ := h
  obtain ⟨t, rfl⟩ := rx
  obtain ⟨t', rfl⟩ := ry
  exact rule i j t t' s _ _ hc ⟨.int (g i j), H, I.tok _, ⟨_, rfl⟩, q⟩
theorem opI0 {f : Value → Value → Sem Value} {g : Int → Int → Int}
    (rule : ∀ (i j : Int) (t u : Tok) (s : Shared) (Q : Value → Shared → Prop) (E : Value → Shared → Prop), Q (.int (g i j) s.toks) { s with toks := s.toks + 1 } → wpAny (model X.prog X.w) X.A (f (.int i t) (.int j u)) Q E s) :
    OpR X f (rI0 fun i j => .int (g i j)) := by
  intro pins s σ H x y v u Q I rx ry h
  obtain ⟨i, j, rfl, rfl, q⟩ := h
  obtain ⟨t, rfl⟩ := rx
  obtain ⟨t', rfl⟩ := ry
  exact rule i j t t' s _ _ ⟨.int (g i j), H, I.tok _, ⟨_, rfl⟩, q⟩
theorem opB0 {f : Value → Value → Sem Value} {g : Int → Int → Bool}
    (rule : ∀ (i j : Int) (t u : Tok) (s : Shared) (Q : Value → Shared → Prop) (E : Value → Shared → Prop), Q (.bool (g i j)) s → wpAny (model X.prog X.w) X.A (f (.int i t) (.int j u)) Q E s) :
    OpR X f (rI0 fun i j => .bl (g i j)) := by
  intro pins s σ H x y v u Q I rx ry h
  obtain ⟨i, j, rfl, rfl, q⟩ := h
  obtain ⟨t, rfl⟩ := rx
  obtain ⟨t', rfl⟩ := ry
  exact rule i j t t' s _ _ ⟨.bl (g i j), H, I, rfl, q⟩

def CDiv (i j : Int) : Prop := 0 < j ∧ j < 1073741824
def CDivN (i j : Int) : Prop := j ≠ 0 ∧ j.natAbs < 1073741824
def CPow (i j : Int) : Prop := 0 ≤ j ∧ j ≤ 1000000 ∧ i.natAbs < 2 ^ 64
def CMul (i j : Int) : Prop := (-(2 ^ 64) < i ∧ i < 2 ^ 64) ∨ (-(2 ^ 64) < j ∧ j < 2 ^ 64)
theorem CMul.ok {i j : Int} (h : CMul i j) : IntMulOk i j := by
  rcases h with ⟨h1, h2⟩ | ⟨h1, h2⟩
  · exact .of_left (intBits_le_64 h1 h2)
  · exact .of_right (intBits_le_64 h1 h2)
theorem op_add : OpR X (binaryOp .Add) (rI0 fun i j => .int (i + j)) := opI0 fun _ _ _ _ _ _ _ q => add_int q
theorem op_sub : OpR X (binaryOp .Sub) (rI0 fun i j => .int (i - j)) := opI0 fun _ _ _ _ _ _ _ q => sub_int q
theorem op_mul : OpR X (binaryOp .Mult) (rI CMul fun i j => .int (i * j)) := opI fun _ _ _ _ _ _ _ hc q => mul_int q hc.ok
/-- % by a positive divisor of any size -/
theorem op_mod : OpR X (binaryOp .Mod) (rI (fun _ j => 0 < j) fun i j => .int (i % j)) := opI fun i j _ _ _ _ _ hc q => by
  have h1 : (0 : Int) < j := hc
  exact mod_int' (by omega) (by rw [Int.fmod_eq_emod_of_nonneg i (by omega)]; exact q)
theorem op_pow : OpR X (binaryOp .Pow) (rI CPow fun i j => .int (i ^ j.toNat)) := opI fun _ _ _ _ _ _ _ hc q => pow_int_small hc.1 hc.2.1 hc.2.2 q
theorem unI {f : Value → Sem Value} {g : Int → Int}
    (rule : ∀ (i : Int) (t : Tok) (s : Shared) (Q : Value → Shared → Prop) (E : Value → Shared → Prop), Q (.int (g i) s.toks) { s with toks := s.toks + 1 } → wpAny (model X.prog X.w) X.A (f (.int i t)) Q E s) :
    UnR X f (rU fun i => .int (g i)) := by
  intro pins s σ H x v Q I rx h
  obtain ⟨i, rfl, q⟩ := h
  obtain ⟨t, rfl⟩ := rx
  exact rule i t s _ _ ⟨.int (g i), H, I.tok _, ⟨_, rfl⟩, q⟩
theorem un_neg : UnR X (unaryOp .USub) (rU fun i => .int (-i)) := unI fun _ _ _ _ _ q => neg_int q
/-! ### bools among ints: n += (a < b) -/
end

/-! ### comparisons -/
/-- the scalars that == tells apart as data does -/
def scal : V → V → Bool
  | .non, .non => true | .non, .int _ => true | .int _, .non => true | .non, .bl _ => true | .bl _, .non => true | .non, .str _ => true | .str _, .non => true
  | .int _, .int _ => true | .bl _, .bl _ => true | .str _, .str _ => true | .byt _, .byt _ => true
  | .int _, .str _ => true | .str _, .int _ => true | .bl _, .str _ => true | .str _, .bl _ => true
  | _, _ => false
def rEq : R2 := fun x y H Q => scal x y = true ∧ Q (.bl (decide (x = y))) H
def rNe : R2 := fun x y H Q => scal x y = true ∧ Q (.bl (!decide (x = y))) H

theorem dec_int {i j : Int} : decide (V.int i = V.int j) = (i == j) := by
  rw [Bool.eq_iff_iff]
  simp
theorem dec_bl {i j : Bool} : decide (V.bl i = V.bl j) = (i == j) := by
  rw [Bool.eq_iff_iff]
  simp
theorem dec_str {i j : Str} : decide (V.str i = V.str j) = (i == j) := by
  rw [Bool.eq_iff_iff]
  simp
theorem dec_byt {i j : Array UInt8} : decide (V.byt i = V.byt j) = (i.toList == j.toList) := by
  rw [Bool.eq_iff_iff]
  cases i
  cases j
  simp

section
variable {X : Cx} {a b c : Expr} {ta tb tc : TE} {pos : Pos}
theorem fin_bl {pins : List (Addr × Obj)} {σ : St} {H : Hp} {s : Shared} {Q : VK} {k k' : Bool} (I : Inv X pins σ H s) (q : Q (.bl k) H) (e : k = k') : EP X pins σ Q (.bool k') s := by
  subst e
  exact ⟨.bl k, H, I, rfl, q⟩
theorem op_eq : OpR X (compareOp .Eq) rEq := by
  intro pins s σ H x y v u Q I rx ry h
  obtain ⟨hs, q⟩ := h
  cases x with
  | non =>
    cases rx
    cases y with
    | non => cases ry; exact PySem.EqNone.eq_none_none (fin_bl I q (by simp))
    | bl j => cases ry; exact PySem.EqNone.eq_none_bool (fin_bl I q (by simp))
    | int j => obtain ⟨t', rfl⟩ := ry; exact PySem.EqNone.eq_none_int (fin_bl I q (by simp))
    | str j => obtain ⟨t', rfl⟩ := ry; exact PySem.EqNone.eq_none_str (fin_bl I q (by simp))
    | _ => exact absurd (show false = true from hs) Bool.false_ne_true
  | bl i =>
    cases rx
    cases y with
    | non => cases ry; exact PySem.EqNone.eq_bool_none (fin_bl I q (by simp))
    | bl j => cases ry; exact eq_bool (fin_bl I q dec_bl)
    | str j => obtain ⟨t', rfl⟩ := ry; exact PySem.EqMixed.eq_bool_str (fin_bl I q (by simp))
    | _ => exact absurd (show false = true from hs) Bool.false_ne_true
  | int i =>
    obtain ⟨t, rfl⟩ := rx
    cases y with
    | non => cases ry; exact PySem.EqNone.eq_int_none (fin_bl I q (by simp))
    | int j => obtain ⟨t', rfl⟩ := ry; exact eq_int (fin_bl I q dec_int)
    | str j => obtain ⟨t', rfl⟩ := ry; exact PySem.EqMixed.eq_int_str (fin_bl I q (by simp))
    | _ => exact absurd (show false = true from hs) Bool.false_ne_true
  | str i =>
    obtain ⟨t, rfl⟩ := rx
    cases y with
    | non => cases ry; exact PySem.EqNone.eq_str_none (fin_bl I q (by simp))
    | bl j => cases ry; exact PySem.EqMixed.eq_str_bool (fin_bl I q (by simp))
    | int j => obtain ⟨t', rfl⟩ := ry; exact PySem.EqMixed.eq_str_int (fin_bl I q (by simp))
    | str j => obtain ⟨t', rfl⟩ := ry; exact eq_str (fin_bl I q dec_str)
    | _ => exact absurd (show false = true from hs) Bool.false_ne_true
  | byt i =>
    obtain ⟨t, rfl⟩ := rx
    cases y with
    | byt j => obtain ⟨t', rfl⟩ := ry; exact PySem.W.eq_bytes (fin_bl I q dec_byt)
    | _ => exact absurd (show false = true from hs) Bool.false_ne_true
  | _ => cases y <;> exact absurd (show false = true from hs) Bool.false_ne_true
theorem op_ne : OpR X (compareOp .NotEq) rNe := by
  intro pins s σ H x y v u Q I rx ry h
  obtain ⟨hs, q⟩ := h
  cases x with
  | non =>
    cases rx
    cases y with
    | non => cases ry; exact PySem.EqNone.ne_none_none (fin_bl I q (by simp))
    | bl j => cases ry; exact PySem.EqNone.ne_none_bool (fin_bl I q (by simp))
    | int j => obtain ⟨t', rfl⟩ := ry; exact PySem.EqNone.ne_none_int (fin_bl I q (by simp))
    | str j => obtain ⟨t', rfl⟩ := ry; exact PySem.EqNone.ne_none_str (fin_bl I q (by simp))
    | _ => exact absurd (show false = true from hs) Bool.false_ne_true
  | bl i =>
    cases rx
    cases y with
    | non => cases ry; exact PySem.EqNone.ne_bool_none (fin_bl I q (by simp))
    | bl j => cases ry; exact ne_bool (fin_bl I q (congrArg not dec_bl))
    | str j => obtain ⟨t', rfl⟩ := ry; exact PySem.EqMixed.ne_bool_str (fin_bl I q (by simp))
    | _ => exact absurd (show false = true from hs) Bool.false_ne_true
  | int i =>
    obtain ⟨t, rfl⟩ := rx
    cases y with
    | non => cases ry; exact PySem.EqNone.ne_int_none (fin_bl I q (by simp))
    | int j => obtain ⟨t', rfl⟩ := ry; exact ne_int (fin_bl I q (congrArg not dec_int))
    | str j => obtain ⟨t', rfl⟩ := ry; exact PySem.EqMixed.ne_int_str (fin_bl I q (by simp))
    | _ => exact absurd (show false = true from hs) Bool.false_ne_true
  | str i =>
    obtain ⟨t, rfl⟩ := rx
    cases y with
    | non => cases ry; exact PySem.EqNone.ne_str_none (fin_bl I q (by simp))
    | bl j => cases ry; exact PySem.EqMixed.ne_str_bool (fin_bl I q (by simp))
    | int j => obtain ⟨t', rfl⟩ := ry; exact PySem.EqMixed.ne_str_int (fin_bl I q (by simp))
    | str j => obtain ⟨t', rfl⟩ := ry; exact ne_str (fin_bl I q (congrArg not dec_str))
    | _ => exact absurd (show false = true from hs) Bool.false_ne_true
  | byt i =>
    obtain ⟨t, rfl⟩ := rx
    cases y with
    | byt j => obtain ⟨t', rfl⟩ := ry; exact PySem.W.ne_bytes (fin_bl I q (congrArg not dec_byt))
    | _ => exact absurd (show false = true from hs) Bool.false_ne_true
  | _ => cases y <;> exact absurd (show false = true from hs) Bool.false_ne_true

theorem op_lt : OpR X (compareOp .Lt) (rI0 fun i j => .bl (decide (i < j))) := opB0 fun _ _ _ _ _ _ _ q => lt_int q
theorem op_le : OpR X (compareOp .LtE) (rI0 fun i j => .bl (decide (i ≤ j))) := opB0 fun _ _ _ _ _ _ _ q => le_int q
theorem op_gt : OpR X (compareOp .Gt) (rI0 fun i j => .bl (decide (j < i))) := opB0 fun _ _ _ _ _ _ _ q => gt_int q
/-- the one string within the other -/
theorem op_in_str : OpR X (compareOp .In) (fun x y H Q => ∃ i j, x = .str i ∧ y = .str j ∧ Q (.bl (!(Builtin.Str.occurrences j i 0 j.length 1).isEmpty)) H) := by
  intro pins s σ H x y v u Q I rx ry h
  obtain ⟨i, j, rfl, rfl, q⟩ := h
  obtain ⟨t, rfl⟩ := rx
  obtain ⟨t', rfl⟩ := ry
  exact in_str (fin_bl I q rfl)

theorem op_notin_str : OpR X (compareOp .NotIn) (fun x y H Q => ∃ i j, x = .str i ∧ y = .str j ∧ Q (.bl (!(!(Builtin.Str.occurrences j i 0 j.length 1).isEmpty))) H) := by
  intro pins s σ H x y v u Q I rx ry h
  obtain ⟨i, j, rfl, rfl, q⟩ := h
  obtain ⟨t, rfl⟩ := rx
  obtain ⟨t', rfl⟩ := ry
  exact notIn_str (fin_bl I q rfl)
/-- is, is not of two objects that are tracked lists or instances -/
def isObj : HO → Bool
  | .lst _ => true
  | .ins _ _ _ => true
  | _ => false
theorem nomark (b : Expr) {op : CmpOp} (h : op ≠ .In := by decide) (h2 : op ≠ .NotIn := by decide) : behindInMarks op b = false := by
  have e1 : (op == CmpOp.In) = false := by cases op <;> first | rfl | exact absurd rfl h
  have e2 : (op == CmpOp.NotIn) = false := by cases op <;> first | rfl | exact absurd rfl h2
  cases b <;> simp [behindInMarks, e1, e2]
/-- a comparison as a value; hm: nomark b, or (for in, not in) by with_unfolding_all rfl -/
theorem pe_cmpR {op : CmpOp} {r : R2} (ho : OpR X (compareOp op) r) (ha : PE X a ta) (hb : PE X b tb) (hm : behindInMarks op b = false) : PE X (.Compare a [op] [b] pos) (tOp r ta tb) := by
  intro pins s σ H Q I h
  exact wpAny_Compare1 (binT ha hb I h fun v u s2 x y H2 I2 rx ry q => ho pins s2 σ H2 x y v u Q I2 rx ry q) hm
/-- a reading of a value as a test -/
inductive tTestq  (Q : Bool → Hp → Prop) (x : V) (H' : Hp) : Prop
  | mk (k : _) (_ : x = .bl k) (_ : Q k H') : tTestq Q x H'
def tTest (t : TE) : TT := fun σ H Q => t σ H fun x H' => tTestq Q x H'
theorem pt_cmpR {op : CmpOp} {r : R2} (ho : OpR X (compareOp op) r) (ha : PE X a ta) (hb : PE X b tb) (hm : behindInMarks op b = false) : PT X (.Compare a [op] [b] pos) (tTest (tOp r ta tb)) := by
  intro pins s σ H Q I h
  refine wpAny_isTrue_Compare1 (thn (ha pins s σ H _ I h) fun v s1 ⟨x, H1, I1, r1, q1⟩ => thn (hb pins s1 σ H1 _ I1 q1) fun u s2 ⟨y, H2, I2, r2, q2⟩ =>
    thn (ho pins s2 σ H2 x y v u _ I2 r1 r2 q2) fun c s3 ⟨z, H3, I3, r3, k, e, q3⟩ => ?_) hm
  subst e
  cases r3
  exact wpAny_truthy_bool ⟨H3, I3, q3⟩
/-- a op1 b op2 c -/
inductive tChainq (r' : R2) (tc : TE) (σ : St) (Q : VK) (y : V) (z : V) (H3 : Hp) : Prop
  | mk (k : _) (_ : z = .bl k) (_ : (if k = true then tc σ H3 fun w' H4 => r' y w' H4 Q else Q (.bl false) H3)) : tChainq r' tc σ Q y z H3
def tChain (r r' : R2) (ta tb tc : TE) : TE := fun σ H Q => ta σ H fun x H1 => tb σ H1 fun y H2 => r x y H2 fun z H3 => tChainq r' tc σ Q y z H3
theorem pe_chain {op op' : CmpOp} {r r' : R2} (ho : OpR X (compareOp op) r) (ho' : OpR X (compareOp op') r') (ha : PE X a ta) (hb : PE X b tb) (hc : PE X c tc)
    (hm : lastMarks [op, op'] [b, c] = false := by with_unfolding_all rfl) : PE X (.Compare a [op, op'] [b, c] pos) (tChain r r' ta tb tc) := by
  intro pins s σ H Q I h
  refine Compare_chain (thn (ha pins s σ H _ I h) fun v s1 ⟨x, H1, I1, r1, q1⟩ => chain_link (thn (hb pins s1 σ H1 _ I1 q1) fun u s2 ⟨y, H2, I2, r2, q2⟩ =>
    thn (ho pins s2 σ H2 x y v u _ I2 r1 r2 q2) fun d s3 ⟨z, H3, I3, r3, k, e, q3⟩ => ?_)) hm
  subst e
  cases r3
  refine wpAny_truthy_bool ?_
  cases k with
  | false => exact ite_ff ⟨.bl false, H3, I3, rfl, q3⟩
  | true => exact ite_tt (chain_last (thn (hc pins s3 σ H3 _ I3 q3) fun w' s4 ⟨z', H4, I4, r4, q4⟩ => ho' pins s4 σ H4 y z' u w' Q I4 r2 r4 q4))
/-! ### truth -/
/-- a value's truth by the abstract heap -/
def TruV (K : PySem.W.Frag) (x : V) (H : Hp) (k : Bool) : Prop :=
  match x with
  | .non => k = false
  | .bl b => k = b
  | .int i => k = (i != 0)
  | .str y => y.length ≤ sizeLine ∧ k = ((y.length : Int) != 0)
  | .byt y => y.size ≤ sizeLine ∧ k = ((y.size : Int) != 0)
  | .ref p => (∃ xs, SqL K H p xs ∧ k = !xs.isEmpty) ∨ (∃ xs, SqT K H p xs ∧ k = !xs.isEmpty) ∨ ∃ kvs, H p = some (.dK kvs) ∧ k = !kvs.isEmpty
  | _ => False
theorem isEmpty_kv {κ : Type} {kvs : List (κ × V)} {vs : List (κ × Value)} (r : KV kvs vs) : (!vs.isEmpty) = !kvs.isEmpty := by
  cases r <;> rfl
theorem isEmpty_of {xs : List V} {its : List Value} (r : Vals xs its) : (!its.toArray.isEmpty) = !xs.isEmpty := by
  cases r <;> simp
theorem line63 : (sizeLine : Nat) < 2 ^ 63 := by rw [sizeLine_eq]; decide
theorem tru_ok : TruR X (fun x H Q => ∃ k, TruV X.K x H k ∧ Q k H) := by
  intro pins s σ H x v Q I rx h
  obtain ⟨k, e, q⟩ := h
  have hl := line63
  have hs : sizeLine = 16777216 := sizeLine_eq
  cases x with
  | non =>
    cases rx
    have e' : k = false := e
    subst e'
    exact truthy_none ⟨H, I, q⟩
  | bl b =>
    cases rx
    have e' : k = b := e
    subst e'
    exact wpAny_truthy_bool ⟨H, I, q⟩
  | int i =>
    obtain ⟨t, rfl⟩ := rx
    have e' : k = (i != 0) := e
    subst e'
    exact PySem.P.truthy_int ⟨H, I, q⟩
  | str y =>
    obtain ⟨t, rfl⟩ := rx
    obtain ⟨hy, e'⟩ : y.length ≤ sizeLine ∧ k = ((y.length : Int) != 0) := e
    subst e'
    exact PySem.P.truthy_str (by omega) ⟨H, I.tok _, q⟩
  | byt y =>
    obtain ⟨t, rfl⟩ := rx
    obtain ⟨hy, e'⟩ : y.size ≤ sizeLine ∧ k = ((y.size : Int) != 0) := e
    subst e'
    exact PySem.W.truthy_bytes (by omega) ⟨H, I.tok _, q⟩
  | ref p =>
    cases rx
    have e' : (∃ xs, SqL X.K H p xs ∧ k = !xs.isEmpty) ∨ (∃ xs, SqT X.K H p xs ∧ k = !xs.isEmpty) ∨ ∃ kvs, H p = some (.dK kvs) ∧ k = !kvs.isEmpty := e
    rcases e' with ⟨xs, hx, e'⟩ | ⟨xs, hx, e'⟩ | ⟨kvs, hx, e'⟩
    · subst e'
      obtain ⟨its, r, pl, hz⟩ := I.list hx
      have hlen := r.length
      exact wpAny_truthy_list pl.isList (by simp only [List.size_toArray]; omega) ⟨H, I.tok _, by rw [isEmpty_of r]; exact q⟩
    · subst e'
      obtain ⟨its, r, pl, hz⟩ := I.tuple hx
      have hlen := r.length
      exact truthy_tuple pl (by simp only [List.size_toArray]; omega) ⟨H, I.tok _, by rw [isEmpty_of r]; exact q⟩
    · subst e'
      obtain ⟨hz, hS, vs, r, m⟩ : kvs.length ≤ sizeLine ∧ (p == sysModules) = false ∧ ∃ vs, KV kvs vs ∧ s.heap.DictOf (mixKind X.prog X.w) p vs := I.hok p _ hx
      have hlen : kvs.length = vs.length := Paired.length r
      exact wpAny_truthy_dict hS m (by omega) ⟨H, I.tok _, by rw [isEmpty_kv r]; exact q⟩
  | _ => exact (show False from e).elim
/-- any expression whose test is its value's truth (a name, a call, a subscript, a field ..: he by fun _ => rfl) -/
theorem pt_truth (ha : PE X a ta) (he : ∀ whole, isTrue a X.env whole = (do let v ← whole; standAt a.pos; holding [v] (truthy v))) :
    PT X a (fun σ H Q => ta σ H fun x H' => ∃ k, TruV X.K x H' k ∧ Q k H') := by
  intro pins s σ H Q I h
  exact isTrue_plain (thn (ha pins s σ H _ I h) fun v s1 ⟨x, H1, I1, r1, q1⟩ => tru_ok pins s1 σ H1 x v Q I1 r1 q1) (he _)

/-! ### strs and bytes -/
theorem op_add_str : OpR X (binaryOp .Add) (fun x y H Q => ∃ i j, x = .str i ∧ y = .str j ∧ i.length + j.length ≤ sizeLine ∧ Q (.str (i ++ j)) H) := by
  intro pins s σ H x y v u Q I rx ry h
  obtain ⟨i, j, rfl, rfl, hz, q⟩ := h
  obtain ⟨t, rfl⟩ := rx
  obtain ⟨t', rfl⟩ := ry
  exact add_str (fun t' tk => ⟨.str (i ++ j), H, I.tok _, ⟨_, rfl⟩, q⟩) hz
theorem op_add_byt : OpR X (binaryOp .Add) (fun x y H Q => ∃ i j, x = .byt i ∧ y = .byt j ∧ i.size + j.size ≤ 16777216 ∧ Q (.byt (i ++ j)) H) := by
  intro pins s σ H x y v u Q I rx ry h
  obtain ⟨i, j, rfl, rfl, hz, q⟩ := h
  obtain ⟨t, rfl⟩ := rx
  obtain ⟨t', rfl⟩ := ry
  exact PySem.W.KBy.add_bytes hz (fun t' tk => ⟨.byt (i ++ j), H, I.tok _, ⟨_, rfl⟩, q⟩)

def PlainIxT (b : Expr) : Prop := ∀ o i, subscripted b false o i = operate [o, i] (getItem o i)
/-! ### scalar builtins, by CallR -/
theorem vals1 {x : V} {us : List Value} (r : Vals [x] us) : ∃ u, us = [u] ∧ RelV x u := by
  cases r with
  | cons r1 r2 => cases r2; exact ⟨_, rfl, r1⟩
theorem vals2 {x y : V} {us : List Value} (r : Vals [x, y] us) : ∃ u w', us = [u, w'] ∧ RelV x u ∧ RelV y w' := by
  cases r with
  | cons r1 r2 =>
    cases r2 with
    | cons r3 r4 => cases r4; exact ⟨_, _, rfl, r1, r3⟩
theorem call_abs : CallR X (.builtin "abs") (fun xs H Q => ∃ i, xs = [.int i] ∧ Q (.int (if i < 0 then -i else i)) H) := by
  intro pins s σ H xs us Q I r h
  obtain ⟨i, rfl, q⟩ := h
  obtain ⟨u, rfl, t, rfl⟩ := vals1 r
  exact call_abs_int fun u tk => ⟨.int (if i < 0 then -i else i), H, I.tok _, ⟨_, rfl⟩, q⟩
theorem call_max2 (hc : X.calm = true) : CallR X (.builtin "max") (fun xs H Q => ∃ i j, xs = [.int i, .int j] ∧ Q (.int (if j > i then j else i)) H) := by
  intro pins s σ H xs us Q I r h
  obtain ⟨i, j, rfl, q⟩ := h
  obtain ⟨u, w', rfl, ⟨t, rfl⟩, ⟨t', rfl⟩⟩ := vals2 r
  refine max_two_ints (I.ok.hd hc) fun h' tk k => ⟨_, H, I.kept k, ?_, q⟩
  by_cases hj : j > i
  · rw [if_pos hj, if_pos hj]; exact ⟨_, rfl⟩
  · rw [if_neg hj, if_neg hj]; exact ⟨_, rfl⟩
theorem call_min2 (hc : X.calm = true) : CallR X (.builtin "min") (fun xs H Q => ∃ i j, xs = [.int i, .int j] ∧ Q (.int (if j < i then j else i)) H) := by
  intro pins s σ H xs us Q I r h
  obtain ⟨i, j, rfl, q⟩ := h
  obtain ⟨u, w', rfl, ⟨t, rfl⟩, ⟨t', rfl⟩⟩ := vals2 r
  refine min_two_ints (I.ok.hd hc) fun h' tk k => ⟨_, H, I.kept k, ?_, q⟩
  by_cases hj : j < i
  · rw [if_pos hj, if_pos hj]; exact ⟨_, rfl⟩
  · rw [if_neg hj, if_neg hj]; exact ⟨_, rfl⟩
theorem call_str_int : CallR X (.type "str") (fun xs H Q => ∃ i, xs = [.int i] ∧ i.natAbs.log2 < 1920 ∧ Q (.str (toString i)) H) := by
  intro pins s σ H xs us Q I r h
  obtain ⟨i, rfl, hz, q⟩ := h
  obtain ⟨u, rfl, t, rfl⟩ := vals1 r
  exact PySem.P.str_of_int hz ⟨.str _, H, I.tok _, ⟨_, rfl⟩, q⟩
/-- len of a str, a bytes, a list, a tuple -/
def LenV (K : PySem.W.Frag) (x : V) (H : Hp) (n : Nat) : Prop :=
  match x with
  | .str y => y.length ≤ sizeLine ∧ n = y.length
  | .byt y => y.size ≤ sizeLine ∧ n = y.size
  | .ref p => (∃ xs, SqL K H p xs ∧ n = xs.length) ∨ ∃ xs, SqT K H p xs ∧ n = xs.length
  | _ => False
end
end L2

namespace L2
open PySem PySem.Spec PyProof.Rows

/-! ### an instance, its attributes a map -/
structure ObjM (h : Heap) (x dx C : Addr) (mA : Str → Option Value) : Prop where
  obj : h.get? x = some (PySem.W.instObj C dx)
  ns : h.Ns1 dx mA
  ne : dx ≠ x

theorem lookIn_ns {h : Heap} {dx : Addr} {mA : Str → Option Value} (n : h.Ns1 dx mA) : ∃ od, h.get? dx = some od ∧ ∀ name, PySem.W.lookIn name od = some (mA name) := by
  obtain ⟨o, es, ep, ho, hd, hk, _, hm⟩ := n
  refine ⟨o, ho, fun name => ?_⟩
  have e := hm name
  unfold nsFind findBy at e
  rw [← Array.find?_toList] at e
  unfold PySem.W.lookIn
  rw [hd]
  dsimp only
  split
  · rename_i y q
    rw [q] at e
    exact congrArg some e
  · rename_i q
    rw [q] at e
    have a : es.toList.any (·.refKey) = false := by
      rw [List.any_eq_false]
      intro y hy
      obtain ⟨z, t, hkey⟩ := hk y (Array.mem_toList_iff.mp hy)
      simp [DictEntry.refKey, hkey]
    have a' : ¬ es.toList.any (·.refKey) = true := by rw [a]; exact Bool.false_ne_true
    rw [if_neg a']
    exact congrArg some e

theorem ObjM.look {h : Heap} {x dx C : Addr} {mA : Str → Option Value} (I : ObjM h x dx C mA) : ∃ od, PySem.W.InstAt h x (PySem.W.instObj C dx) C (some od) ∧ ∀ name, PySem.W.lookIn name od = some (mA name) := by
  obtain ⟨od, ho, hl⟩ := lookIn_ns I.ns
  exact ⟨od, ⟨I.obj, rfl, rfl, ho⟩, hl⟩

section
variable {prog : Program} {w : World} {A : Around} {E : Value → Shared → Prop} {s : Shared} {K : PySem.W.Frag} {x dx C f : Addr} {mA : Str → Option Value} {name : Str} {v : Value}

theorem get_map {expr : Bool} {Q : Value → Shared → Prop} (X : K.In s.heap) (I : ObjM s.heap x dx C mA) (hg : PySem.W.plainGet K C name = true) (hh : PySem.W.hasDictIn K C = true)
    (ha : PySem.W.findIn K (.ref C) name = some none) (hv : mA name = some v) (hv' : PySem.W.handedIn v = true) (h : Q v { s with toks := s.toks + 1 }) :
    wpAny (model prog w) A (getAttr (.ref x) name expr) Q E s := by
  obtain ⟨od, J, hl⟩ := I.look
  exact PySem.W.get_value X J (PySem.W.plainGet_of hg).1 (PySem.W.findObj_own hh ha rfl (by rw [hl, hv])) hv' h

theorem get_meth {pl : Sem Bool} {Q : Value × List Value → Shared → Prop} (X : K.In s.heap) (I : ObjM s.heap x dx C mA) (hg : PySem.W.plainGet K C name = true)
    (hf : PySem.W.findIn K (.ref C) name = some (some (.ref f))) (ht : PySem.W.isFn K (.ref f) = true) (hv : mA name = none) (h : Q (.ref f, [.ref x]) s) :
    wpAny (model prog w) A (getMethod (.ref x) name pl) Q E s := by
  obtain ⟨od, J, hl⟩ := I.look
  exact PySem.W.method_fn X J (PySem.W.plainGet_of hg).1 (PySem.W.plainGet_of hg).2 hf (beq_iff_eq.mp ht) (by show (PySem.W.lookIn name od).map (·.isSome) = some false; rw [hl, hv]; rfl) h

theorem set_map {ns : List Str} {Q : Unit → Shared → Prop} (X : K.In s.heap) (I : ObjM s.heap x dx C mA)
    (hs : PySem.W.findIn K (.ref C) "__setattr__" = some (some (.builtin "object.__setattr__"))) (hp : PySem.W.plainOver K C = true) (ht : PySem.W.takerIn K C name = some none) (hh : PySem.W.hasDictIn K C = true)
    (hw : PySem.Within mA ns) (hsz : ns.length ≤ sizeLine)
    (h : ∀ h', ObjM h' x dx C (fun y => if y = name then some v else mA y) → Heap.SameBut dx s.heap h' → Q () { s with heap := h', toks := s.toks + 2 }) :
    wpAny (model prog w) A (setAttr (.ref x) name v) Q E s := by
  obtain ⟨od, J, hl⟩ := I.look
  refine PySem.W.set_plain X J hs (PySem.W.osa_open (s := { s with toks := s.toks + 1 }) (r := none) X J hp ht fun b => ?_)
  obtain ⟨cd, hc, hd'⟩ := PySem.W.any_some hh
  have hx : s.heap.get? x = some ⟨.ref C, some dx, .plain, #[]⟩ := I.obj
  refine wpAny_bind (wpAny_pure (wpAny_bind (wpAny_bind (wpAny_loadPart hx (wpAny_bind (PySem.W.Looks.here (s := { s with toks := s.toks + 1 }) (PySem.W.looks_clsIn X hc) ?_))))))
  rw [hd']
  refine wpAny_pure (a := some dx) (wpAny_bind (wpAny_pure (wpAny_bind ?_)))
  refine wpAny_nsSet1 (s := { s with toks := s.toks + 1 }) I.ns fun h' hn2 hs2 => ?_
  obtain ⟨oD, esD, epD, hoD, hdD, hcD⟩ := hn2.count (PySem.Within.cons name v hw)
  refine wpAny_bind (wpAny_lookBehind hoD (by rw [hdD]; exact pastItsLine_dict (Nat.le_trans hcD (by rw [List.length_cons]; omega))) ?_)
  exact wpAny_pure (h _ ⟨(hs2.2 _ (Ne.symm I.ne)).trans I.obj, hn2, I.ne⟩ hs2)

/-- C(..): the dict at the heap's end, the instance behind it; then its __init__ -/
theorem make_map {R : Result → Shared → Prop} {vs : List Value} {kw : List (Str × Value)} (X : K.In s.heap) (hm : PySem.W.makesIn K C = true)
    (hi : PySem.W.findIn K (.ref C) "__init__" = some (some (.ref f))) (hf : PySem.W.typeIn K (.ref f) = some (.type "function"))
    (h : codeAny (model prog w) (A.under (.builtin "type.__call__" ⟨.ref C :: vs, kw⟩)) (.call (.ref f) ⟨.ref (s.heap.objs.size + 1) :: vs, kw⟩) (PySem.W.InitBack (s.heap.objs.size + 1) R)
      { s with heap := (s.heap.push PySem.W.emptyDict).push (PySem.W.instObj C s.heap.objs.size) }) :
    codeAny (model prog w) A (.call (.ref C) ⟨vs, kw⟩) R s := by
  obtain ⟨hh, g, d, t, os⟩ := s
  exact PySem.W.make_core (PySem.W.makes_of X hm) (PySem.W.looks_findIn X hi) (fun self => PySem.W.bind_fn X self hf) (.inl rfl) h
end

/-! ### the attributes as a list of pairs -/
def putF (f : Str) (v : V) : List (Str × V) → List (Str × V)
  | [] => [(f, v)]
  | (g, x) :: r => if g = f then (g, v) :: r else (g, x) :: putF f v r
theorem lookup_putF (f g : Str) (v : V) : ∀ fs : List (Str × V), (putF f v fs).lookup g = if g = f then some v else fs.lookup g
  | [] => by
    show List.lookup g [(f, v)] = _
    by_cases h : g = f
    · have hb : (g == f) = true := beq_iff_eq.mpr h
      simp only [List.lookup, hb, if_pos h]
    · have hb : (g == f) = false := beq_eq_false_iff_ne.mpr h
      simp only [List.lookup, hb, if_neg h]
  | (k, x) :: r => by
    have ih := lookup_putF f g v r
    rw [show putF f v ((k, x) :: r) = (if k = f then (k, v) :: r else (k, x) :: putF f v r) from rfl]
    by_cases hk : k = f
    · rw [if_pos hk]
      by_cases h : g = k
      · have hb : (g == k) = true := beq_iff_eq.mpr h
        simp only [List.lookup, hb, if_pos (h.trans hk)]
      · have hb : (g == k) = false := beq_eq_false_iff_ne.mpr h
        simp only [List.lookup, hb, if_neg (fun e : g = f => h (e.trans hk.symm))]
    · rw [if_neg hk]
      by_cases h : g = k
      · have hb : (g == k) = true := beq_iff_eq.mpr h
        simp only [List.lookup, hb, if_neg (fun e : g = f => hk (h.symm.trans e))]
      · have hb : (g == k) = false := beq_eq_false_iff_ne.mpr h
        simp only [List.lookup, hb]
        exact ih
theorem keys_putF (f : Str) (v : V) : ∀ fs : List (Str × V), f ∈ (putF f v fs).map (·.1) ∧ ∀ g, g ∈ fs.map (·.1) → g ∈ (putF f v fs).map (·.1)
  | [] => ⟨by simp [putF], fun g h => by simp at h⟩
  | (k, x) :: r => by
    obtain ⟨i1, i2⟩ := keys_putF f v r
    rw [show putF f v ((k, x) :: r) = (if k = f then (k, v) :: r else (k, x) :: putF f v r) from rfl]
    by_cases hk : k = f
    · rw [if_pos hk]
      subst hk
      exact ⟨by simp, fun g h => by simpa using h⟩
    · rw [if_neg hk]
      refine ⟨?_, fun g h => ?_⟩
      · rw [List.map_cons]
        exact List.mem_cons_of_mem _ i1
      · rw [List.map_cons] at h ⊢
        rcases List.mem_cons.mp h with e | e
        · exact List.mem_cons.mpr (.inl e)
        · exact List.mem_cons_of_mem _ (i2 g e)
theorem length_putF (f : Str) (v : V) : ∀ fs : List (Str × V), (putF f v fs).length ≤ fs.length + 1
  | [] => by simp [putF]
  | (k, x) :: r => by
    have ih := length_putF f v r
    rw [show putF f v ((k, x) :: r) = (if k = f then (k, v) :: r else (k, x) :: putF f v r) from rfl]
    by_cases hk : k = f
    · rw [if_pos hk, List.length_cons, List.length_cons]; omega
    · rw [if_neg hk, List.length_cons, List.length_cons]; omega

theorem RelO.some_of {v : V} {o : Option Value} (r : RelO (some v) o) : ∃ u, o = some u ∧ RelV v u := by
  cases o with
  | none => exact (show False from r).elim
  | some u => exact ⟨u, rfl, r⟩
theorem RelO.none_of {o : Option Value} (r : RelO none o) : o = none := by
  cases o with
  | none => rfl
  | some u => exact (show False from r).elim
theorem handed_of {v : V} {u : Value} (r : RelV v u) : PySem.W.handedIn u = true := by
  cases v with
  | non => cases (show u = Value.none from r); rfl
  | bl b => cases (show u = Value.bool b from r); rfl
  | int i => obtain ⟨t, e⟩ := (show ∃ t, u = Value.int i t from r); cases e; rfl
  | str x => obtain ⟨t, e⟩ := (show ∃ t, u = Value.str x t from r); cases e; rfl
  | byt b => obtain ⟨t, e⟩ := (show ∃ t, u = Value.bytes b t from r); cases e; rfl
  | flt b => obtain ⟨t, e⟩ := (show ∃ t, u = Value.float b t from r); cases e; rfl
  | ref a => cases (show u = Value.ref a from r); rfl
  | ty n => cases (show u = Value.type n from r); rfl

section
variable {P : Program} {w : World} {H H' : Hp} {h h' : Heap} {a C dx : Addr} {fs fs' : List (Str × V)}
theorem ins_get (hok : HOk P w H h) (e : H a = some (.ins C dx fs)) : ∃ mA, ObjM h a dx C mA ∧ (∀ f, RelO (fs.lookup f) (mA f)) ∧ PySem.Within mA (fs.map (·.1)) ∧ fs.length ≤ 1000 ∧ H dx = some (.own a) := by
  obtain ⟨d, z, ne, ob, mA, n, r, q⟩ := (show ObjOk P w H h a (.ins C dx fs) from hok a _ e)
  exact ⟨mA, ⟨ob, n, ne⟩, r, q, z, d⟩
end

/-! ### what of the text a class must have -/
structure Cls (K : PySem.W.Frag) (C : Addr) : Prop where
  pg : PySem.W.plainGet K C Str.empty = true
  hd : PySem.W.hasDictIn K C = true
  po : PySem.W.plainOver K C = true
  sa : PySem.W.findIn K (.ref C) "__setattr__" = some (some (.builtin "object.__setattr__"))
theorem Cls.get {K : PySem.W.Frag} {C : Addr} (c : Cls K C) (f : Str) : PySem.W.plainGet K C f = true := c.pg
/-- no class of it has the name -/
def NoAttr (K : PySem.W.Frag) (C : Addr) (f : Str) : Prop := PySem.W.findIn K (.ref C) f = some none
theorem NoAttr.taker {K : PySem.W.Frag} {C : Addr} {f : Str} (n : NoAttr K C f) : PySem.W.takerIn K C f = some none := by
  unfold PySem.W.takerIn
  rw [show PySem.W.findIn K (.ref C) f = some none from n]
  rfl
/-- a constant of the class -/
structure Con (K : PySem.W.Frag) (C : Addr) (f : Str) (v : V) (u : Value) : Prop where
  at_ : PySem.W.findIn K (.ref C) f = some (some u)
  rel : RelV v u
  get : PySem.W.specialIn K u "__get__" = some none
  cp : PySem.W.copiedNames.contains f = false
/-- a method: a plain def of the class or of one above it -/
structure Meth (K : PySem.W.Frag) (C : Addr) (m : Str) (f : Addr) : Prop where
  at_ : PySem.W.findIn K (.ref C) m = some (some (.ref f))
  fn : PySem.W.isFn K (.ref f) = true
  kp : PySem.W.keepIn K (.ref f) = true

section
variable {X : Cx} {pins : List (Addr × Obj)} {σ : St} {H : Hp} {s : Shared} {a C dx : Addr} {fs : List (Str × V)} {f : Str} {v : V} {A : Around} {E : Value → Shared → Prop}

theorem getattr_ok {b : Bool} {Q : Value → Shared → Prop} (I : Inv X pins σ H s) (e : H a = some (.ins C dx fs)) (c : Cls X.K C) (n : NoAttr X.K C f) (l : fs.lookup f = some v)
    (h : ∀ u s', Inv X pins σ H s' → RelV v u → Q u s') : wpAny (model X.prog X.w) A (getAttr (.ref a) f b) Q E s := by
  obtain ⟨mA, O, r, _, _, _⟩ := ins_get I.hok e
  obtain ⟨u, hu, ru⟩ := RelO.some_of (v := v) (o := mA f) (by rw [← l]; exact r f)
  exact get_map I.kIn O (c.get f) c.hd n hu (handed_of ru) (h u _ (I.tok _) ru)

theorem getmeth_ok {m : Str} {g : Addr} {pl : Sem Bool} {Q : Value × List Value → Shared → Prop} (I : Inv X pins σ H s) (e : H a = some (.ins C dx fs)) (c : Cls X.K C) (k : Meth X.K C m g) (l : fs.lookup m = none)
    (h : Q (.ref g, [.ref a]) s) : wpAny (model X.prog X.w) A (getMethod (.ref a) m pl) Q E s := by
  obtain ⟨mA, O, r, _, _, _⟩ := ins_get I.hok e
  have hn : mA m = none := RelO.none_of (by rw [← l]; exact r m)
  exact get_meth I.kIn O (c.get m) k.at_ k.fn hn h

theorem setattr_ok {y : V} {u : Value} {Q : Unit → Shared → Prop} (I : Inv X pins σ H s) (e : H a = some (.ins C dx fs)) (c : Cls X.K C) (n : NoAttr X.K C f) (hl : fs.length < 1000) (ry : RelV y u)
    (h : ∀ s', Inv X pins σ (upd H a (.ins C dx (putF f y fs))) s' → Q () s') : wpAny (model X.prog X.w) A (setAttr (.ref a) f u) Q E s := by
  obtain ⟨mA, O, r, wi, _, ho⟩ := ins_get I.hok e
  have hz : (fs.map (·.1)).length ≤ sizeLine := by rw [List.length_map, sizeLine_eq]; omega
  refine set_map I.kIn O c.sa c.po n.taker c.hd wi hz fun h' O' sb => h _ ?_
  have hd : ∃ o, h'.get? dx = some o := let ⟨o, _, _, e', _⟩ := O'.ns; ⟨o, e'⟩
  refine I.write (x := a) (e := dx) (by rw [e]; exact True.intro) (.inr ho) (fun b q hb z => (sb.2 b hb).trans z) hd ?_
  refine ⟨by rw [upd_ne O.ne]; exact ho, ?_, O.ne, O'.obj, _, O'.ns, fun g => ?_, fun g hg => ?_⟩
  · have := length_putF f y fs; omega
  · show RelO ((putF f y fs).lookup g) (if g = f then some u else mA g)
    rw [lookup_putF]
    by_cases q : g = f
    · rw [if_pos q, if_pos q]; exact ry
    · rw [if_neg q, if_neg q]; exact r g
  · by_cases q : g = f
    · rw [q]; exact (keys_putF f y fs).1
    · refine (keys_putF f y fs).2 g (wi g fun z => hg ?_)
      show (if g = f then some u else mA g) = none
      rw [if_neg q]; exact z

/-- a new instance, tracked, without attributes -/
theorem Inv.made (I : Inv X pins σ H s) : Inv X pins σ (upd (upd H s.heap.objs.size (.own (s.heap.objs.size + 1))) (s.heap.objs.size + 1) (.ins C s.heap.objs.size []))
    { s with heap := (s.heap.push PySem.W.emptyDict).push (PySem.W.instObj C s.heap.objs.size) } := by
  have e1 : (s.heap.push PySem.W.emptyDict).get? s.heap.objs.size = some PySem.W.emptyDict := Heap.get?_push_size s.heap rfl
  have e2 : ((s.heap.push PySem.W.emptyDict).push (PySem.W.instObj C s.heap.objs.size)).get? (s.heap.objs.size + 1) = some (PySem.W.instObj C s.heap.objs.size) := by
    have := Heap.get?_push_size (s.heap.push PySem.W.emptyDict) (o := PySem.W.instObj C s.heap.objs.size) rfl
    rwa [Heap.size_push] at this
  have e3 : (s.heap.push PySem.W.emptyDict).Ns s.heap.objs.size (fun _ => none) := ⟨PySem.W.emptyDict, #[], _, e1, rfl, (fun e he => absurd he (by simp)), fun _ => rfl⟩
  have I1 := I.laid (a := s.heap.objs.size) (o := .own (s.heap.objs.size + 1)) (h' := s.heap.push PySem.W.emptyDict) (t' := s.toks) (fun b u q => Heap.get?_push_of_some _ q) (Nat.le_refl _) ⟨_, e1⟩
  refine I1.laid (a := s.heap.objs.size + 1) (o := .ins C s.heap.objs.size []) (t' := s.toks) (fun b u q => Heap.get?_push_of_some _ q) (Nat.le_of_eq (Heap.size_push _ _)) ?_
  have ne : s.heap.objs.size ≠ s.heap.objs.size + 1 := Nat.ne_of_lt (Nat.lt_succ_self _)
  refine ⟨by rw [upd_ne ne, upd_same], Nat.zero_le _, ne, e2, fun _ => none, (Heap.Ns1.of_empty e3).at fun o q => Heap.get?_push_of_some _ q, fun _ => True.intro, fun y hy => absurd rfl hy⟩

/-- e.f where nothing but the object is asked: through attributeBase (super) and the last hold -/
theorem attr_of {prog : Program} {w : World} {env : Env} {e : Expr} {f : Str} {pos : Pos} {s : Shared} {Q : Value → Shared → Prop} (hb : attributeBase e f env (eval e env) = eval e env)
    (h : wpAny (model prog w) A (eval e env) (fun o s₁ => wpAny (model prog w) A (getAttr o f true) Q E s₁) E s) : wpAny (model prog w) A (eval (.Attribute e f pos) env) Q E s :=
  Attribute_any_ h (by rw [arm_eval_Attribute, hb])
end

/-! ### readings and rules -/
/-- e.f, an attribute of the instance -/
inductive tFldq (K : PySem.W.Frag) (f : Str) (Q : VK) (x : V) (H1 : Hp) : Prop
  | mk (a C dx fs v : _) (_ : x = .ref a) (_ : H1 a = some (.ins C dx fs)) (_ : Cls K C) (_ : NoAttr K C f) (_ : fs.lookup f = some v) (_ : Q v H1) : tFldq K f Q x H1
def tFld (K : PySem.W.Frag) (ta : TE) (f : Str) : TE := fun σ H Q => ta σ H fun x H1 => tFldq K f Q x H1
/-- e.f, a constant of the class -/
inductive tConq (K : PySem.W.Frag) (f : Str) (Q : VK) (x : V) (H1 : Hp) : Prop
  | mk (a C dx fs v u : _) (_ : x = .ref a) (_ : H1 a = some (.ins C dx fs)) (_ : Cls K C) (_ : Con K C f v u) (_ : fs.lookup f = none) (_ : Q v H1) : tConq K f Q x H1
def tCon (K : PySem.W.Frag) (ta : TE) (f : Str) : TE := fun σ H Q => ta σ H fun x H1 => tConq K f Q x H1
/-- e.f = value -/
def sFld (K : PySem.W.Frag) (ta tv : TE) (f : Str) : TS := fun D σ H => tv σ H fun y H1 => ta σ H1 fun x H2 => ∃ a C dx fs, x = .ref a ∧ H2 a = some (.ins C dx fs) ∧ Cls K C ∧ NoAttr K C f ∧ fs.length < 1000 ∧
  D.nx σ (upd H2 a (.ins C dx (putF f y fs)))
/-- an augmented operator on two values -/
def InOp (X : Cx) (op : Operator) (rd : V → V → Hp → VK → Prop) : Prop :=
  ∀ (pins : List (Addr × Obj)) (s : Shared) (σ : St) (H : Hp) (x y : V) (u v : Value) (Q : VK), Inv X pins σ H s → RelV x u → RelV y v → rd x y H Q → wpAny (model X.prog X.w) X.A (inplaceOp op u v) (EP X pins σ Q) X.xe s
/-- e.f op= value -/
def sFldAug (K : PySem.W.Frag) (ta tv : TE) (rd : V → V → Hp → VK → Prop) (f : Str) : TS := fun D σ H => ta σ H fun x H1 => ∃ a C dx fs v, x = .ref a ∧ H1 a = some (.ins C dx fs) ∧ Cls K C ∧ NoAttr K C f ∧ fs.lookup f = some v ∧
  tv σ H1 fun y H2 => rd v y H2 fun z H3 => ∃ dx' fs', H3 a = some (.ins C dx' fs') ∧ fs'.length < 1000 ∧ D.nx σ (upd H3 a (.ins C dx' (putF f z fs')))

section
variable {X : Cx} {o e value : Expr} {f : Str} {pos pos' tpos : Pos} {ta tv : TE}
theorem pe_fld (he : PE X e ta) (hb : attributeBase e f X.env (eval e X.env) = eval e X.env) : PE X (.Attribute e f pos) (tFld X.K ta f) := by
  intro pins s σ H Q I h
  refine attr_of hb (thn (he pins s σ H _ I h) fun u s1 ⟨x, H1, I1, rx, a, C, dx, fs, v, ex, ea, c, n, l, q⟩ => ?_)
  subst ex
  obtain rfl : u = Value.ref a := rx
  exact getattr_ok I1 ea c n l fun u' s2 I2 ru => ⟨v, H1, I2, ru, q⟩
theorem ps_fld (ha : PE X o ta) (hv : PE X value tv) (hs : swapsWith value (some (.Attribute o f pos')) pos.line X.env = pure false) : PS X (.Assign [.Attribute o f pos'] value pos) (sFld X.K ta tv f) := by
  intro pins s σ H D I h
  refine plainObj_wpAny_Assign_Attribute (thn (hv pins s σ H _ I h) fun u s1 ⟨y, H1, I1, ry, q⟩ => thn (ha pins s1 σ H1 _ I1 q) fun ov s2 ⟨x, H2, I2, rx, a, C, dx, fs, ex, ea, c, n, l, q2⟩ => ?_) hs
  subst ex
  obtain rfl : ov = Value.ref a := rx
  exact setattr_ok I2 ea c n l ry fun s3 I3 => ⟨σ, _, I3, q2⟩
inductive rAdd  (x : V) (y : V) (H : Hp) (Q : VK) : Prop
  | mk (i j : _) (_ : x = .int i) (_ : y = .int j) (_ : Q (.int (i + j)) H) : rAdd x y H Q
inductive rSub  (x : V) (y : V) (H : Hp) (Q : VK) : Prop
  | mk (i j : _) (_ : x = .int i) (_ : y = .int j) (_ : Q (.int (i - j)) H) : rSub x y H Q
end

/-! ### isinstance -/
section
variable {X : Cx} {pins : List (Addr × Obj)} {σ : St} {H : Hp} {s : Shared} {A : Around} {E : Value → Shared → Prop} {Q : Value → Shared → Prop} {c : Value} {b : Bool}
/-- the type of a value, as the fragment's deciders take it; for an instance its class -/
inductive TyOf (K : PySem.W.Frag) (H : Hp) : V → Value → Prop where
  | non : TyOf K H .non (.type "NoneType")
  | bl (x : Bool) : TyOf K H (.bl x) (.type "bool")
  | int (i : Int) : TyOf K H (.int i) (.type "int")
  | str (x : Str) : TyOf K H (.str x) (.type "str")
  | flt (x : UInt64) : TyOf K H (.flt x) (.type "float")
  | lst {a : Addr} {xs : List V} (e : H a = some (.lst xs)) : TyOf K H (.ref a) (.type "list")
  | frz {a : Addr} {o : Obj} {xs : List V} (e : H a = some (.frz o (.lst xs))) : TyOf K H (.ref a) (.type "list")
  | tup {a : Addr} {xs : List V} (e : H a = some (.tup xs)) : TyOf K H (.ref a) (.type "tuple")
  | dK {a : Addr} {kvs : List (Key × V)} (e : H a = some (.dK kvs)) : TyOf K H (.ref a) (.type "dict")
  | dT {a : Addr} {kvs : List (List Key × V)} (e : H a = some (.dT kvs)) : TyOf K H (.ref a) (.type "dict")
  | ins {a C dx : Addr} {fs : List (Str × V)} (e : H a = some (.ins C dx fs)) (cl : Cls K C) (ha : PySem.W.findIn K (.ref C) "__class__" = some (some (.builtin "object.__class__")))
      (hn : PySem.W.specialIn K (.builtin "object.__class__") "__get__" = some (some (.builtin "getset_descriptor.__get__"))) (htk : PySem.W.takesIn K (.builtin "object.__class__") = some true)
      (hm : PySem.W.mroIn K C (.type "object") = some true) : TyOf K H (.ref a) (.ref C)
/-- isinstance(x, c) for one class c, a built-in or an own one: kitOne's answer -/
theorem isinst_ok {x : V} {u t : Value} (I : Inv X pins σ H s) (rx : RelV x u) (ty : TyOf X.K H x t) (e : PySem.W.kitOne X.K t c = some b) (h : ∀ tk, Q (.bool b) { s with toks := tk }) :
    wpAny (model X.prog X.w) A (call (.builtin "isinstance") [u, c]) Q E s := by
  cases ty with
  | non => cases (show u = Value.none from rx); exact PySem.W.kia_one PySem.W.kitx_none I.kIn True.intro e (fun z => nomatch z) h
  | bl y => cases (show u = Value.bool y from rx); exact PySem.W.kia_one PySem.W.kitx_bool I.kIn True.intro e (fun z => nomatch z) h
  | int i => obtain ⟨t, q⟩ := (show ∃ t, u = Value.int i t from rx); cases q; exact PySem.W.kia_one PySem.W.kitx_int I.kIn True.intro e (fun z => nomatch z) h
  | str y => obtain ⟨t, q⟩ := (show ∃ t, u = Value.str y t from rx); cases q; exact PySem.W.kia_one PySem.W.kitx_str I.kIn True.intro e (fun z => nomatch z) h
  | flt y => obtain ⟨t, q⟩ := (show ∃ t, u = Value.float y t from rx); cases q; exact PySem.W.kia_one PySem.W.kitx_float I.kIn True.intro e (fun z => nomatch z) h
  | @lst a xs ea =>
    cases (show u = Value.ref a from rx)
    obtain ⟨_, _, n, _, h1⟩ := (show ObjOk X.prog X.w H s.heap a (.lst xs) from I.hok a _ ea)
    exact PySem.W.kia_one PySem.W.kitx_list I.kIn ⟨_, h1, rfl⟩ e (fun z => nomatch z) h
  | @frz a ob xs ea =>
    cases (show u = Value.ref a from rx)
    obtain ⟨_, _, _, n, _, h1⟩ := (show ObjOk X.prog X.w H s.heap a (.frz ob (.lst xs)) from I.hok a _ ea)
    exact PySem.W.kia_one PySem.W.kitx_list I.kIn ⟨_, h1, rfl⟩ e (fun z => nomatch z) h
  | @tup a xs ea =>
    cases (show u = Value.ref a from rx)
    obtain ⟨_, _, _, p⟩ := (show ObjOk X.prog X.w H s.heap a (.tup xs) from I.hok a _ ea)
    obtain ⟨o, h1, h2, _⟩ := p
    exact PySem.W.kia_one PySem.W.kitx_tuple I.kIn ⟨o, h1, h2⟩ e (fun z => nomatch z) h
  | @dK a kvs ea =>
    cases (show u = Value.ref a from rx)
    obtain ⟨_, _, vs, _, p⟩ := (show ObjOk X.prog X.w H s.heap a (.dK kvs) from I.hok a _ ea)
    obtain ⟨o, es, ep, h1, h2, _⟩ := p
    exact PySem.W.kia_one PySem.W.kitx_dict I.kIn ⟨o, h1, h2.1⟩ e (fun z => nomatch z) h
  | @dT a kvs ea =>
    cases (show u = Value.ref a from rx)
    obtain ⟨_, _, xs, _, o, es, ep, h1, h2, _⟩ := (show ObjOk X.prog X.w H s.heap a (.dT kvs) from I.hok a _ ea)
    exact PySem.W.kia_one PySem.W.kitx_dict I.kIn ⟨o, h1, h2.1⟩ e (fun z => nomatch z) h
  | @ins a C dx fs ea cl ha hn htk hm =>
    cases (show u = Value.ref a from rx)
    obtain ⟨mA, O, _⟩ := ins_get I.hok ea
    obtain ⟨od, J, _⟩ := O.look
    exact PySem.W.kia_one (PySem.W.kitx_own (cl.get _) cl.hd ha hn htk hm) I.kIn J e (fun z => nomatch z) h
end
end L2

namespace L2
open PySem PySem.Spec PyProof.Rows

/-! ### room -/
structure Room (k : Nat) (A : Around) : Prop where
  hd : A.handled = none
  dp : A.depth + 3 * k + 5 < recursionLimit
  un : A.units + 16 * k + 200 < cLine
theorem Room.mono {j k : Nat} {A : Around} (r : Room k A) (h : j ≤ k) : Room j A := ⟨r.hd, by have := r.dp; omega, by have := r.un; omega⟩
theorem Room.deeper {k : Nat} {A : Around} (r : Room (k + 1) A) (env : Env) : Room k (A.deeper env) :=
  ⟨r.hd, by have := r.dp; show A.depth + 1 + 3 * k + 5 < _; omega, by have := r.un; show A.units + 3 + 16 * k + 200 < _; omega⟩
theorem make_depth {A : Around} {C : Addr} {us : List Value} {kw : List (Str × Value)} : (A.under (.builtin "type.__call__" ⟨.ref C :: us, kw⟩)).depth = A.depth + 1 := by
  first | rfl | simp [Around.under, Code.weight, Code.isCreation, Code.isGuard, Code.isCaller, Code.frames, Code.isFrame, guardIds]
theorem make_units {A : Around} {C : Addr} {us : List Value} {kw : List (Str × Value)} : (A.under (.builtin "type.__call__" ⟨.ref C :: us, kw⟩)).units = A.units + 1 := by
  first | rfl | simp [Around.under, Code.cUnits, Code.frames, Code.isFrame]
theorem Room.make {k : Nat} {A : Around} (r : Room (k + 1) A) (C : Addr) (us : List Value) (kw : List (Str × Value)) : Room k (A.under (.builtin "type.__call__" ⟨.ref C :: us, kw⟩)) :=
  ⟨r.hd, by have := r.dp; rw [make_depth]; omega, by have := r.un; rw [make_units]; omega⟩
theorem Room.depth {k : Nat} {A : Around} (r : Room k A) : A.depth < recursionLimit := by have := r.dp; omega
theorem Room.units {k : Nat} {A : Around} (r : Room k A) : A.units + 64 < cLine := by have := r.un; omega
/-! ### argument lists and displays -/
def tNil : TA := fun _ H Q => Q [] H
def tCons (ta : TE) (tr : TA) : TA := fun σ H Q => ta σ H fun x H1 => tr σ H1 fun xs H2 => Q (x :: xs) H2
section
variable {X : Cx} {e : Expr} {es : List Expr} {te : TE} {t : TA} {pos : Pos}
theorem pa_nil : PA X [] tNil := fun _ _ _ _ H Q I h => Calls.spliced_nil ⟨[], H, I, .nil, h⟩
theorem pa_cons (ha : PE X e te) (hr : PA X es t) (hs : starEach (e :: es) X.env = (false, eval e X.env) :: starEach es X.env := by rfl) : PA X (e :: es) (tCons te t) := by
  intro pos pins s σ H Q I h
  rw [hs]
  show wpAny _ _ (spliced ((false, eval e X.env) :: backTo pos (starEach es X.env))) _ _ s
  refine Calls.spliced_cons (thn (ha pins s σ H _ I h) fun u s1 ⟨x, H1, I1, r1, q1⟩ => ?_)
  exact thn (hr pos pins s1 σ H1 _ I1 q1) fun us s2 ⟨xs, H2, I2, r2, q2⟩ => ⟨x :: xs, H2, I2, .cons r1 r2, q2⟩

/-- a tuple, a list of written items -/
def tTup (t : TA) : TE := fun σ H Q => t σ H fun xs H1 => xs.length ≤ sizeLine ∧ ∀ p, H1 p = none → Q (.ref p) (upd H1 p (.tup xs))
def tLst (t : TA) : TE := fun σ H Q => t σ H fun xs H1 => xs.length ≤ sizeLine ∧ ∀ p, H1 p = none → Q (.ref p) (upd H1 p (.lst xs))
theorem pe_tup {x1} (h : PA X es t) : PE X (.Tuple es x1 pos) (tTup t) := by
  intro pins s σ H Q I hq
  refine wpAny_Tuple_spliced (thn (h pos pins s σ H _ I hq) fun us s1 ⟨xs, H1, I1, r, z, q⟩ => ⟨by rw [← r.length]; exact z, ?_⟩)
  have hf : H1 s1.heap.objs.size = none := I1.hok.fresh (Nat.le_refl _)
  refine ⟨.ref s1.heap.objs.size, upd H1 s1.heap.objs.size (.tup xs), I1.laid (t' := s1.toks) (fun b u e => Heap.get?_push_of_some _ e) (Nat.le_refl _) ?_, rfl, q _ hf⟩
  exact ⟨z, us, r, ⟨_, Heap.get?_push_size _ rfl, rfl, _, rfl⟩⟩
theorem pe_lst (h : PA X es t) : PE X (.List es pos) (tLst t) := by
  intro pins s σ H Q I hq
  refine wpAny_List_spliced (thn (h pos pins s σ H _ I hq) fun us s1 ⟨xs, H1, I1, r, z, q⟩ => ⟨by rw [← r.length]; exact z, ?_⟩)
  have hf : H1 s1.heap.objs.size = none := I1.hok.fresh (Nat.le_refl _)
  refine ⟨.ref s1.heap.objs.size, upd H1 s1.heap.objs.size (.lst xs), I1.laid (t' := s1.toks) (fun b u e => Heap.get?_push_of_some _ e) (Nat.le_refl _) ?_, rfl, q _ hf⟩
  exact ⟨z, us, 0, r, Heap.get?_push_size _ rfl⟩
end

/-! ### what a def promises -/
/-- a def's promise: the bound arguments in the parameters' order, the heap, the wanted end, the wanted exception -/
abbrev Sp := List V → Hp → VK → XK → Prop
/-- how an exception lies behind a call (file 08 gives it): the callers' frames, abstract heap and state ahead of the call, the wish, the exception, the state -/
abbrev CXT := List Env → Hp → Shared → XK → Value → Shared → Prop

/-- the state at a call -/
structure Env0 (P : Program) (w : World) (K : PySem.W.Frag) (mg : Str → Option Value) (base : Heap) (A : Around) (outer : List Env) (s : Shared) (H : Hp) : Prop where
  frames : A.frames = some outer
  mod : Mod K mg base
  bs : ∀ b o, base.get? b = some o → s.heap.get? b = some o ∧ H b = none
  bsz : base.objs.size ≤ s.heap.objs.size
  funs : s.heap.FunFrames base outer
  frf : ∀ b ∈ frs outer, H b = none
  hok : HOk P w H s.heap
  bare : AllBare s.gens
/-- a call's end -/
def CE (outer : List Env) (P : Program) (w : World) (H : Hp) (s : Shared) (Q : VK) (u : Value) (s' : Shared) : Prop :=
  ∃ v H', s'.os = s.os ∧ AllBare s'.gens ∧ Un (frs outer) [] H H' s.heap s'.heap ∧ HOk P w H' s'.heap ∧ RelV v u ∧ Q v H'
def CR (CX : CXT) (outer : List Env) (P : Program) (w : World) (H : Hp) (s : Shared) (Q : VK) (E : XK) (r : Result) (s' : Shared) : Prop :=
  match r with
  | .ok (.ret u) => CE outer P w H s Q u s'
  | .ok _ => False
  | .error e => CX outer H s E e s'
structure FnOk (P : Program) (w : World) (K : PySem.W.Frag) (mg : Str → Option Value) (base : Heap) (CX : CXT) (k : Nat) (f : Addr) (fd : FuncData) (ps : List Str) (sp : Sp) : Prop where
  len : ∀ vs H Q E, sp vs H Q E → vs.length = ps.length
  run : ∀ (A : Around) (outer : List Env) (s : Shared) (H : Hp) (args : Args) (us : List Value) (vs : List V) (Q : VK) (E : XK), Room k A → Env0 P w K mg base A outer s H → BindsTo s fd args (ps.zip us) → Vals vs us → sp vs H Q E →
    codeAny (model P w) A (.call (.ref f) args) (CR CX outer P w H s Q E) s
theorem FnOk.mono {P : Program} {w : World} {K : PySem.W.Frag} {mg : Str → Option Value} {base : Heap} {CX : CXT} {j k : Nat} {f : Addr} {fd : FuncData} {ps : List Str} {sp : Sp} (F : FnOk P w K mg base CX j f fd ps sp) (h : j ≤ k) :
    FnOk P w K mg base CX k f fd ps sp := ⟨F.len, fun A outer s H args us vs Q E hr => F.run A outer s H args us vs Q E (hr.mono h)⟩
theorem Env0.make {P : Program} {w : World} {K : PySem.W.Frag} {mg : Str → Option Value} {base : Heap} {A : Around} {outer : List Env} {s : Shared} {H : Hp} (e : Env0 P w K mg base A outer s H) (C : Addr) (us : List Value) (kw : List (Str × Value)) :
    Env0 P w K mg base (A.under (.builtin "type.__call__" ⟨.ref C :: us, kw⟩)) outer s H := ⟨by first | exact e.frames | (simpa [Around.under, Code.envs, Code.isFrame, pushEnvs] using e.frames), e.mod, e.bs, e.bsz, e.funs, e.frf, e.hok, e.bare⟩
section
variable {X : Cx} {pins : List (Addr × Obj)} {σ : St} {H : Hp} {s s' : Shared}
/-- from a body: what a callee wants -/
theorem Inv.env0 (I : Inv X pins σ H s) : Env0 X.prog X.w X.K X.mg X.base X.A X.stack s H :=
  ⟨I.ok.frames, I.ok.mod, I.bs, Nat.le_trans I.ok.bsz I.sz, I.stack, I.stkFree, I.hok, I.bare⟩
/-- behind a call -/
theorem Inv.after {Q : VK} {u : Value} (I : Inv X pins σ H s) (h : CE X.stack X.prog X.w H s Q u s') : EP X pins σ Q u s' := by
  obtain ⟨v, H', os, bare, un, hok, r, q⟩ := h
  obtain ⟨hh, g, d, t, os'⟩ := s'
  obtain rfl : os' = s.os := os
  exact ⟨v, H', I.call (h' := hh) (g' := g) (d' := d) (t' := t) (ch := []) un hok bare (fun b z => absurd z (by simp)), r, q⟩
end

/-! ### calls -/
/-- f(..): the written arguments, then the defaults dvs; E: what is wanted of an exception -/
def tCall (sp : Sp) (dvs : List V) (E : XK) (t : TA) : TE := fun σ H Q => t σ H fun vs H1 => sp (vs ++ dvs) H1 Q E
/-- o.m(..) of an instance of the class at C -/
inductive tMethq (C : Addr) (m : Str) (sp : Sp) (dvs : List V) (E : XK) (t : TA) (σ : St) (Q : VK) (x : V) (H1 : Hp) : Prop
  | mk (a dx fs : _) (_ : x = .ref a) (_ : H1 a = some (.ins C dx fs)) (_ : fs.lookup m = none) (_ : t σ H1 fun vs H2 => sp (x :: (vs ++ dvs)) H2 Q E) : tMethq C m sp dvs E t σ Q x H1
def tMeth (C : Addr) (m : Str) (sp : Sp) (dvs : List V) (E : XK) (ta : TE) (t : TA) : TE := fun σ H Q => ta σ H fun x H1 => tMethq C m sp dvs E t σ Q x H1
/-- C(..): a new instance and its dict, then __init__ -/
def tMake (C : Addr) (sp : Sp) (dvs : List V) (E : XK) (t : TA) : TE := fun σ H Q => t σ H fun vs H1 => ∀ x dx, H1 x = none → H1 dx = none → dx ≠ x →
  sp (.ref x :: (vs ++ dvs)) (upd (upd H1 dx (.own x)) x (.ins C dx [])) (fun v H2 => v = .non ∧ Q (.ref x) H2) E

/-- how the parameters are bound: us the positional arguments, kw the keywords' values by name, ds the defaults that fill up -/
def Binds (K : PySem.W.Frag) (fd : FuncData) (ps : List Str) (ds : List Value) : Prop :=
  ∀ (s : Shared) (us : List Value), K.In s.heap → (us ++ ds).length = ps.length → BindsTo s fd ⟨us, []⟩ (ps.zip (us ++ ds))
/-- every parameter is given -/
theorem Binds.all {K : PySem.W.Frag} {fd : FuncData} {ps : List Str} (h : ∀ us : List Value, us.length = ps.length → bindArgs fd ⟨us, []⟩ = pure (ps.zip us)) : Binds K fd ps [] := fun s us _ hl => by
  rw [List.append_nil] at hl ⊢
  exact .of_eq (h us hl)

/-- an exception of a callee reaches what this body wants of exceptions -/
def Passes (CX : CXT) (X : Cx) (E : XK) : Prop := ∀ (pins : List (Addr × Obj)) (σ : St) (H : Hp) (s : Shared) (e : Value) (s' : Shared), Inv X pins σ H s → CX X.stack H s E e s' → X.xe e s'

section
variable {X : Cx} {CX : CXT} {k : Nat} {f C : Addr} {fd : FuncData} {ps : List Str} {sp : Sp} {dvs : List V} {ds : List Value} {E : XK} {x m : Str} {p pos apos : Pos} {e o : Expr} {es : List Expr} {ta : TE} {t : TA}

/-- the callee runs -/
theorem run_fn {pins : List (Addr × Obj)} {σ : St} {H : Hp} {s : Shared} {Q : VK} {us : List Value} {vs : List V} (F : FnOk X.prog X.w X.K X.mg X.base CX k f fd ps sp) (hr : Room k X.A) (hb : Binds X.K fd ps ds) (hd : Vals dvs ds) (hx : Passes CX X E)
    (I : Inv X pins σ H s) (r : Vals vs us) (h : sp (vs ++ dvs) H Q E) : wpAny (model X.prog X.w) X.A (call (.ref f) us) (EP X pins σ Q) X.xe s := by
  have r2 : Vals (vs ++ dvs) (us ++ ds) := r.append hd
  have hl : (us ++ ds).length = ps.length := by rw [← r2.length]; exact F.len _ _ _ _ h
  refine wpAny_call (codeAny_mono (F.run X.A X.stack s H ⟨us, []⟩ (us ++ ds) (vs ++ dvs) Q E hr I.env0 (hb s us I.kIn hl) r2 h) fun r s' hq => ?_)
  cases r with
  | error e => exact hx pins σ H s e s' I hq
  | ok fl =>
    cases fl with
    | ret u => exact I.after hq
    | next => exact False.elim hq
    | brk => exact False.elim hq
    | cont => exact False.elim hq

theorem pe_call (F : FnOk X.prog X.w X.K X.mg X.base CX k f fd ps sp) (hr : Room k X.A) (hg : Gl X x) (hm : X.mg x = some (.ref f)) (hk : PySem.W.keepIn X.K (.ref f) = true) (hb : Binds X.K fd ps ds) (hd : Vals dvs ds) (hx : Passes CX X E)
    (ha : PA X (e :: es) t) (hdb : (x == ("__debug__" : Str)) = false := by decide) (he : starEach (e :: es) X.env = (false, eval e X.env) :: starEach es X.env := by rfl) (hpl : (backTo pos (starEach es X.env)).any (·.1) = false := by rfl) :
    PE X (.Call (.Name x p) (e :: es) [] pos) (tCall sp dvs E t) := by
  intro pins s σ H Q I h
  refine wpAny_Call_Name_kw (ld_glob I hg hm ?_ hdb)
  refine PySem.W.callWith_K (h₀ := X.base) I.ok.mod.kin hk (thn (ha pos pins s σ H _ I h) fun us s1 ⟨vs, H1, I1, r, q⟩ => ⟨I1.kIn, ?_⟩) he hpl
  exact run_fn F hr hb hd hx I1 r q
/-- what a class must have to be made -/
structure Mk (K : PySem.W.Frag) (C f : Addr) : Prop where
  makes : PySem.W.makesIn K C = true
  init : PySem.W.findIn K (.ref C) "__init__" = some (some (.ref f))
  fn : PySem.W.isFn K (.ref f) = true
  kp : PySem.W.keepIn K (.ref C) = true

theorem run_make {pins : List (Addr × Obj)} {σ : St} {H : Hp} {s : Shared} {Q : VK} {us : List Value} {vs : List V} (M : Mk X.K C f) (F : FnOk X.prog X.w X.K X.mg X.base CX k f fd ps sp) (hr : Room (k + 1) X.A) (hb : Binds X.K fd ps ds) (hd : Vals dvs ds)
    (hx : Passes CX X E) (I : Inv X pins σ H s) (r : Vals vs us)
    (h : ∀ x dx, H x = none → H dx = none → dx ≠ x → sp (.ref x :: (vs ++ dvs)) (upd (upd H dx (.own x)) x (.ins C dx [])) (fun v H2 => v = .non ∧ Q (.ref x) H2) E) :
    wpAny (model X.prog X.w) X.A (call (.ref C) us) (EP X pins σ Q) X.xe s := by
  have hq := h (s.heap.objs.size + 1) s.heap.objs.size (I.hok.fresh (Nat.le_succ _)) (I.hok.fresh (Nat.le_refl _)) (Nat.ne_of_lt (Nat.lt_succ_self _))
  have I2 := Inv.made (C := C) I
  have r2 : Vals (V.ref (s.heap.objs.size + 1) :: (vs ++ dvs)) (Value.ref (s.heap.objs.size + 1) :: (us ++ ds)) := .cons rfl (r.append hd)
  have hl : (Value.ref (s.heap.objs.size + 1) :: us ++ ds).length = ps.length := by
    have e := r2.length
    rw [F.len _ _ _ _ hq] at e
    exact e.symm
  refine wpAny_call (make_map (f := f) I.kIn M.makes M.init (beq_iff_eq.mp M.fn) (codeAny_mono (F.run _ X.stack _ _ ⟨Value.ref (s.heap.objs.size + 1) :: us, []⟩ (Value.ref (s.heap.objs.size + 1) :: (us ++ ds)) _ _ E (hr.make C us [])
    (I2.env0.make C us []) (hb _ (Value.ref (s.heap.objs.size + 1) :: us) I2.kIn hl) r2 hq) fun r s' hq' => ?_))
  cases r with
  | error e => exact hx pins σ _ _ e s' I2 hq'
  | ok fl =>
    cases fl with
    | ret u =>
      obtain ⟨v, H', I3, rv, ev, q3⟩ := I2.after hq'
      subst ev
      exact ⟨rv, ⟨V.ref (s.heap.objs.size + 1), H', I3, rfl, q3⟩⟩
    | next => exact False.elim hq'
    | brk => exact False.elim hq'
    | cont => exact False.elim hq'
theorem pe_make (M : Mk X.K C f) (F : FnOk X.prog X.w X.K X.mg X.base CX k f fd ps sp) (hr : Room (k + 1) X.A) (hg : Gl X x) (hm : X.mg x = some (.ref C)) (hb : Binds X.K fd ps ds) (hd : Vals dvs ds) (hx : Passes CX X E)
    (ha : PA X (e :: es) t) (hdb : (x == ("__debug__" : Str)) = false := by decide) (he : starEach (e :: es) X.env = (false, eval e X.env) :: starEach es X.env := by rfl) (hpl : (backTo pos (starEach es X.env)).any (·.1) = false := by rfl) :
    PE X (.Call (.Name x p) (e :: es) [] pos) (tMake C sp dvs E t) := by
  intro pins s σ H Q I h
  refine wpAny_Call_Name_kw (ld_glob I hg hm ?_ hdb)
  refine PySem.W.callWith_K (h₀ := X.base) I.ok.mod.kin M.kp (thn (ha pos pins s σ H _ I h) fun us s1 ⟨vs, H1, I1, r, q⟩ => ⟨I1.kIn, ?_⟩) he hpl
  exact run_make M F hr hb hd hx I1 r q
end

/-! ### keywords -/
/-- the values of the keywords, from the left -/
def PK (X : Cx) (kws : List Keyword) (t : TA) : Prop :=
  ∀ (pos : Pos) (pins : List (Addr × Obj)) (s : Shared) (σ : St) (H : Hp) (Q : List V → Hp → Prop), Inv X pins σ H s → t σ H Q → wpAny (model X.prog X.w) X.A (evalAll ((backToKw pos (keywordEach kws X.env)).map (·.2))) (AP X pins σ Q) X.xe s
section
variable {X : Cx} {CX : CXT} {k : Nat} {f C : Addr} {fd : FuncData} {ps ks : List Str} {sp : Sp} {E : XK} {x m : Str} {p pos apos kpos : Pos} {e o : Expr} {es : List Expr} {kws : List Keyword} {te ta : TE} {t tk : TA} {nm : Option Str}
/-- how a call with keywords binds: g puts the positional values us and the keywords' values ws (names ks) in the parameters' order, defaults among them -/
structure KBinds (K : PySem.W.Frag) (fd : FuncData) (ps ks : List Str) (g : List Value → List Value → List Value) (gV : List V → List V → List V) : Prop where
  to : ∀ (s : Shared) (us ws : List Value), K.In s.heap → (g us ws).length = ps.length → BindsTo s fd ⟨us, ks.zip ws⟩ (ps.zip (g us ws))
  rel : ∀ {vs : List V} {us : List Value} {zs : List V} {ws : List Value}, Vals vs us → Vals zs ws → Vals (gV vs zs) (g us ws)
def tCallK (sp : Sp) (gV : List V → List V → List V) (E : XK) (t tk : TA) : TE := fun σ H Q => t σ H fun vs H1 => tk σ H1 fun zs H2 => sp (gV vs zs) H2 Q E
variable {g : List Value → List Value → List Value} {gV : List V → List V → List V}
end

/-! ### a def's body keeps its promise -/
/-- names: the parameters first -/
structure FnScope (N P : List Str) (sc : Scope) : Prop where
  kind : sc.kind = .function
  co : sc.isCoroutine = false
  gen : sc.isGenerator = false
  nd : N.Nodup
  pre : N.take P.length = P
  par : ∀ x ∈ P, sc.names.lookup x = some .local ∨ sc.names.lookup x = some .cell
  nofree : ∀ y ∈ sc.names, y.2 ≠ .free

theorem bindL_out {kindOf : Str → Option NameKind} {x : Str} : ∀ {binds : List (Str × Value)} {m : Str → Option Value}, (∀ v, (x, v) ∉ binds) → bindL kindOf binds m x = m x
  | [], _, _ => rfl
  | (n, v) :: r, m, h => by
    unfold bindL
    rw [bindL_out fun w hw => h w (List.mem_cons_of_mem _ hw)]
    split
    · have : x ≠ n := by rintro rfl; exact h v List.mem_cons_self
      simp [this]
    · rfl
theorem bindC_out {kindOf : Str → Option NameKind} {x : Str} : ∀ {binds : List (Str × Value)} {m : Str → Option Value}, (∀ v, (x, v) ∉ binds) → bindC kindOf binds m x = m x
  | [], _, _ => rfl
  | (n, v) :: r, m, h => by
    unfold bindC
    rw [bindC_out fun w hw => h w (List.mem_cons_of_mem _ hw)]
    split
    · rfl
    · have : x ≠ n := by rintro rfl; exact h v List.mem_cons_self
      simp [this]
theorem bindL_get {kindOf : Str → Option NameKind} {x : Str} {v : Value} : ∀ {P : List Str} {vs : List Value} {i : Nat} {m : Str → Option Value}, P.Nodup → P[i]? = some x → vs[i]? = some v → kindOf x = some .local →
    bindL kindOf (P.zip vs) m x = some v
  | [], _, _, _, _, h, _, _ => by simp at h
  | _ :: _, [], _, _, _, _, h, _ => by simp at h
  | p :: P, w :: vs, 0, m, nd, h1, h2, hk => by
    simp at h1 h2; subst h1; subst h2
    show bindL kindOf ((p, w) :: P.zip vs) m p = _
    unfold bindL
    rw [bindL_out fun v hv => (List.nodup_cons.mp nd).1 (List.of_mem_zip hv).1, if_pos hk]
    simp
  | p :: P, w :: vs, i + 1, m, nd, h1, h2, hk => by
    show bindL kindOf ((p, w) :: P.zip vs) m x = _
    unfold bindL
    exact bindL_get (i := i) (List.nodup_cons.mp nd).2 (by simpa using h1) (by simpa using h2) hk
theorem bindC_get {kindOf : Str → Option NameKind} {x : Str} {v : Value} : ∀ {P : List Str} {vs : List Value} {i : Nat} {m : Str → Option Value}, P.Nodup → P[i]? = some x → vs[i]? = some v → kindOf x ≠ some .local →
    bindC kindOf (P.zip vs) m x = some v
  | [], _, _, _, _, h, _, _ => by simp at h
  | _ :: _, [], _, _, _, _, h, _ => by simp at h
  | p :: P, w :: vs, 0, m, nd, h1, h2, hk => by
    simp at h1 h2; subst h1; subst h2
    show bindC kindOf ((p, w) :: P.zip vs) m p = _
    unfold bindC
    rw [bindC_out fun v hv => (List.nodup_cons.mp nd).1 (List.of_mem_zip hv).1, if_neg hk]
    simp
  | p :: P, w :: vs, i + 1, m, nd, h1, h2, hk => by
    show bindC kindOf ((p, w) :: P.zip vs) m x = _
    unfold bindC
    exact bindC_get (i := i) (List.nodup_cons.mp nd).2 (by simpa using h1) (by simpa using h2) hk

/-- the names' values at the entry -/
def start (N : List Str) (vs : List V) : St := vs.map some ++ List.replicate (N.length - vs.length) none

/-- the context of a def's body, at its entry; an exception leaves the frame, then lies as CX says -/
def cxOf (CX : CXT) (P : Program) (w : World) (K : PySem.W.Frag) (mg : Str → Option Value) (base : Heap) (N : List Str) (qual : Str) (scope : Scope) (f : Addr) (cd : Value) (A : Around) (outer : List Env) (s : Shared) (H : Hp) (E : XK) : Cx where
  prog := P
  w := w
  K := K
  mg := mg
  base := base
  A := A.deeper (envOfC qual scope s.heap.objs.size f cd)
  N := N
  s₀ := s
  H₀ := H
  env := envOfC qual scope s.heap.objs.size f cd
  outer := outer
  stack := envOfC qual scope s.heap.objs.size f cd :: outer
  ex := []
  calm := true
  fn := fun _ => true
  pn := []
  xe := fun e s' => wpAny (model P w) (A.deeper (envOfC qual scope s.heap.objs.size f cd)) (leaving (envOfC qual scope s.heap.objs.size f cd) e) (fun _ s'' => CX outer H s E e s'') (fun e' s'' => CX outer H s E e' s'') s'

theorem cell_has {sc : Scope} {n : Nat} {x : Str} (h : sc.names.lookup x = some .cell) : ∃ c, (cellsFrom n sc.names []).lookup x = some c := by
  have q := PySem.W.cellsFrom_some sc.names n [] (.inl h)
  exact Option.isSome_iff_exists.mp q

theorem inv_start {CX : CXT} {P : Program} {w : World} {K : PySem.W.Frag} {mg : Str → Option Value} {base : Heap} {N ps : List Str} {qual : Str} {scope : Scope} {f : Addr} {cd : Value} {A : Around} {outer : List Env} {s s1 : Shared} {H : Hp} {E : XK} {us : List Value} {vs : List V}
    (S : FnScope N ps scope) (hd : A.handled = none) (e0 : Env0 P w K mg base A outer s H) (hl : vs.length = ps.length) (r : Vals vs us)
    (x : InCallC s s.heap.objs.size (bindL (envOfC qual scope s.heap.objs.size f cd).kindOf (ps.zip us) fun _ => none) (cellsFrom (s.heap.objs.size + 1) scope.names []) (bindC (envOfC qual scope s.heap.objs.size f cd).kindOf (ps.zip us) fun _ => none) s1) :
    Inv (cxOf CX P w K mg base N qual scope f cd A outer s H E) [] (start N vs) H s1 := by
  have hpl : ps.length ≤ N.length := by have := congrArg List.length S.pre; rw [List.length_take] at this; omega
  obtain ⟨h1, tk, rfl, hk⟩ := x.done
  have noA : ∀ b : Addr, b ∉ (cxOf CX P w K mg base N qual scope f cd A outer s H E).ex := fun b z => absurd (show b ∈ ([] : List Addr) from z) (by simp)
  refine ⟨⟨e0.mod, S.kind, rfl, rfl, Nat.le_refl _, fun y z c h1 h2 => ?_, fun y hy => ?_, fun y c _ h => ?_, fun _ => hd, Around.frames_deeper e0.frames, .inr ⟨rfl, rfl⟩, fun b z => absurd z (noA b), e0.bs, e0.bsz, fun b _ _ => noA b, fun b z => absurd z (noA b), e0.funs, e0.frf⟩,
    rfl, e0.bare, Un.kept hk, ⟨_, x.toInCall.ns, fun i y v h1 h2 h3 => ?_⟩, fun y c h => ⟨_, x.cell y c h⟩, e0.hok.fresh (Nat.le_refl _), fun y c h => ?_, fun p hp => absurd (show p ∈ ([] : List (Addr × Obj)) from hp) (by simp), e0.hok.kept hk, ?_⟩
  · exact name_of_addr x.apart (PySem.mem_of_lookup h1) (PySem.mem_of_lookup h2)
  · have hy : scope.names.lookup y = some .cell ∨ scope.names.lookup y = some .free := hy
    rcases hy with hy | hy
    · exact cell_has hy
    · exact absurd rfl (S.nofree _ (PySem.mem_of_lookup hy))
  · exact Nat.le_of_lt (x.above y c (PySem.mem_of_lookup h))
  · have hi : i < vs.length := by
      unfold start at h2
      by_cases hi : i < vs.length
      · exact hi
      · rw [List.getElem?_append_right (by simpa using hi)] at h2
        rw [List.getElem?_replicate] at h2
        split at h2 <;> cases h2
    have ha : vs[i]? = some v := by
      unfold start at h2
      rw [List.getElem?_append_left (by simpa using hi), List.getElem?_map] at h2
      cases e : vs[i]? with
      | none => rw [e] at h2; cases h2
      | some a => rw [e] at h2; cases h2; rfl
    obtain ⟨u, hu, rv⟩ := r.get ha
    have hp : ps[i]? = some y := by
      rw [← S.pre, List.getElem?_take_of_lt (by omega)]; exact h1
    have ndP : ps.Nodup := by rw [← S.pre]; exact S.nd.sublist (List.take_sublist _ _)
    refine ⟨u, rv, ?_⟩
    rcases S.par y (List.mem_of_getElem? hp) with k | k
    · exact .inl ⟨k, bindL_get ndP hp hu k⟩
    · obtain ⟨c, e⟩ := cell_has (n := s.heap.objs.size + 1) k
      refine .inr ⟨.inl k, c, e, ?_⟩
      have q := x.cell y c e
      rw [bindC_get ndP hp hu (by show scope.names.lookup y ≠ _; rw [k]; decide)] at q
      exact q
  · exact e0.hok.fresh (Nat.le_of_lt (x.above y c (PySem.mem_of_lookup h)))
  · unfold start
    show _ = N.length
    rw [List.length_append, List.length_map, List.length_replicate]
    omega

/-- THE RULE: a def (or a method) of the text, by its body. The body's reading t is chosen for each entry; it is run at the parameters' values -/
theorem fn_of {CX : CXT} {P : Program} {w : World} {K : PySem.W.Frag} {mg : Str → Option Value} {base : Heap} {k : Nat} {f : Addr} {name qual : Str} {params : Arguments} {body : List Stmt} {scope : Scope} {dV kV doc pm cdv ct oc : Value} {an od : Option Addr}
    {osl : Array (Option Value)} {N ps : List Str} {sp : Sp} (lk : K.lookup f = some ⟨oc, od, .func (PySem.W.fnOf name qual params body scope dV kV doc pm an cdv ct), osl⟩) (hcd : PySem.W.codeIn K cdv qual = true) (S : FnScope N ps scope)
    (len : ∀ vs H Q E, sp vs H Q E → vs.length = ps.length)
    (hbody : ∀ (A : Around) (outer : List Env) (s : Shared) (H : Hp) (vs : List V) (Q : VK) (E : XK), Room k (A.deeper (envOfC qual scope s.heap.objs.size f cdv)) → sp vs H Q E →
      ∃ t, PSs (cxOf CX P w K mg base N qual scope f cdv A outer s H E) body t ∧ t { nx := fun _ H' => Q .non H', rt := Q } (start N vs) H) :
    FnOk P w K mg base CX (k + 1) f (PySem.W.fnOf name qual params body scope dV kV doc pm an cdv ct) ps sp := by
  refine ⟨len, fun A outer s H args us vs Q E hr e0 hb r hsp => ?_⟩
  have hl := len _ _ _ _ hsp
  have KX : K.In s.heap := e0.mod.kin.keeps fun b o e => (e0.bs b o e).1
  have lim : s.heap.NoLimit := e0.mod.nolimit.keeps fun b o e => (e0.bs b o e).1
  have hkind : ∀ y ∈ ps.zip us, scope.names.lookup y.1 = some .local ∨ (scope.names.lookup y.1 = some .cell ∧ ((cellsFrom (s.heap.objs.size + 1) scope.names []).lookup y.1).isSome = true) := fun ⟨n, v⟩ hy => by
    rcases S.par n (List.of_mem_zip hy).1 with q | q
    · exact .inl q
    · exact .inr ⟨q, PySem.W.cellsFrom_some _ _ _ (.inl q)⟩
  refine codeAny_call_function hr.depth (KX _ _ lk) rfl S.co S.gen rfl (PySem.W.codeRec_of KX hcd) (hb _ _ _ _ ?_)
  refine wpAny_newFunctionEnv_cells S.kind hkind fun env he s1 x => ?_
  subst he
  refine ⟨lim.keeps x.toInCall.keep, codeAny_func ?_⟩
  obtain ⟨t, ht, hq⟩ := hbody A outer s H vs Q E (hr.deeper _) hsp
  have I : Inv (cxOf CX P w K mg base N qual scope f cdv A outer s H E) [] (start N vs) H s1 := inv_start S hr.hd e0 hl r x
  refine wpAny_mono (ht [] s1 (start N vs) H _ I hq) (fun fl s' hs => ?_) fun e s' hs => hs
  have fin : ∀ {σ' : St} {H' : Hp} {v : V} {u : Value}, Inv (cxOf CX P w K mg base N qual scope f cdv A outer s H E) [] σ' H' s' → RelV v u → Q v H' → CE outer P w H s Q u s' :=
    fun {σ' H' v u} J rv q => ⟨v, H', J.os, J.bare, J.base, J.hok, rv, q⟩
  cases fl with
  | ret u =>
    obtain ⟨v, σ', H', J, rv, q⟩ := hs
    exact fin J rv q
  | next =>
    obtain ⟨σ', H', J, q⟩ := hs
    exact fin (v := V.non) (u := Value.none) J rfl q
  | brk =>
    obtain ⟨_, _, _, q⟩ := hs
    exact False.elim q
  | cont =>
    obtain ⟨_, _, _, q⟩ := hs
    exact False.elim q
end L2

namespace L2
open PySem PySem.Spec PyProof.Rows
section
variable {X : Cx} {x : Str} {p pos : Pos} {e : Expr} {es : List Expr} {t : TA} {id T : String} {r : List V → Hp → VK → Prop}

def tCB (r : List V → Hp → VK → Prop) (t : TA) : TE := fun σ H Q => t σ H fun vs H1 => r vs H1 Q
/-- f(e, ..), f a built-in function -/
theorem pe_callB (hc : CallR X (.builtin id) r) (hg : Gl X x) (hm : X.mg x = none) (hv : bootBuiltins x = some (.builtin id)) (ha : PA X (e :: es) t) (hn : x ≠ "__name__" := by decide) (hdb : (x == ("__debug__" : Str)) = false := by decide)
    (he : starEach (e :: es) X.env = (false, eval e X.env) :: starEach es X.env := by rfl) (hpl : (backTo pos (starEach es X.env)).any (·.1) = false := by rfl) : PE X (.Call (.Name x p) (e :: es) [] pos) (tCB r t) := by
  intro pins s σ H Q I h
  refine wpAny_Call_Name_kw (ld_blt I hg hm hv ?_ hn hdb)
  exact PyProof.Rows.callWith_builtin1 (thn (ha pos pins s σ H _ I h) fun us s1 ⟨vs, H1, I1, r1, q1⟩ => hc pins s1 σ H1 vs us Q I1 r1 q1) he hpl
/-- T(e, ..), T a built-in type -/
theorem pe_callTy (hc : CallR X (.type T) r) (hg : Gl X x) (hm : X.mg x = none) (hv : bootBuiltins x = some (.type T)) (ha : PA X (e :: es) t) (hn : x ≠ "__name__" := by decide) (hdb : (x == ("__debug__" : Str)) = false := by decide)
    (he : starEach (e :: es) X.env = (false, eval e X.env) :: starEach es X.env := by rfl) (hpl : (backTo pos (starEach es X.env)).any (·.1) = false := by rfl) : PE X (.Call (.Name x p) (e :: es) [] pos) (tCB r t) := by
  intro pins s σ H Q I h
  refine wpAny_Call_Name_kw (ld_blt I hg hm hv ?_ hn hdb)
  exact PyProof.Rows.callWith_type1 (thn (ha pos pins s σ H _ I h) fun us s1 ⟨vs, H1, I1, r1, q1⟩ => hc pins s1 σ H1 vs us Q I1 r1 q1) he hpl
end
end L2

namespace HT
open PySem PyProof.Rows

/-- t < u of tuples of ints -/
def lexLt : List Int → List Int → Bool
  | [], [] => false
  | [], _ :: _ => true
  | _ :: _, [] => false
  | x :: xs, y :: ys => if x = y then lexLt xs ys else decide (x < y)
section
open PySem.SeqAt
open PySem.AutoSeq1 (wpAny_loadPart')
open PySem.MeetsSeq PySem.MeetsSeq2 PySem.MeetsSeq3

end

section
variable {prog : Program} {w : World} {A : Around} {E : Value → Shared → Prop} {s : Shared}

/-! ### t[a:b], not the whole -/
/-- a slice's bound as a place among n (d where it is left out) -/
def sIx (n d : Nat) : Option Int → Nat
  | none => d
  | some v => if v < 0 then (v + (n : Int)).toNat else min v.toNat n
theorem sIx_nat (n d k : Nat) : sIx n d (some (k : Int)) = min k n := by
  show (if (k : Int) < 0 then ((k : Int) + (n : Int)).toNat else min (k : Int).toNat n) = min k n
  rw [if_neg (by omega), Int.toNat_natCast]
end
end HT

namespace L2
open PySem PySem.Spec PyProof.Rows

/-! ### the parts of a slice -/
abbrev TO := St → Hp → (Option Int → Hp → Prop) → Prop
/-- a slice's part (left out, or an int) -/
def PO (X : Cx) (e : Option Expr) (t : TO) : Prop :=
  ∀ (pins : List (Addr × Obj)) (s : Shared) (σ : St) (H : Hp) (Q : Option Int → Hp → Prop), Inv X pins σ H s → t σ H Q →
    wpAny (model X.prog X.w) X.A (evalPart e X.env) (fun u s' => ∃ o H', Inv X pins σ H' s' ∧ IsPart u o ∧ Q o H') X.xe s
def tNoPart : TO := fun _ H Q => Q none H
inductive tPartq  (Q : Option Int → Hp → Prop) (x : V) (H1 : Hp) : Prop
  | mk (i : _) (_ : x = .int i) (_ : Q (some i) H1) : tPartq Q x H1
def tPart (t : TE) : TO := fun σ H Q => t σ H fun x H1 => tPartq Q x H1

section
variable {X : Cx} {e : Expr} {te : TE} {lo hi : Option Expr} {tl th : TO} {pos p2 : Pos}

theorem po_none : PO X none tNoPart := by
  intro pins s σ H Q I h
  rw [evalPart_none]
  exact wpAny_pure ⟨none, H, I, .none, h⟩
theorem po_some (h : PE X e te) : PO X (some e) (tPart te) := by
  intro pins s σ H Q I hw
  rw [evalPart_some]
  refine thn (h pins s σ H _ I hw) fun u s1 ⟨x, H1, I1, r1, q1⟩ => ?_
  obtain ⟨i, rfl, q⟩ := q1
  obtain ⟨t, rfl⟩ := r1
  exact ⟨some i, H1, I1, .int i t, q⟩

/-- what a slice of a value is, by values: the slice object stands at sl -/
def SlR (X : Cx) (r : V → Option Int → Option Int → Hp → VK → Prop) : Prop :=
  ∀ (pins : List (Addr × Obj)) (s : Shared) (σ : St) (H : Hp) (x : V) (v vl vu : Value) (lo hi : Option Int) (sl : Addr) (Q : VK), Inv X pins σ H s → RelV x v → s.heap.IsSliceOf sl vl vu .none → IsPart vl lo → IsPart vu hi → r x lo hi H Q →
    ∃ T id, typeLookup (.type T) "__getitem__" = pure (some (.builtin id)) ∧ s.TypeIs v T ∧ wpAny (model X.prog X.w) X.A (getItem v (.ref sl)) (EP X pins σ Q) X.xe s
def tSl (r : V → Option Int → Option Int → Hp → VK → Prop) (te : TE) (tl th : TO) : TE := fun σ H Q => te σ H fun x H1 => tl σ H1 fun l H2 => th σ H2 fun u H3 => r x l u H3 Q
/-- a[lo:hi], any a -/
theorem pe_slice {r : V → Option Int → Option Int → Hp → VK → Prop} (hr : SlR X r) (he : PE X e te) (hl : PO X lo tl) (hu : PO X hi th) : PE X (.Subscript e (.Slice lo hi none p2) pos) (tSl r te tl th) := by
  intro pins s σ H Q I h
  refine Subscript_ (thn (he pins s σ H _ I h) fun v s1 ⟨x, H1, I1, r1, q1⟩ => ?_)
  refine wpAny_Slice (thn (hl pins s1 σ H1 _ I1 q1) fun vl s2 ⟨l, H2, I2, pl, q2⟩ => thn (hu pins s2 σ H2 _ I2 q2) fun vu s3 ⟨u, H3, I3, pu, q3⟩ => ?_)
  rw [evalPart_none]
  refine wpAny_pure ?_
  have I4 : Inv X pins σ H3 { s3 with heap := s3.heap.push { cls := .type "slice", data := .fields #[vl, vu, .none] } } := I3.kept (t' := s3.toks) fun b ob q => Heap.get?_push_of_some _ q
  obtain ⟨T, id, hT, ht, hg⟩ := hr pins { s3 with heap := s3.heap.push { cls := .type "slice", data := .fields #[vl, vu, .none] } } σ H3 x v vl vu l u s3.heap.objs.size Q I4 r1 (Heap.IsSliceOf.new ..) pl pu q3
  show wpAny (model X.prog X.w) X.A (subscriptTail e (.Slice lo hi none p2) v (.ref s3.heap.objs.size)) (EP X pins σ Q) X.xe { s3 with heap := s3.heap.push { cls := .type "slice", data := .fields #[vl, vu, .none] } }
  exact tail_any (ops := [.ref s3.heap.objs.size, v]) ht hT hg (by with_unfolding_all rfl)

/-- the items of xs[lo:hi] -/
def cutV (xs : List V) (lo hi : Option Int) : List V := (xs.drop (HT.sIx xs.length 0 lo)).take (HT.sIx xs.length xs.length hi - HT.sIx xs.length 0 lo)
theorem cutV_length (xs : List V) (lo hi : Option Int) : (cutV xs lo hi).length ≤ xs.length := by
  unfold cutV
  rw [List.length_take, List.length_drop]
  omega
/-- t[lo:hi], not the whole of it (the whole would be t itself) -/
inductive rSlT (K : PySem.W.Frag) (x : V) (lo : Option Int) (hi : Option Int) (H : Hp) (Q : VK) : Prop
  | mk (a xs : _) (_ : x = .ref a) (_ : SqT K H a xs) (_ : ¬ (HT.sIx xs.length 0 lo = 0 ∧ HT.sIx xs.length xs.length hi = xs.length)) (_ : ∀ p, H p = none → Q (.ref p) (upd H p (.tup (cutV xs lo hi)))) : rSlT K x lo hi H Q
/-! ### t < u, t + u -/
inductive rLtT (K : PySem.W.Frag) (x : V) (y : V) (H : Hp) (Q : VK) : Prop
  | mk (a b ns ms : _) (_ : x = .ref a) (_ : y = .ref b) (_ : SqT K H a (ns.map V.int)) (_ : SqT K H b (ms.map V.int)) (_ : Q (.bl (HT.lexLt ns ms)) H) : rLtT K x y H Q
/-- t + u, t not empty: u empty gives t itself -/
inductive rCatT (K : PySem.W.Frag) (x : V) (y : V) (H : Hp) (Q : VK) : Prop
  | mk (a b xs ys : _) (_ : x = .ref a) (_ : y = .ref b) (_ : SqT K H a xs) (_ : SqT K H b ys) (_ : xs ≠ []) (_ : xs.length + ys.length ≤ sizeLine) (_ : (ys = [] → Q (.ref a) H)) (_ : (ys ≠ [] → ∀ p, H p = none → Q (.ref p) (upd H p (.tup (xs ++ ys))))) : rCatT K x y H Q
end
end L2

namespace L2
open PySem PySem.Spec PyProof.Rows

/-! ### places -/
/-- the place that an index of any sign means -/
def ixN (n : Nat) (i : Int) : Option Nat := if 0 ≤ i then (if i < n then some i.toNat else none) else if -(n : Int) ≤ i then some (i + n).toNat else none
def atI {α : Type} (xs : List α) (i : Int) : Option α := (ixN xs.length i).bind fun j => xs[j]?
theorem ixN_seq {n : Nat} {i : Int} {j : Nat} (h : ixN n i = some j) : seqIndex? i n = some j ∧ j < n ∧ -(n : Int) ≤ i ∧ i < n := by
  unfold ixN at h
  by_cases h0 : 0 ≤ i
  · rw [if_pos h0] at h
    by_cases h1 : i < n
    · rw [if_pos h1] at h
      have e : i.toNat = j := Option.some.inj h
      exact ⟨by rw [seqIndex_of h0 h1, e], by omega, by omega, h1⟩
    · rw [if_neg h1] at h; cases h
  · rw [if_neg h0] at h
    by_cases h1 : -(n : Int) ≤ i
    · rw [if_pos h1] at h
      have e : (i + n).toNat = j := Option.some.inj h
      exact ⟨by rw [seqIndex_neg (by omega) h1, e], by omega, h1, by omega⟩
    · rw [if_neg h1] at h; cases h
theorem atI_get {α : Type} {xs : List α} {i : Int} {v : α} (h : atI xs i = some v) : ∃ j, seqIndex? i xs.length = some j ∧ xs[j]? = some v ∧ j < xs.length ∧ -(xs.length : Int) ≤ i ∧ i < xs.length := by
  unfold atI at h
  cases e : ixN xs.length i with
  | none => rw [e] at h; cases h
  | some j =>
    rw [e] at h
    obtain ⟨h1, h2, h3, h4⟩ := ixN_seq e
    exact ⟨j, h1, h, h2, h3, h4⟩
theorem atI_nat {α : Type} {xs : List α} {j : Nat} {v : α} (h : xs[j]? = some v) : atI xs (j : Int) = some v := by
  have hj : j < xs.length := (List.getElem?_eq_some_iff.mp h).1
  have e : ixN xs.length (j : Int) = some j := by
    unfold ixN
    rw [if_pos (by omega), if_pos (by omega)]; simp
  unfold atI; rw [e]; exact h
theorem atI_last {α : Type} (xs : List α) (v : α) : atI (xs ++ [v]) (-1) = some v := by
  have hl : (xs ++ [v]).length = xs.length + 1 := by simp
  have e : ixN (xs ++ [v]).length (-1) = some xs.length := by
    unfold ixN
    rw [hl, if_neg (by decide), if_pos (by omega)]
    congr 1
    omega
  unfold atI
  rw [e]
  show (xs ++ [v])[xs.length]? = some v
  simp

/-! ### what may be subscripted -/
/-- what stands as an index of a plain subscript -/
def PlainIx (b : Expr) : Prop := ∀ o i, subscripted b false o i = operate [o, i] (getItem o i)
/-- a subscript by values -/
def IxR (X : Cx) (r : R2) : Prop :=
  ∀ (value slice : Expr) (pins : List (Addr × Obj)) (s : Shared) (σ : St) (H : Hp) (x y : V) (v u : Value) (Q : VK), Inv X pins σ H s → RelV x v → RelV y u → r x y H Q →
    subscripted slice false v u = operate [v, u] (getItem v u) → wpAny (model X.prog X.w) X.A (subscriptTail value slice v u) (EP X pins σ Q) X.xe s
/-- a call of a builtin's method by values: the receiver, the arguments -/
def MtR (X : Cx) (id : String) (r : V → List V → Hp → VK → Prop) : Prop :=
  ∀ (pins : List (Addr × Obj)) (s : Shared) (σ : St) (H : Hp) (x : V) (xs : List V) (v : Value) (us : List Value) (Q : VK), Inv X pins σ H s → RelV x v → Vals xs us → r x xs H Q →
    wpAny (model X.prog X.w) X.A (call (.builtin id) (v :: us)) (EP X pins σ Q) X.xe s
section
variable {X : Cx} {a b : Expr} {ta tb : TE} {pos : Pos}
/-- a[b] -/
theorem pe_ix {r : R2} (hr : IxR X r) (ha : PE X a ta) (hb : PE X b tb) (hs : PlainIx b) : PE X (.Subscript a b pos) (tOp r ta tb) := by
  intro pins s σ H Q I h
  exact Subscript_ (binT ha hb I h fun v u s2 x y H2 I2 rx ry q => hr a b pins s2 σ H2 x y v u Q I2 rx ry q (hs _ _))

inductive rIxL (K : PySem.W.Frag) (x : V) (y : V) (H : Hp) (Q : VK) : Prop
  | mk (p xs i v : _) (_ : x = .ref p) (_ : y = .int i) (_ : SqL K H p xs) (_ : atI xs i = some v) (_ : Q v H) : rIxL K x y H Q
inductive rIxT (K : PySem.W.Frag) (x : V) (y : V) (H : Hp) (Q : VK) : Prop
  | mk (p xs i v : _) (_ : x = .ref p) (_ : y = .int i) (_ : SqT K H p xs) (_ : atI xs i = some v) (_ : Q v H) : rIxT K x y H Q
inductive rIxS  (x : V) (y : V) (H : Hp) (Q : VK) : Prop
  | mk (z i c : _) (_ : x = .str z) (_ : y = .int i) (_ : z.length ≤ sizeLine) (_ : atI z.cps.toList i = some c) (_ : Q (.str ⟨#[c]⟩) H) : rIxS x y H Q
theorem ix_list : IxR X (rIxL X.K) := by
  intro value slice pins s σ H x y v u Q I rx ry h hs
  obtain ⟨p, xs, i, z, rfl, rfl, hq, he, q⟩ := h
  cases rx
  obtain ⟨t, rfl⟩ := ry
  obtain ⟨its, r, pl, hz⟩ := I.list hq
  obtain ⟨j, h1, h2, h3, h4, h5⟩ := atI_get he
  obtain ⟨w, ew, rw'⟩ := r.get h2
  have hl := r.length
  have hn := line63
  have fin : EP X pins σ Q w s := ⟨z, H, I, rw', q⟩
  by_cases h0 : 0 ≤ i
  · have hj : i.toNat = j := by
      rw [seqIndex_of h0 h5] at h1
      exact Option.some.inj h1
    exact item_listR pl.isList h0 (by omega) (by rw [hj]; simpa using ew) fin hs
  · have hj : (i + (its.toArray.size : Int)).toNat = j := by
      rw [seqIndex_neg (by omega) h4] at h1
      rw [List.size_toArray, ← hl]
      exact Option.some.inj h1
    exact subscriptTail_builtinR (x := w) pl.isList.typeIs slot_list_getitem.lookup
      (wpAny_getItem_list_neg (Q := fun r s' => r = w ∧ EP X pins σ Q r s') pl.isList (by omega) (by rw [List.size_toArray] <;> omega) (by omega) (by rw [hj]; simpa using ew) ⟨rfl, fin⟩) hs
theorem ix_tup : IxR X (rIxT X.K) := by
  intro value slice pins s σ H x y v u Q I rx ry h hs
  obtain ⟨p, xs, i, z, rfl, rfl, hq, he, q⟩ := h
  cases rx
  obtain ⟨t, rfl⟩ := ry
  obtain ⟨its, r, pl, hz⟩ := I.tuple hq
  obtain ⟨j, h1, h2, h3, h4, h5⟩ := atI_get he
  obtain ⟨w, ew, rw'⟩ := r.get h2
  have hl := r.length
  have hn := line63
  have fin : EP X pins σ Q w s := ⟨z, H, I, rw', q⟩
  exact subscriptTail_builtinR (x := w) pl.typeIs slot_tuple_getitem.lookup
    (getItem_tuple (j := j) (Q := fun r s' => r = w ∧ EP X pins σ Q r s') pl (by omega) (by omega) (by rw [List.size_toArray, ← hl]; exact h1) (by simpa using ew) ⟨rfl, fin⟩) hs
theorem ix_str : IxR X rIxS := by
  intro value slice pins s σ H x y v u Q I rx ry h hs
  obtain ⟨z, i, c, rfl, rfl, hz, he, q⟩ := h
  obtain ⟨t, rfl⟩ := rx
  obtain ⟨t', rfl⟩ := ry
  obtain ⟨j, h1, h2, h3, h4, h5⟩ := atI_get he
  have hl : z.cps.toList.length = z.length := by simp [Str.length]
  rw [hl] at h1 h4 h5
  have hn := line63
  exact tail_any (typeIs_str s z t) slot_str_getitem.lookup (getItem_str (c := c) (by
    have e1 : decide (i < -(2 ^ 63 : Int)) = false := decide_eq_false (by omega)
    have e2 : decide (i ≥ 2 ^ 63) = false := decide_eq_false (by omega)
    rw [e1, e2, Bool.or_false]) (by rw [h1]; simpa using h2) ⟨.str ⟨#[c]⟩, H, I.tok _, ⟨_, rfl⟩, q⟩) hs
/-- list, tuple or str -/
def rIx (K : PySem.W.Frag) : R2 := fun x y H Q => rIxL K x y H Q ∨ rIxT K x y H Q ∨ rIxS x y H Q
/-! ### xs[i] = v, any sign -/
/-- the list's object behind a store -/
theorem mapSeq_set (its : List Value) (n j : Nat) (u : Value) : Obj.mapSeq (·.setIfInBounds j u) { cls := .type "list", data := .seq its.toArray n } = { cls := .type "list", data := .seq (its.set j u).toArray n } := by
  simp [Obj.mapSeq]
theorem Inv.lst {pins : List (Addr × Obj)} {σ : St} {H : Hp} {s : Shared} {p : Addr} {xs : List V} (I : Inv X pins σ H s) (h : H p = some (.lst xs)) :
    ∃ (its : List Value) (n : Nat), Vals xs its ∧ s.heap.get? p = some { cls := .type "list", data := .seq its.toArray n } ∧ xs.length ≤ sizeLine := by
  obtain ⟨z, its, n, r, e⟩ := I.hok p _ h
  exact ⟨its, n, r, e, z⟩
/-- the list at p is written by an update of its object -/
theorem Inv.lstUpd {pins : List (Addr × Obj)} {σ : St} {H : Hp} {s : Shared} {p : Addr} {xs ys : List V} {its its' : List Value} {n n' : Nat} {f : Obj → Obj} (I : Inv X pins σ H s) (h : H p = some (.lst xs))
    (ho : s.heap.get? p = some { cls := .type "list", data := .seq its.toArray n }) (hf : f { cls := .type "list", data := .seq its.toArray n } = { cls := .type "list", data := .seq its'.toArray n' }) (r : Vals ys its') (hz : ys.length ≤ sizeLine) (t : Nat) :
    Inv X pins σ (upd H p (.lst ys)) { s with heap := s.heap.update p f, toks := t } := by
  have e : (s.heap.update p f).get? p = some { cls := .type "list", data := .seq its'.toArray n' } := by
    rw [Heap.get?_update_self f ho (by rw [hf] <;> rfl), hf]
  refine I.write (x := p) (e := p) (by rw [h]; trivial) (.inl rfl) (fun b u hb q => (Heap.get?_update_other _ _ (Ne.symm hb)).trans q) ⟨_, e⟩ ?_
  exact ⟨hz, its', n', r, e⟩
inductive rSetL  (o : V) (i : V) (v : V) (H : Hp) (Q : (Hp → Prop)) : Prop
  | mk (p xs k j : _) (_ : o = .ref p) (_ : i = .int k) (_ : H p = some (.lst xs)) (_ : ixN xs.length k = some j) (_ : Q (upd H p (.lst (xs.set j v)))) : rSetL o i v H Q
theorem set_list : PSet X rSetL := by
  intro pins s σ H o i v ov iv u Q I ro ri rv h
  obtain ⟨p, xs, k, j, rfl, rfl, hp, hj, q⟩ := h
  cases ro
  obtain ⟨t, rfl⟩ := ri
  obtain ⟨its, n, r, ho, hz⟩ := I.lst hp
  obtain ⟨h1, h2, h3, h4⟩ := ixN_seq hj
  have hl := r.length
  have hn := line63
  have I' : Inv X pins σ (upd H p (.lst (xs.set j v))) { s with heap := s.heap.update p (Obj.mapSeq (·.setIfInBounds j u)) } :=
    I.lstUpd hp ho (mapSeq_set its n j u) (r.set rv j) (by rw [List.length_set]; exact hz) s.toks
  by_cases h0 : 0 ≤ k
  · have hk : k.toNat = j := by
      rw [seqIndex_of h0 h4] at h1
      exact Option.some.inj h1
    exact PySem.W.ki_setAt ho h0 (by omega) (by rw [List.size_toArray, ← hl]; exact h4) (by rw [hk]; exact ⟨_, I', q⟩)
  · have hk : (k + (its.toArray.size : Int)).toNat = j := by
      rw [seqIndex_neg (by omega) h3] at h1
      rw [List.size_toArray, ← hl]
      exact Option.some.inj h1
    exact PySem.W.ki_setBack ho (by omega) (by rw [List.size_toArray, ← hl]; exact h3) (by omega) (by rw [hk]; exact ⟨_, I', q⟩)

/-! ### slices -/
theorem slice_bounds (lo hi : Option Int) (n : Nat) : (sliceBounds lo hi none n).1 = ((HT.sIx n 0 lo : Nat) : Int) ∧ (sliceBounds lo hi none n).2.1 = ((HT.sIx n n hi : Nat) : Int) ∧ (sliceBounds lo hi none n).2.2 = 1 := by
  refine ⟨?_, ?_, rfl⟩
  · cases lo with
    | none => simp [sliceBounds, HT.sIx]
    | some i =>
      simp only [sliceBounds, HT.sIx, Option.getD_none, show (1 : Int) > 0 by decide, if_true]
      by_cases h : i < 0
      · simp only [h, if_true] <;> omega
      · simp only [h, if_false] <;> omega
  · cases hi with
    | none => simp [sliceBounds, HT.sIx]
    | some i =>
      simp only [sliceBounds, HT.sIx, Option.getD_none, show (1 : Int) > 0 by decide, if_true]
      by_cases h : i < 0
      · simp only [h, if_true] <;> omega
      · simp only [h, if_false] <;> omega
theorem slicePick_cut (its : List Value) (lo hi : Option Int) : slicePick its.toArray lo hi none = ((its.drop (HT.sIx its.length 0 lo)).take (HT.sIx its.length its.length hi - HT.sIx its.length 0 lo)).toArray := by
  obtain ⟨h1, h2, h3⟩ := slice_bounds lo hi its.toArray.size
  unfold slicePick
  rw [h1, h2, h3]
  simp only [sliceRange_one, pick_run, List.size_toArray] <;> rfl
/-- xs[lo:hi] of a list: a new list -/
inductive rSlL (K : PySem.W.Frag) (x : V) (lo : Option Int) (hi : Option Int) (H : Hp) (Q : VK) : Prop
  | mk (a xs : _) (_ : x = .ref a) (_ : SqL K H a xs) (_ : ∀ p, H p = none → Q (.ref p) (upd H p (.lst (cutV xs lo hi)))) : rSlL K x lo hi H Q
theorem sl_list : SlR X (rSlL X.K) := by
  intro pins s σ H x v vl vu lo hi sl Q I rx hs pl pu h
  obtain ⟨a, xs, rfl, hx, q⟩ := h
  cases rx
  obtain ⟨its, r, ht, hz⟩ := I.list hx
  have hlen := r.length
  refine ⟨"list", _, slot_list_getitem.lookup, ht.isList.typeIs, ?_⟩
  refine wpAny_getItem_list_slice ht.isList hs pl pu .none (by simp) ?_ (by rw [List.size_toArray] <;> omega)
  rw [slicePick_cut, ← hlen]
  refine ⟨.ref s.heap.objs.size, _, I.laid (t' := s.toks) (o := .lst (cutV xs lo hi)) (fun b ob q => Heap.get?_push_of_some _ q) (Nat.le_refl _) ?_, rfl, q _ (I.hok.fresh (Nat.le_refl _))⟩
  exact ⟨Nat.le_trans (cutV_length xs lo hi) hz, _, 0, (r.drop (HT.sIx xs.length 0 lo)).take (HT.sIx xs.length xs.length hi - HT.sIx xs.length 0 lo), Heap.get?_push_size _ rfl⟩

/-! ### in, not in: flat items -/
def flatV : V → Bool
  | .non => true
  | .bl _ => true
  | .int _ => true
  | .str _ => true
  | _ => false
/-- == of flat values -/
def eqV : V → V → Bool
  | .non, .non => true
  | .bl a, .bl b => a == b
  | .bl a, .int b => (if a then 1 else 0) == b
  | .int a, .bl b => a == (if b then 1 else 0)
  | .int a, .int b => a == b
  | .str a, .str b => a == b
  | _, _ => false
theorem eqAt_V {A : Around} {s : Shared} {y x : V} {u v : Value} (ry : RelV y u) (rx : RelV x v) (fy : flatV y = true) (fx : flatV x = true) : SeqAt.EqAt A s u v (eqV y x) := by
  cases y with
  | non =>
    cases ry
    cases x with
    | non => cases rx; exact SeqAt.EqAt.same _
    | bl b => cases rx; exact SeqAt.EqAt.none_bool b
    | int b => obtain ⟨t, rfl⟩ := rx; exact SeqAt.EqAt.none_int b t
    | str b => obtain ⟨t, rfl⟩ := rx; exact SeqAt.EqAt.none_str b t
    | _ => exact absurd (show false = true from fx) Bool.false_ne_true
  | bl a =>
    cases ry
    cases x with
    | non => cases rx; exact SeqAt.EqAt.bool_none a
    | bl b => cases rx; exact SeqAt.EqAt.bool_bool a b
    | int b => obtain ⟨t, rfl⟩ := rx; exact SeqAt.EqAt.bool_int a b t
    | str b => obtain ⟨t, rfl⟩ := rx; exact SeqAt.EqAt.bool_str a b t
    | _ => exact absurd (show false = true from fx) Bool.false_ne_true
  | int a =>
    obtain ⟨t', rfl⟩ := ry
    cases x with
    | non => cases rx; exact SeqAt.EqAt.int_none a t'
    | bl b => cases rx; exact SeqAt.EqAt.int_bool a t' b
    | int b => obtain ⟨t, rfl⟩ := rx; exact SeqAt.EqAt.int_int a t' b t
    | str b => obtain ⟨t, rfl⟩ := rx; exact SeqAt.EqAt.int_str a t' b t
    | _ => exact absurd (show false = true from fx) Bool.false_ne_true
  | str a =>
    obtain ⟨t', rfl⟩ := ry
    cases x with
    | non => cases rx; exact SeqAt.EqAt.str_none a t'
    | bl b => cases rx; exact SeqAt.EqAt.str_bool a t' b
    | int b => obtain ⟨t, rfl⟩ := rx; exact SeqAt.EqAt.str_int a t' b t
    | str b => obtain ⟨t, rfl⟩ := rx; exact SeqAt.EqAt.str_str a t' b t
    | _ => exact absurd (show false = true from fx) Bool.false_ne_true
  | _ => exact absurd (show false = true from fy) Bool.false_ne_true
/-- the items' answers, read off the values (a value's own answer does not lean on its token) -/
def eqU (x : V) (u : Value) : Bool := match u with
  | .none => eqV .non x
  | .bool b => eqV (.bl b) x
  | .int i _ => eqV (.int i) x
  | .str z _ => eqV (.str z) x
  | _ => false
def inV (x : V) (xs : List V) : Bool := xs.any fun y => eqV y x
/-- x in a list or tuple of flat items -/
inductive rIn (K : PySem.W.Frag) (neg : Bool) (x : V) (y : V) (H : Hp) (Q : VK) : Prop
  | mk (p xs : _) (_ : y = .ref p) (_ : (SqL K H p xs ∨ SqT K H p xs)) (_ : flatV x = true) (_ : xs.all flatV = true) (_ : Q (.bl (if neg then !inV x xs else inV x xs)) H) : rIn K neg x y H Q
/-! ### len, list(x), tuple(x) of any list or tuple that is read -/
theorem call_len_seq : CallR X (.builtin "len") (fun xs H Q => ∃ p ys, xs = [.ref p] ∧ (SqL X.K H p ys ∨ SqT X.K H p ys) ∧ Q (.int ys.length) H) := by
  intro pins s σ H xs us Q I r h
  obtain ⟨p, ys, rfl, hq, q⟩ := h
  obtain ⟨u, rfl, rx⟩ := vals1 r
  cases rx
  have hn := line63
  rcases hq with hq | hq
  · obtain ⟨its, r', pl, hz⟩ := I.list hq
    have hlen := r'.length
    exact Calls.call_len_list pl.isList (by simp only [List.size_toArray] <;> omega) ⟨.int ys.length, H, I.tok _, ⟨s.toks + 1, by rw [List.size_toArray, hlen]⟩, q⟩
  · obtain ⟨its, r', pl, hz⟩ := I.tuple hq
    have hlen := r'.length
    exact len_tuple pl (by simp only [List.size_toArray] <;> omega) ⟨.int ys.length, H, I.tok _, ⟨s.toks + 1, by rw [List.size_toArray, hlen]⟩, q⟩
theorem call_len_str : CallR X (.builtin "len") (fun xs H Q => ∃ z, xs = [.str z] ∧ z.length ≤ sizeLine ∧ Q (.int z.length) H) := by
  intro pins s σ H xs us Q I r h
  obtain ⟨z, rfl, hz, q⟩ := h
  obtain ⟨u, rfl, t, rfl⟩ := vals1 r
  have hn := line63
  exact len_str (by omega) ⟨.int z.length, H, I.tok _, ⟨_, rfl⟩, q⟩
/-! ### the call of a builtin's method: o.m(..) -/
/-- the value is of that builtin type -/
def tyV (K : PySem.W.Frag) (T : String) (x : V) (H : Hp) : Prop := match x with
  | .str _ => T = "str"
  | .int _ => T = "int"
  | .ref p => (T = "list" ∧ ∃ xs, SqL K H p xs) ∨ (T = "tuple" ∧ ∃ o, K.lookup p = some o ∧ o.cls = .type "tuple" ∧ o.dict = none) ∨
      (T = "dict" ∧ ((∃ kvs, H p = some (.dK kvs)) ∨ ∃ kvs, H p = some (.dT kvs))) ∨ (T = "set" ∧ ∃ S n, H p = some (.set S n))
  | _ => False
theorem tyV_is {pins : List (Addr × Obj)} {σ : St} {H : Hp} {s : Shared} {T : String} {x : V} {v : Value} (I : Inv X pins σ H s) (r : RelV x v) (ty : tyV X.K T x H) :
    s.TypeIs v T ∧ ∀ a, v = .ref a → ∃ ob, s.heap.get? a = some ob ∧ ob.dict = none := by
  cases x with
  | str z =>
    obtain ⟨t, rfl⟩ := r
    cases (show T = "str" from ty)
    exact ⟨typeIs_str s z t, fun _ e => nomatch e⟩
  | int i =>
    obtain ⟨t, rfl⟩ := r
    cases (show T = "int" from ty)
    exact ⟨typeIs_int s i t, fun _ e => nomatch e⟩
  | ref p =>
    cases r
    rcases ty with ⟨rfl, xs, hq⟩ | ⟨rfl, o, hk, hc, hd⟩ | ⟨rfl, hk⟩ | ⟨rfl, S, n, hk⟩
    · obtain ⟨its, _, pl, _⟩ := I.list hq
      refine ⟨pl.isList.typeIs, fun a e => ?_⟩
      cases e
      obtain ⟨o, n, e, c, hd, _⟩ := pl
      exact ⟨o, e, hd⟩
    · refine ⟨⟨o, I.kIn p o hk, hc⟩, fun a e => ?_⟩
      cases e
      exact ⟨o, I.kIn _ o hk, hd⟩
    · have z : ∃ o, s.heap.get? p = some o ∧ o.ExactDict := by
        rcases hk with ⟨kvs, hk⟩ | ⟨kvs, hk⟩
        · obtain ⟨_, _, _, _, o, _, _, e, ex, _⟩ := I.hok p _ hk
          exact ⟨o, e, ex⟩
        · obtain ⟨_, _, _, _, o, _, _, e, ex, _⟩ := I.hok p _ hk
          exact ⟨o, e, ex⟩
      obtain ⟨o, e, ex⟩ := z
      refine ⟨⟨o, e, ex.1⟩, fun a e2 => ?_⟩
      cases e2
      exact ⟨o, e, ex.2.1⟩
    · obtain ⟨o, _, _, _, e, ex, _⟩ := I.hok p _ hk
      refine ⟨⟨o, e, ex.1⟩, fun a e2 => ?_⟩
      cases e2
      exact ⟨o, e, ex.2.1⟩
  | _ => exact False.elim ty
def tBM0 (K : PySem.W.Frag) (T : String) (r : V → List V → Hp → VK → Prop) (to : TE) : TE := fun σ H Q => to σ H fun x H1 => tyV K T x H1 ∧ r x [] H1 Q
def tBM (K : PySem.W.Frag) (T : String) (r : V → List V → Hp → VK → Prop) (to : TE) (t : TA) : TE := fun σ H Q => to σ H fun x H1 => tyV K T x H1 ∧ t σ H1 fun xs H2 => r x xs H2 Q
variable {o e : Expr} {es : List Expr} {to : TE} {t : TA} {name : Str} {apos cpos : Pos} {T id : String} {r : V → List V → Hp → VK → Prop}
theorem pe_bm (pa : PlainAttrs T) (slot : Slot T name id) (hty : typeOf (.builtin id) = pure (.type "method_descriptor")) (hm : MtR X id r) (ho : PE X o to) (ha : PA X (e :: es) t)
    (hbase : attributeBase o name X.env (eval o X.env) = eval o X.env := by rfl)
    (hfew : ((backTo cpos (starEach (e :: es) X.env)).all (fun x => !x.1) && (backToKw cpos (keywordEach [] X.env)).all (fun x => x.1.isSome)
      && decide ((e :: es).length + ([] : List Keyword).length + (if ([] : List Keyword).isEmpty then 0 else 1) < 30)) = true := by rfl)
    (hline : (apos.endLine == cpos.line) = true := by rfl) (hs : starEach (e :: es) X.env = (false, eval e X.env) :: starEach es X.env := by rfl) (hplain : (backTo cpos (starEach es X.env)).any (·.1) = false := by rfl) :
    PE X (.Call (.Attribute o name apos) (e :: es) [] cpos) (tBM X.K T r to t) := by
  intro pins s σ H Q I h
  refine wpAny_Call_method_late hbase hfew hline rfl (thn (ho pins s σ H _ I h) fun v s1 ⟨x, H1, I1, r1, ty, q1⟩ => ?_)
  obtain ⟨h1, h2⟩ := tyV_is I1 r1 ty
  refine ⟨T, id, pa, slot, hty, h1, h2, ?_⟩
  have hA := ha cpos pins s1 σ H1 _ I1 q1
  rw [hs] at hA ⊢
  refine Calls.callWith_builtin (by show (false || (backTo cpos (starEach es X.env)).any (·.1)) = false; rw [hplain] <;> rfl) (Calls.evalArgs_plain ?_)
  exact thn hA fun us s2 ⟨vs, H2, I2, r2, q2⟩ => hm pins s2 σ H2 x vs v us Q I2 r1 r2 q2
/- xs.append(e), list.index on a module's tuple .. are MtR facts of 06m -/
end
end L2

namespace L2
open PySem PySem.Spec PyProof.Rows

def MtM (X : Cx) (id : String) (r : V → List V → Hp → VK → Prop) : Prop :=
  ∀ (pins : List (Addr × Obj)) (s : Shared) (σ : St) (H : Hp) (x : V) (xs : List V) (v : Value) (us : List Value) (Q : VK), Inv X pins σ H s → RelV x v → Vals xs us → r x xs H Q →
    wpAny (model X.prog X.w) X.A (call (.builtin id) (v :: us)) (EP X pins σ Q) X.xe s

/-! ### lists of values -/
theorem Vals.one : ∀ {x : V} {us : List Value}, Vals [x] us → ∃ u, us = [u] ∧ RelV x u
  | _, _, .cons r .nil => ⟨_, rfl, r⟩
theorem Vals.two : ∀ {x y : V} {us : List Value}, Vals [x, y] us → ∃ u v, us = [u, v] ∧ RelV x u ∧ RelV y v
  | _, _, _, .cons r (.cons q .nil) => ⟨_, _, rfl, r, q⟩
section
variable {X : Cx} {pins : List (Addr × Obj)} {σ : St} {H : Hp} {s : Shared} {l b : Addr} {xs ys zs : List V}

/-! ### the two steps: a tracked list is rewritten, a new list is laid -/
theorem Inv.lset {its its' : List Value} {n : Nat} {f : Array Value → Array Value} {t' : Nat} (I : Inv X pins σ H s) (hH : H l = some (.lst xs))
    (e : s.heap.get? l = some { cls := .type "list", data := .seq its.toArray n }) (hf : f its.toArray = its'.toArray) (hv : Vals ys its') (hz : ys.length ≤ sizeLine) :
    Inv X pins σ (upd H l (.lst ys)) { s with heap := s.heap.update l (Obj.mapSeq f), toks := t' } := by
  have q := PySem.IsL.update e f
  rw [hf] at q
  refine I.write (x := l) (e := l) (by rw [hH]; exact trivial) (.inl rfl) (fun b' u hb hu => (Heap.get?_update_other s.heap (Obj.mapSeq f) (Ne.symm hb)).trans hu) ⟨_, q⟩ ?_
  exact ⟨hz, its', _, hv, q⟩
theorem Inv.lnew {its : List Value} {t' : Nat} (I : Inv X pins σ H s) (hv : Vals ys its) (hz : ys.length ≤ sizeLine) :
    Inv X pins σ (upd H s.heap.objs.size (.lst ys)) { s with heap := s.heap.push { cls := .type "list", data := .seq its.toArray }, toks := t' } :=
  I.laid (fun _ _ q => Heap.get?_push_of_some _ q) (Nat.le_refl _) ⟨hz, its, 0, hv, Heap.get?_push_size _ rfl⟩
theorem Inv.fresh (I : Inv X pins σ H s) : H s.heap.objs.size = none := I.hok.fresh (Nat.le_refl _)
theorem Inv.lstM (I : Inv X pins σ H s) (hH : H l = some (.lst xs)) : xs.length ≤ sizeLine ∧ ∃ (its : List Value) (n : Nat), Vals xs its ∧ xs.length = its.length ∧ s.heap.get? l = some { cls := .type "list", data := .seq its.toArray n } := by
  obtain ⟨z, its, n, r, e⟩ := I.hok l _ hH
  exact ⟨z, its, n, r, r.length, e⟩

theorem notLongL {n : Nat} (h : n ≤ sizeLine) : Builtin.List.listTooLong n = false := by
  unfold Builtin.List.listTooLong
  exact decide_eq_false (by omega)
end

section
variable {X : Cx}

/-! ### methods -/
inductive rAppend  (x : V) (vs : List V) (H : Hp) (Q : VK) : Prop
  | mk (l xs y : _) (_ : x = .ref l) (_ : vs = [y]) (_ : H l = some (.lst xs)) (_ : xs.length < sizeLine) (_ : Q .non (upd H l (.lst (xs ++ [y])))) : rAppend x vs H Q
theorem mt_append : MtM X "list.append" rAppend := by
  intro pins s σ H x vs v us Q I rx rv h
  obtain ⟨l, xs, y, rfl, rfl, hH, hz, q⟩ := h
  cases rx
  obtain ⟨u, rfl, ru⟩ := rv.one
  obtain ⟨z, its, n, r, hl, e⟩ := I.lstM hH
  refine call_meets F.slot_list_append ⟨_, e, rfl⟩ F.entry_list_append (F.args_list_append_2 _ _) (PySem.list_append l its.toArray n u (by rw [List.size_toArray]; omega)) ⟨e, ?_⟩
  refine ⟨.non, _, I.lset (its' := its ++ [u]) hH e (by simp) (r.append (.cons ru .nil)) ?_, rfl, q⟩
  rw [List.length_append, List.length_singleton]
  omega

inductive rExtend  (x : V) (vs : List V) (H : Hp) (Q : VK) : Prop
  | mk (l b xs zs : _) (_ : x = .ref l) (_ : vs = [.ref b]) (_ : H l = some (.lst xs)) (_ : H b = some (.lst zs)) (_ : xs.length + zs.length ≤ sizeLine) (_ : Q .non (upd H l (.lst (xs ++ zs)))) : rExtend x vs H Q
theorem mt_extend : MtM X "list.extend" rExtend := by
  intro pins s σ H x vs v us Q I rx rv h
  obtain ⟨l, b, xs, zs, rfl, rfl, hH, hB, hz, q⟩ := h
  cases rx
  obtain ⟨u, rfl, ru⟩ := rv.one
  cases ru
  obtain ⟨z, its, n, r, hl, e⟩ := I.lstM hH
  obtain ⟨z2, its2, n2, r2, hl2, e2⟩ := I.lstM hB
  have hsz : its.toArray.size + its2.toArray.size ≤ sizeLine := by rw [List.size_toArray, List.size_toArray]; omega
  have hlong : ¬ (!its.toArray.isEmpty && Builtin.List.listTooLong (its.toArray.size + its2.toArray.size)) = true := by
    rw [notLongL hsz, Bool.and_false]
    exact Bool.false_ne_true
  refine call_meets F.slot_list_extend ⟨_, e, rfl⟩ F.entry_list_extend (F.args_list_extend_2 _ _)
    (AutoSeq1.list_extend_list_list_0 l its.toArray n b its2.toArray n2 hlong (by rw [List.size_toArray]; omega) (by omega)) ⟨e, e2, ?_⟩
  refine ⟨.non, _, I.lset (its' := its ++ its2) hH e (by simp) (r.append r2) ?_, rfl, q⟩
  rw [List.length_append]
  omega

inductive rPop  (x : V) (vs : List V) (H : Hp) (Q : VK) : Prop
  | mk (l xs y : _) (_ : x = .ref l) (_ : vs = []) (_ : H l = some (.lst xs)) (_ : xs[xs.length - 1]? = some y) (_ : Q y (upd H l (.lst xs.dropLast))) : rPop x vs H Q
inductive rPopAt  (x : V) (vs : List V) (H : Hp) (Q : VK) : Prop
  | mk (l xs i k y : _) (_ : x = .ref l) (_ : vs = [.int i]) (_ : H l = some (.lst xs)) (_ : -(2 ^ 63) ≤ i) (_ : i < 2 ^ 63) (_ : seqIndex? i xs.length = some k) (_ : xs[k]? = some y) (_ : Q y (upd H l (.lst (xs.eraseIdx k)))) : rPopAt x vs H Q
inductive rReverse  (x : V) (vs : List V) (H : Hp) (Q : VK) : Prop
  | mk (l xs : _) (_ : x = .ref l) (_ : vs = []) (_ : H l = some (.lst xs)) (_ : Q .non (upd H l (.lst xs.reverse))) : rReverse x vs H Q
inductive rClear  (x : V) (vs : List V) (H : Hp) (Q : VK) : Prop
  | mk (l xs : _) (_ : x = .ref l) (_ : vs = []) (_ : H l = some (.lst xs)) (_ : Q .non (upd H l (.lst []))) : rClear x vs H Q
/-! ### list + list, list += list, list * int -/
inductive rCat  (x : V) (y : V) (H : Hp) (Q : VK) : Prop
  | mk (l b xs zs : _) (_ : x = .ref l) (_ : y = .ref b) (_ : H l = some (.lst xs)) (_ : H b = some (.lst zs)) (_ : xs.length + zs.length ≤ sizeLine) (_ : ∀ p, H p = none → Q (.ref p) (upd H p (.lst (xs ++ zs)))) : rCat x y H Q
theorem op_cat : OpR X (binaryOp .Add) rCat := by
  intro pins s σ H x y v u Q I rx ry h
  obtain ⟨l, b, xs, zs, rfl, rfl, hH, hB, hz, q⟩ := h
  cases rx
  cases ry
  obtain ⟨z, its, n, r, hl, e⟩ := I.lstM hH
  obtain ⟨z2, its2, n2, r2, hl2, e2⟩ := I.lstM hB
  refine PySem.P.add_list e e2 ?_ (by rw [List.size_toArray, List.size_toArray]; omega)
  have ea : its.toArray ++ its2.toArray = (its ++ its2).toArray := by simp
  rw [ea]
  exact ⟨.ref _, _, I.lnew (t' := s.toks) (r.append r2) (by rw [List.length_append]; omega), rfl, q _ I.fresh⟩
/-- a list times an int (a negative one is nothing) -/
inductive rRep  (x : V) (y : V) (H : Hp) (Q : VK) : Prop
  | mk (l k xs : _) (_ : x = .ref l) (_ : y = .int k) (_ : H l = some (.lst xs)) (_ : -(2 ^ 63) ≤ k) (_ : k < 2 ^ 63) (_ : xs.length * k.toNat ≤ sizeLine) (_ : ∀ p, H p = none → Q (.ref p) (upd H p (.lst (List.replicate k.toNat xs).flatten))) : rRep x y H Q
/-! ### del xs[i] -/
end

/-! ### xs[a:b] = ys -/
section
variable {prog : Program} {w : World} {A : Around} {E : Value → Shared → Prop} {s : Shared}
end

section
variable {X : Cx}
end
end L2

namespace Att
open PySem PySem.W PySem.Calls PyProof.Rows

/-! ### the script -/
theorem ints_of_wellAll {P : Params} {h : Heap} : ∀ (ns : List Int) (vs : List Value), WellAll P h vs (ns.map WData.int) → IntsAre vs ns := by
  intro ns
  induction ns with
  | nil =>
    intro vs w
    rw [List.map_nil] at w
    cases w
    exact .nil
  | cons n ns ih =>
    intro vs w
    rw [List.map_cons] at w
    cases w with
    | cons a b =>
      cases a
      exact .cons _ _ (ih _ b)

theorem script_of {l : OpenLaw} {n : Nat} (hn : l.most = some n) {P : Params} {h : Heap} {args : List WData} {vals : List Value}
    (hpre : l.row.toRowW.claim.pre args = true) (hwl : WellAll P h vals args) :
    ∃ a vs ns, vals = [Value.ref a] ∧ args = [WData.list (ns.map WData.int)] ∧ h.get? a = some { cls := .type "list", data := .seq vs.toArray } ∧ IntsAre vs ns ∧ ns.length ≤ n := by
  have hsh : WShape.hasAll [] args [.list .int] = true := (pre_splitW hpre).1
  have hc : l.pre.holds [] { args := args } = true := (pre_splitW hpre).2
  obtain ⟨d, r, rfl, h1, h2⟩ := hasAllW_cons hsh
  obtain rfl := hasAllW_nil h2
  obtain ⟨xs, rfl, h3⟩ := hasW_list h1
  obtain ⟨ns, rfl⟩ := items_int h3
  have hlen : ns.length ≤ n := by
    unfold OpenLaw.pre at hc
    have h4 : (WTm.not (.lt (.lit (.int (n : Int))) (.len (.arg 0)))).holds [] { args := [.list (ns.map .int)] } = true := by
      have h4 := (holds_andW hc).1
      rw [hn] at h4
      exact h4
    have h5 := condW_of h4 (w_not (w_lt w_lit (w_len_list (w_arg rfl))))
    rw [List.length_map] at h5
    refine Nat.le_of_not_lt fun q => ?_
    have q' : (n : Int) < ((ns.length : Nat) : Int) := by omega
    first
      | (rw [decide_eq_true q'] at h5; exact absurd h5 (by decide))
      | (simp at h5; omega)
  cases hwl with
  | cons w1 w2 =>
    cases w2
    cases w1 with
    | list ho hall => exact ⟨_, _, ns, rfl, rfl, ho, ints_of_wellAll ns _ hall, hlen⟩

theorem post_true (l : OpenLaw) (args : List WData) : l.row.toRowW.claim.post args (.bool true) args = true :=
  postW_of (r := l.row.toRowW) (X := (true == true))
    (show WShape.has [] (.bool true) .bool = true by first | rfl | decide | simp [WShape.has, WShape.arms, WShape.armsAll])
    (show (WTm.eq .res (.lit (.bool true))).value [] { args := args, res := some (.bool true), after := args } = some (.bool (true == true)) from w_eq_bool (w_res rfl) w_lit) rfl

/-! ### the attachment: holds_open's last premise (the goal 'hc' behind k_head) from a wpAny of the law's body -/
/-! ### rules over ANY heap (no ledger) from facts about the written part K: the library's own take a ledger (News) for what they write -/
section
variable {prog : Program} {w : World} {A : Around} {E : Value → Shared → Prop} {s : Shared} {K : Frag}

/-! the whole heap as the ledger: makes every rule that writes through a ledger a rule over any heap -/
def noObjs (h : Heap) : Heap := { h with objs := #[] }
def ledger (h : Heap) (L d : Addr) : List (Addr × Obj) := (List.range h.objs.size).filterMap fun a => if a = L ∨ a = d then none else (h.get? a).map fun o => (a, o)
end
end Att

namespace L2
open PySem PySem.Spec PyProof.Rows

theorem vals_ints : ∀ {vs : List Value} {ns : List Int}, IntsAre vs ns → Vals (ns.map V.int) vs
  | _, _, .nil => .nil
  | _, _, .cons n t h => .cons ⟨t, rfl⟩ (vals_ints h)

/-- nothing is tracked but the script, known to the object (or it is an object of the module) -/
def Only (H : Hp) : Prop := ∀ b, H b = none ∨ ∃ o xs, H b = some (.frz o (.lst xs))

/-- THE HEAD: the law's promise, at the heap behind the top. F, the promise of the law's def, may use that base is part of the heap (so K.In base, base.Ns mainGlobals mg stand in Mod) -/
theorem law_call {P : Program} {w : World} {K : PySem.W.Frag} {mg mb : Str → Option Value} {CX : CXT} {k : Nat} {fa a : Addr} {fd : FuncData} {x : Str} {sp : Sp} {s₁ : Shared} {vs : List Value} {ns : List Int}
    (KX : K.In s₁.heap) (hns : s₁.heap.Ns mainGlobals mg) (hb : s₁.heap.Ns builtinsNs mb) (hbb : ∀ x : Str, x ≠ "__name__" → mb x = bootBuiltins x) (hlim : s₁.heap.NoLimit) (hg : s₁.gens = #[])
    (ha : s₁.heap.get? a = some { cls := .type "list", data := .seq vs.toArray }) (hi : IntsAre vs ns) (hl : ns.length ≤ sizeLine) (hr : Room k callerA)
    (F : ∀ base : Heap, K.In base → base.Ns mainGlobals mg → FnOk P w K mg base CX k fa fd [x] sp) (hbind : ∀ (s : Shared) (u : Value), BindsTo s fd ⟨[u], []⟩ [(x, u)])
    (hsp : ∀ H : Hp, Only H → SqL K H a (ns.map V.int) → sp [.ref a] H (fun v _ => v = .bl true) fun _ _ _ => False)
    (hCX : ∀ H e s', CX [] H s₁ (fun _ _ _ => False) e s' → False) :
    codeAny (model P w) callerA (.call (.ref fa) ⟨[.ref a], []⟩) (fun r s' => r = .ok (.ret (.bool true)) ∧ OldK s₁.heap s'.heap ∧ s'.os = s₁.os ∧ AllBare s'.gens) s₁ := by
  have rv := vals_ints hi
  have lenV := hi.length
  -- from an abstract heap in which nothing but the script may be tracked
  have core : ∀ H : Hp, Only H → SqL K H a (ns.map V.int) → HOk P w H s₁.heap → (∀ b, H b ≠ none → b = a) → (H a ≠ none → K.lookup a = none) →
      codeAny (model P w) callerA (.call (.ref fa) ⟨[.ref a], []⟩) (fun r s' => r = .ok (.ret (.bool true)) ∧ OldK s₁.heap s'.heap ∧ s'.os = s₁.os ∧ AllBare s'.gens) s₁ := by
    intro H hO hS hok hA hK
    have base_of : ∀ {b : Addr} {o : Obj}, s₁.heap.get? b = some o → H b = none → (hidT s₁.heap H).get? b = some o := fun e n => hidT_get e n
    have noA : ∀ {b : Addr} {o : Obj} {es : Array DictEntry} {ep : Nat}, s₁.heap.get? b = some o → o.data = .dict es ep → H b = none := fun {b o es ep} e d => by
      cases q : H b with
      | none => rfl
      | some u =>
        have e' : b = a := hA b (by rw [q]; simp)
        subst e'
        rw [ha] at e; cases e
        have d' : Data.seq vs.toArray _ = Data.dict es ep := d
        cases d'
    have nsK : ∀ {b : Addr} {m : Str → Option Value}, s₁.heap.Ns b m → (hidT s₁.heap H).Ns b m := fun {b m} ⟨o, es, ep, e, d, r⟩ => ⟨o, es, ep, base_of e (noA e d), d, r⟩
    have hKb : K.In (hidT s₁.heap H) := fun b o e => base_of (KX b o e) (by
      cases q : H b with
      | none => rfl
      | some u =>
        have e' : b = a := hA b (by rw [q]; simp)
        subst e'
        rw [hK (by rw [q]; simp)] at e; cases e)
    have hM : Mod K mg (hidT s₁.heap H) := ⟨hKb, nsK hns, ⟨mb, nsK hb, hbb⟩, let ⟨mc, h1, h2⟩ := hlim; ⟨mc, nsK h1, h2⟩⟩
    have e0 : Env0 P w K mg (hidT s₁.heap H) callerA [] s₁ H := ⟨rfl, hM, fun b o e => of_hidT e, Nat.le_of_eq (hidT_size _ _), trivial, fun b hb => absurd (show b ∈ ([] : List Addr) from hb) (by simp), hok, .of_eq hg⟩
    refine codeAny_mono ((F _ hKb (nsK hns)).run callerA [] s₁ H ⟨[.ref a], []⟩ [.ref a] [.ref a] _ _ hr e0 (hbind s₁ (.ref a)) (.cons rfl .nil) (hsp H hO hS)) fun r s' h => ?_
    cases r with
    | error e => exact (hCX H e s' h).elim
    | ok fl =>
      cases fl with
      | next => exact False.elim h
      | brk => exact False.elim h
      | cont => exact False.elim h
      | ret u =>
        obtain ⟨v, H', os, bare, un, hok', r', q⟩ := h
        have q' : v = .bl true := q
        subst q'
        obtain rfl : u = Value.bool true := r'
        refine ⟨rfl, OldK.of_keep fun b o e => ?_, os, bare⟩
        cases q : H b with
        | none => exact un.keep b o e q (by intro z; exact absurd (show b ∈ ([] : List Addr) from z) (by simp)) (by simp)
        | some u =>
          rcases hO b with z | ⟨ob, xs, z⟩
          · rw [q] at z; cases z
          · have z2 := un.frzs b ob _ z
            obtain ⟨e1, _⟩ := hok b _ z
            obtain ⟨e2, _⟩ := hok' b _ z2
            rw [e] at e1; cases e1
            exact e2
  cases hk : K.lookup a with
  | some o =>
    -- the script is one of the module's own objects
    have e := KX a o hk
    rw [ha] at e
    cases e
    refine core (fun _ => none) (fun _ => .inl rfl) (.inr ⟨_, vs.toArray, _, hk, rfl, rfl, rfl, by rw [List.size_toArray, lenV]; exact hl, by simpa using rv⟩) (fun b u z => by have z' : (none : Option HO) = some u := z; cases z') (fun b z => absurd rfl z) fun z => absurd rfl z
  | none =>
    refine core (fun b => if b = a then some (.frz { cls := .type "list", data := .seq vs.toArray } (.lst (ns.map V.int))) else none) (fun b => ?_) (.inl (.inr ⟨{ cls := .type "list", data := .seq vs.toArray }, if_pos rfl⟩)) (fun b u z => ?_) (fun b z => ?_) fun _ => hk
    · by_cases hb : b = a
      · exact .inr ⟨_, _, if_pos hb⟩
      · exact .inl (if_neg hb)
    · by_cases hb : b = a
      · have z' := (if_pos hb).symm.trans z
        cases z'
        subst hb
        exact ⟨ha, by rw [List.length_map]; exact hl, vs, _, rv, ha⟩
      · have z' := (if_neg hb).symm.trans z
        cases z'
    · by_cases hb : b = a
      · exact hb
      · exact absurd (if_neg hb) z
end L2

namespace L2
open PySem PySem.Spec PyProof.Rows

abbrev KOf {K : PySem.W.Frag} {h : Heap} (_ : K.In h) : PySem.W.Frag := K

end L2

/- THE LAST THEOREM (shape; LID, My.* are yours):
   My.Adr: a structure of the addresses that your layer names (classes, functions); My.Txt K t: a structure (Prop) of the equations over K;
   My.txt_mk : {K} {implicit addresses ..} (e1 : nsIn K mainGlobals "law" = some (some (.ref f))) (e2 : K.lookup f = some ⟨oc, od, .func (fnOf "law" "law" params body scope dV kV doc pm an cdv ct), sl⟩) (e3 : codeIn K cdv "law" = true) .. : ∃ t, My.Txt K t

set_option maxRecDepth 100000 in
set_option maxHeartbeats 0 in
theorem PySem.Challenge.cw_LID_holds : PySem.Challenge.rw_LID.Holds := by
  w_on; o_law; k_head; (case hw => w_witness2)
  k_fill
  refine L2.walk_of (l := PySem.Challenge.rw_LID) (n := 63) (k := 40) (x := "script") (CX := fun w => ..) (sp := fun _ => My.sp_law) rfl (by decide) rfl ⟨rfl, by decide, by decide⟩ (fun w h Y => PySem.W.kIn_of Y) ?F ?S ?C
  case F =>
    intro w mg fa h KX G hmg
    have T : ∃ t, My.Txt (L2.KOf KX) t := by
      dsimp only [L2.KOf]                          -- K must stand as «<heap const> w.params» for k_is
      refine' My.txt_mk ?e1 ?e2 ?e3 ..
      (case e1 => PySem.W.k_is)                    -- in the order: a name -> its address -> its object -> its parts
      (case e2 => PySem.W.k_is)
      ..
    obtain ⟨t, T⟩ := T
    have e0 := hmg.symm.trans (PySem.W.mg_of KX G T.law)
    cases e0                                       -- fa is the law's own address
    exact ⟨_, fun s u => .of_eq rfl, fun base kb nb => My.law_fn T kb nb⟩     -- if «.of_eq rfl» comes too early: refine' ⟨_, ?b, fun base kb nb => My.law_fn T kb nb⟩; exact fun s u => .of_eq rfl
  case S => exact fun w H a ns hl hO hS => ..
  case C => exact ..
(the tactic k_is has no namespace: write k_is) -/

/-! SHORT WORDS over the layer: a def of the text, its body, what a loop and a test want. -/
namespace L2
open PySem PySem.Spec PyProof.Rows

/-! ### the text by places -/
/-- the j-th statement of a class's body -/
def inClass (s : Stmt) (j : Nat) : Stmt := match s with
  | .ClassDef _ _ _ body _ _ _ _ _ _ _ => body.getD j (.Pass ⟨0, 0, 0, 0⟩)
  | _ => .Pass ⟨0, 0, 0, 0⟩
def defArgs (s : Stmt) : Arguments := match s with
  | .FunctionDef _ a _ _ _ _ _ _ _ _ => a
  | _ => { posonlyargs := [], args := [], vararg := none, kwonlyargs := [], kw_defaults := [], kwarg := none, defaults := [] }
def defBody (s : Stmt) : List Stmt := match s with
  | .FunctionDef _ _ b _ _ _ _ _ _ _ => b
  | _ => []
def defScope (s : Stmt) : Scope := match s with
  | .FunctionDef _ _ _ _ _ _ sc _ _ _ => sc
  | _ => { kind := .function, names := [], isGenerator := false, isCoroutine := false }

/-! ### no exception leaves a def -/
abbrev CX0 : CXT := fun _ _ _ _ _ _ => False
abbrev E0 : XK := fun _ _ _ => False
theorem pass0 {X : Cx} : Passes CX0 X E0 := fun _ _ _ _ _ _ _ h => h.elim

/-! ### a def (or method) of the text as it stands behind the top -/
structure Fun (K : PySem.W.Frag) (x qual : Str) (st : Stmt) (f : Addr) (fd : FuncData) : Prop where
  ex : ∃ (oc : Value) (od : Option Addr) (kV doc pm : Value) (an : Option Addr) (cdv ct : Value) (osl : Array (Option Value)),
    fd = PySem.W.fnOf x qual (defArgs st) (defBody st) (defScope st) .none kV doc pm an cdv ct ∧ K.lookup f = some ⟨oc, od, .func fd, osl⟩ ∧ PySem.W.codeIn K cdv qual = true
  kp : PySem.W.keepIn K (.ref f) = true
section
variable {P : Program} {w : World} {K : PySem.W.Frag} {mg : Str → Option Value} {base : Heap}
/-- THE RULE for a def: its body as a term of rules, and the reading of that term -/
theorem Fun.ok {x qual : Str} {st : Stmt} {f : Addr} {fd : FuncData} {N ps : List Str} {k : Nat} {sp : Sp} (F : Fun K x qual st f fd) (S : FnScope N ps (defScope st)) (len : ∀ vs H Q E, sp vs H Q E → vs.length = ps.length)
    (hbody : ∀ (cdv : Value) (A : Around) (outer : List Env) (s : Shared) (H : Hp) (vs : List V) (Q : VK) (E : XK), Room k (A.deeper (envOfC qual (defScope st) s.heap.objs.size f cdv)) → sp vs H Q E →
      ∃ t, PSs (cxOf CX0 P w K mg base N qual (defScope st) f cdv A outer s H E).nox (defBody st) t ∧ t { nx := fun _ H' => Q .non H', rt := Q } (start N vs) H) : FnOk P w K mg base CX0 (k + 1) f fd ps sp := by
  obtain ⟨oc, od, kV, doc, pm, an, cdv, ct, osl, rfl, lk, hcd⟩ := F.ex
  refine fn_of lk hcd S len fun A outer s H vs Q E hr hsp => ?_
  obtain ⟨t, h, q⟩ := hbody cdv A outer s H vs Q E hr hsp
  exact ⟨t, h.nox, q⟩
/-- how its arguments bind (no defaults): h is «fun _ _ _ _ _ _ us hl => match us, hl with | [_, _], _ => rfl», one _ a parameter -/
theorem Fun.binds {x qual : Str} {st : Stmt} {f : Addr} {fd : FuncData} {ps : List Str} (F : Fun K x qual st f fd)
    (h : ∀ (kV doc pm : Value) (an : Option Addr) (cdv ct : Value) (us : List Value), us.length = ps.length → bindArgs (PySem.W.fnOf x qual (defArgs st) (defBody st) (defScope st) .none kV doc pm an cdv ct) ⟨us, []⟩ = pure (ps.zip us)) : Binds K fd ps [] := by
  obtain ⟨oc, od, kV, doc, pm, an, cdv, ct, osl, rfl, lk, hcd⟩ := F.ex
  exact .all (h kV doc pm an cdv ct)
theorem fun_mk {x qual : Str} {st : Stmt} {f : Addr} {oc : Value} {od an : Option Addr} {osl : Array (Option Value)} {kV doc pm cdv ct : Value} (l : K.lookup f = some ⟨oc, od, .func (PySem.W.fnOf x qual (defArgs st) (defBody st) (defScope st) .none kV doc pm an cdv ct), osl⟩)
    (c : PySem.W.codeIn K cdv qual = true) (k : PySem.W.keepIn K (.ref f) = true) : Fun K x qual st f (PySem.W.fnOf x qual (defArgs st) (defBody st) (defScope st) .none kV doc pm an cdv ct) := ⟨⟨oc, od, kV, doc, pm, an, cdv, ct, osl, rfl, l, c⟩, k⟩
end
theorem small1000 {n : Nat} (h : n ≤ 1000) : n < sizeLine := Nat.lt_of_le_of_lt h (by decide)

/-! ### expressions in short: the name that stands in the i-th slot -/
section
variable {X : Cx}
theorem pv (i : Nat) {x : Str} {pos : Pos} (hN : X.N[i]? = some x := by rfl) (hv : Vis X.env.scope x := by first | exact Or.inl rfl | exact Or.inr (Or.inl rfl) | exact Or.inr (Or.inr rfl)) (hd : (x == ("__debug__" : Str)) = false := by decide)
    (hcd : (x == ("__classdict__" : Str)) = false := by decide) : PE X (.Name x pos) (tVar i) := pe_var hN hv hd hcd
end

/-! ### tests -/
theorem iteF {A B : Prop} (h : B) : if false = true then A else B := by
  rw [if_neg Bool.false_ne_true]
  exact h
theorem iteT {A B : Prop} (h : A) : if true = true then A else B := by
  rw [if_pos rfl]
  exact h
theorem ite2 {c A B : Prop} [Decidable c] (h1 : c → A) (h2 : ¬ c → B) : if c then A else B := by
  by_cases h : c
  · rw [if_pos h]
    exact h1 h
  · rw [if_neg h]
    exact h2 h
theorem iteNS {c A B : Prop} [Decidable c] (hc : c) (h : B) : if (!decide c) = true then A else B := by
  rw [decide_eq_true hc]
  exact iteF h

/-! ### heaps -/
/-- all that was tracked is as it was -/
def Same (H H' : Hp) : Prop := ∀ b o, H b = some o → H' b = some o
theorem Same.refl (H : Hp) : Same H H := fun _ _ h => h
theorem Same.trans {H H1 H2 : Hp} (a : Same H H1) (b : Same H1 H2) : Same H H2 := fun c o h => b c o (a c o h)
theorem Same.free {H H' : Hp} (e : Same H H') {l : Addr} (h : H' l = Option.none) : H l = Option.none := by
  cases q : H l with
  | none => rfl
  | some o =>
    rw [e l o q] at h
    cases h
theorem Same.seq {K : PySem.W.Frag} {H H' : Hp} {a : Addr} {xs : List V} (e : Same H H') (h : SqL K H a xs) : SqL K H' a xs := by
  rcases h with (h | ⟨o, h⟩) | h
  · exact .inl (.inl (e _ _ h))
  · exact .inl (.inr ⟨o, e _ _ h⟩)
  · exact .inr h

end L2

set_option maxHeartbeats 4000000
namespace L2
abbrev Pr := Int × Int
def inR (n : Int) (p : Pr) : Bool := decide (p.1 ≤ n) && decide (n ≤ p.2)
def inP (ps : List Pr) (n : Int) : Bool := ps.any (inR n)
/-- pairs that hold a number each, ascending and apart -/
structure Apart (R : List Pr) : Prop where
  le : ∀ p ∈ R, p.1 ≤ p.2
  gap : R.Pairwise fun p q => p.2 + 2 ≤ q.1
theorem inP_snoc (R : List Pr) (p : Pr) (n : Int) : inP (R ++ [p]) n = (inP R n || inR n p) := by
  unfold inP; rw [List.any_append]; simp
theorem Apart.snoc {R : List Pr} {p : Pr} (h : Apart R) (hp : p.1 ≤ p.2) (hl : ∀ r ∈ R, r.2 + 2 ≤ p.1) : Apart (R ++ [p]) where
  le := fun q hq => by
    rcases List.mem_append.mp hq with hq | hq
    · exact h.le q hq
    · have e : q = p := by simpa using hq
      rw [e]; exact hp
  gap := by
    rw [List.pairwise_append]
    refine ⟨h.gap, List.pairwise_singleton _ _, fun a ha b hb => ?_⟩
    have e : b = p := by simpa using hb
    rw [e]; exact hl a ha
theorem Apart.init {R : List Pr} {p : Pr} (h : Apart (R ++ [p])) : Apart R ∧ p.1 ≤ p.2 ∧ ∀ r ∈ R, r.2 + 2 ≤ p.1 := by
  have g := h.gap
  rw [List.pairwise_append] at g
  exact ⟨⟨fun q hq => h.le q (List.mem_append_left _ hq), g.1⟩, h.le p (by simp), fun r hr => g.2.2 r hr p (by simp)⟩
/-- what the loop of tidy keeps: R told so far of the pairs qs -/
structure TidI (R qs : List Pr) : Prop where
  ap : Apart R
  mem : ∀ n, inP R n = inP qs n
  cov : ∀ p ∈ qs, p.1 ≤ p.2 → ∃ r ∈ R, r.1 ≤ p.1 ∧ p.2 ≤ r.2
  low : ∀ r ∈ R, ∃ q ∈ qs, r.1 = q.1
theorem TidI.nil : TidI [] [] := ⟨⟨(fun p hp => by cases hp), List.Pairwise.nil⟩, fun _ => rfl, (fun p hp => by cases hp), (fun r hr => by cases hr)⟩
theorem TidI.skip {R qs : List Pr} {p : Pr} (h : TidI R qs) (hp : p.2 < p.1) : TidI R (qs ++ [p]) where
  ap := h.ap
  mem := fun n => by
    rw [inP_snoc, h.mem n]
    have e : inR n p = false := by
      unfold inR
      rw [Bool.and_eq_false_iff]
      simp only [decide_eq_false_iff_not]
      omega
    rw [e, Bool.or_false]
  cov := fun q hq hl => by
    rcases List.mem_append.mp hq with hq | hq
    · exact h.cov q hq hl
    · have e : q = p := by simpa using hq
      rw [e] at hl; omega
  low := fun r hr => by
    obtain ⟨q, hq, e⟩ := h.low r hr
    exact ⟨q, List.mem_append_left _ hq, e⟩
theorem TidI.join {R qs : List Pr} {l p : Pr} {m : Int} (h : TidI (R ++ [l]) qs) (h1 : l.1 ≤ p.1) (h2 : p.1 ≤ l.2 + 1) (h3 : p.1 ≤ p.2) (hm : m = max l.2 p.2) : TidI (R ++ [(l.1, m)]) (qs ++ [p]) := by
  obtain ⟨a1, a2, a3⟩ := h.ap.init
  have hml : l.2 ≤ m ∧ p.2 ≤ m ∧ (m = l.2 ∨ m = p.2) := by omega
  refine ⟨a1.snoc (by show l.1 ≤ m; omega) a3, fun n => ?_, fun q hq hl => ?_, fun r hr => ?_⟩
  · rw [inP_snoc, inP_snoc, ← h.mem n, inP_snoc, Bool.or_assoc]
    congr 1
    unfold inR
    rw [Bool.eq_iff_iff]
    simp only [Bool.or_eq_true, Bool.and_eq_true, decide_eq_true_eq]
    omega
  · rcases List.mem_append.mp hq with hq | hq
    · obtain ⟨r, hr, c1, c2⟩ := h.cov q hq hl
      rcases List.mem_append.mp hr with hr | hr
      · exact ⟨r, List.mem_append_left _ hr, c1, c2⟩
      · have e : r = l := by simpa using hr
        subst e
        exact ⟨(r.1, m), by simp, c1, by show q.2 ≤ m; omega⟩
    · have e : q = p := by simpa using hq
      subst e
      exact ⟨(l.1, m), by simp, h1, by show q.2 ≤ m; omega⟩
  · rcases List.mem_append.mp hr with hr | hr
    · obtain ⟨q, hq, e⟩ := h.low r (List.mem_append_left _ hr)
      exact ⟨q, List.mem_append_left _ hq, e⟩
    · have e : r = (l.1, m) := by simpa using hr
      obtain ⟨q, hq, e2⟩ := h.low l (by simp)
      exact ⟨q, List.mem_append_left _ hq, by rw [e]; exact e2⟩
theorem TidI.add {R qs : List Pr} {p : Pr} (h : TidI R qs) (h3 : p.1 ≤ p.2) (hl : ∀ r ∈ R, r.2 + 2 ≤ p.1) : TidI (R ++ [p]) (qs ++ [p]) := by
  refine ⟨h.ap.snoc h3 hl, fun n => by rw [inP_snoc, inP_snoc, h.mem n], fun q hq hle => ?_, fun r hr => ?_⟩
  · rcases List.mem_append.mp hq with hq | hq
    · obtain ⟨r, hr, c⟩ := h.cov q hq hle
      exact ⟨r, List.mem_append_left _ hr, c⟩
    · have e : q = p := by simpa using hq
      subst e
      exact ⟨q, by simp, Int.le_refl _, Int.le_refl _⟩
  · rcases List.mem_append.mp hr with hr | hr
    · obtain ⟨q, hq, e⟩ := h.low r hr
      exact ⟨q, List.mem_append_left _ hq, e⟩
    · have e : r = p := by simpa using hr
      exact ⟨p, by simp, by rw [e]⟩
/-- behind the last one all others end lower -/
theorem Apart.last {R : List Pr} {l : Pr} (h : Apart (R ++ [l])) {c : Int} (hc : l.2 + 2 ≤ c) : ∀ r ∈ R ++ [l], r.2 + 2 ≤ c := fun r hr => by
  obtain ⟨a1, a2, a3⟩ := h.init
  rcases List.mem_append.mp hr with hr | hr
  · have := a3 r hr; omega
  · have e : r = l := by simpa using hr
    rw [e]; exact hc
theorem inP_perm {ps qs : List Pr} (h : ps.Perm qs) (n : Int) : inP ps n = inP qs n := by
  unfold inP
  rw [Bool.eq_iff_iff, List.any_eq_true, List.any_eq_true]
  exact ⟨fun ⟨x, hx, e⟩ => ⟨x, h.mem_iff.mp hx, e⟩, fun ⟨x, hx, e⟩ => ⟨x, h.mem_iff.mpr hx, e⟩⟩
theorem TidI.perm {R qs ps : List Pr} (h : TidI R qs) (p : qs.Perm ps) : TidI R ps := ⟨h.ap, fun n => (h.mem n).trans (inP_perm p n), fun q hq => h.cov q (p.mem_iff.mpr hq), fun r hr => let ⟨q, hq, e⟩ := h.low r hr; ⟨q, p.mem_iff.mp hq, e⟩⟩
end L2

namespace L2
open PySem PySem.Spec PyProof.Rows
/-! ### a def of the text that may be called, bundled -/
def Callee (P : Program) (w : World) (K : PySem.W.Frag) (mg : Str → Option Value) (base : Heap) (k : Nat) (x : Str) (ps : List Str) (sp : Sp) : Prop :=
  ∃ f fd, FnOk P w K mg base CX0 k f fd ps sp ∧ Binds K fd ps [] ∧ PySem.W.keepIn K (.ref f) = true ∧ mg x = some (.ref f)
theorem Callee.mono {P : Program} {w : World} {K : PySem.W.Frag} {mg : Str → Option Value} {base : Heap} {j k : Nat} {x : Str} {ps : List Str} {sp : Sp} (C : Callee P w K mg base j x ps sp) (h : j ≤ k) : Callee P w K mg base k x ps sp := by
  obtain ⟨f, fd, F, r⟩ := C
  exact ⟨f, fd, F.mono h, r⟩
section
variable {X : Cx} {k : Nat} {x : Str} {ps : List Str} {sp : Sp} {e : Expr} {es : List Expr} {t : TA} {p pos : Pos}
/-- f(..) of a bundled def -/
def tFn (sp : Sp) (t : TA) : TE := fun σ H Q => t σ H fun vs H1 => sp vs H1 Q E0
theorem pe_fn (C : Callee X.prog X.w X.K X.mg X.base k x ps sp) (hr : Room k X.A) (hg : Gl X x) (ha : PA X (e :: es) t) (hdb : (x == ("__debug__" : Str)) = false := by decide)
    (he : starEach (e :: es) X.env = (false, eval e X.env) :: starEach es X.env := by rfl) (hpl : (backTo pos (starEach es X.env)).any (·.1) = false := by rfl) : PE X (.Call (.Name x p) (e :: es) [] pos) (tFn sp t) := by
  obtain ⟨f, fd, F, b, kk, m⟩ := C
  have h := pe_call (E := E0) (dvs := []) (ds := []) (p := p) F hr hg m kk b .nil pass0 ha hdb he hpl
  intro pins s σ H Q I q
  refine h pins s σ H Q I ?_
  have q' : t σ H fun vs H1 => sp vs H1 Q E0 := q
  have e1 : (fun (vs : List V) (H1 : Hp) => sp (vs ++ []) H1 Q E0) = fun vs H1 => sp vs H1 Q E0 := by
    funext vs H1
    rw [List.append_nil]
  show t σ H fun vs H1 => sp (vs ++ []) H1 Q E0
  rw [e1]
  exact q'
end
/-! ### a block with a word between its first statement and the rest -/
def tCut (t u : TS) : TS := fun D σ H => ∃ M : St → Hp → Prop, t { D with nx := M } σ H ∧ ∀ σ' H', M σ' H' → u D σ' H'
theorem pss_cut {X : Cx} {st : Stmt} {rest : List Stmt} {t u : TS} (h1 : PS X st t) (h2 : PSs X rest u) : PSs X (st :: rest) (tCut t u) := by
  intro pins s σ H D I ⟨M, a, b⟩
  refine wpAny_execs_cons (thn (h1 pins s σ H { D with nx := M } I a) fun fl s1 q => ?_)
  cases fl with
  | next => obtain ⟨σ', H', I', q⟩ := q; exact h2 pins s1 σ' H' D I' (b σ' H' q)
  | ret v => exact q
  | brk => exact q
  | cont => exact q
/-! ### isinstance(x, T), T a built-in type -/
section
variable {X : Cx}
end
/-! ### == and != of lists -/
/-- what == says of two items of lists: plain values; one object; two tuples of plain values -/
inductive EqI (K : PySem.W.Frag) (H : Hp) : V → V → Bool → Prop where
  | flat {x y : V} (fx : flatV x = true) (fy : flatV y = true) : EqI K H x y (eqV x y)
  | same (a : Addr) : EqI K H (.ref a) (.ref a) true
  | tup {a b : Addr} {xs ys : List V} (ha : SqT K H a xs) (hb : SqT K H b ys) (fx : xs.all flatV = true) (fy : ys.all flatV = true) : EqI K H (.ref a) (.ref b) (decide (xs.length = ys.length) && (List.zipWith eqV xs ys).all id)
theorem eqV_refl : ∀ {x : V}, flatV x = true → eqV x x = true
  | .non, _ => rfl
  | .bl b, _ => by simp [eqV]
  | .int i, _ => by simp [eqV]
  | .str z, _ => by simp [eqV]
theorem eqAll_refl : ∀ {xs : List V}, xs.all flatV = true → (List.zipWith eqV xs xs).all id = true
  | [], _ => rfl
  | x :: xs, h => by
    rw [List.all_cons, Bool.and_eq_true] at h
    rw [List.zipWith_cons_cons, List.all_cons, eqAll_refl h.2, Bool.and_true]
    exact eqV_refl h.1
theorem all_range_zip {f : Nat → Bool} : ∀ {xs ys : List V}, (∀ j x y, xs[j]? = some x → ys[j]? = some y → f j = eqV x y) → (List.range (min xs.length ys.length)).all f = (List.zipWith eqV xs ys).all id
  | [], ys, _ => by simp
  | x :: xs, [], _ => by simp
  | x :: xs, y :: ys, h => by
    have ih := all_range_zip (f := fun j => f (j + 1)) (xs := xs) (ys := ys) fun j a b e1 e2 => h (j + 1) a b (by simpa using e1) (by simpa using e2)
    have e0 := h 0 x y rfl rfl
    have em : min (x :: xs).length (y :: ys).length = min xs.length ys.length + 1 := by simp only [List.length_cons]; omega
    rw [em, List.range_succ_eq_map, List.all_cons, List.zipWith_cons_cons, List.all_cons, List.all_map, e0]
    show (eqV x y && (List.range (min xs.length ys.length)).all (fun j => f (j + 1))) = _
    rw [ih]
    rfl
section
variable {X : Cx} {pins : List (Addr × Obj)} {σ : St} {H : Hp} {s : Shared}
theorem EqI.at {A : Around} {x y : V} {u v : Value} {b : Bool} (e : EqI X.K H x y b) (I : Inv X pins σ H s) (hu : A.units + 1 < cLine) (rx : RelV x u) (ry : RelV y v) : SeqAt.EqAt A s u v b := by
  cases e with
  | flat fx fy => exact eqAt_V rx ry fx fy
  | same a =>
    cases (show u = Value.ref a from rx)
    cases (show v = Value.ref a from ry)
    exact SeqAt.EqAt.same _
  | @tup a b xs ys ha hb fx fy =>
    cases (show u = Value.ref a from rx)
    cases (show v = Value.ref b from ry)
    by_cases z : a = b
    · subst z
      have e := I.tuple_inj ha hb
      subst e
      rw [eqAll_refl fx, decide_eq_true rfl]
      exact SeqAt.EqAt.same _
    · obtain ⟨its, r, p, _⟩ := I.tuple ha
      obtain ⟨its', r', p', _⟩ := I.tuple hb
      have l1 := r.length
      have l2 := r'.length
      have h0 := SeqAt.RcAt.tuples (A := A) (e := fun j => match its[j]?, xs[j]?, ys[j]? with | _, some x, some y => eqV x y | _, _, _ => false) (show s.heap.IsTuple a its.toArray from p) (show s.heap.IsTuple b its'.toArray from p') (by omega) (fun j h1 h2 => by
        have j1 : j < its.length := by simpa using h1
        have j2 : j < its'.length := by simpa using h2
        have x1 : xs[j]? = some xs[j] := List.getElem?_eq_getElem (by omega)
        have y1 : ys[j]? = some ys[j] := List.getElem?_eq_getElem (by omega)
        obtain ⟨u1, q1, r1⟩ := r.get x1
        obtain ⟨u2, q2, r2⟩ := r'.get y1
        have eu : its.toArray[j] = u1 := by
          have := List.getElem?_eq_getElem j1
          rw [this] at q1; simpa using Option.some.inj q1
        have ev : its'.toArray[j] = u2 := by
          have := List.getElem?_eq_getElem j2
          rw [this] at q2; simpa using Option.some.inj q2
        rw [eu, ev]
        rw [x1, y1]
        have f1 : flatV xs[j] = true := List.all_eq_true.mp fx _ (List.getElem_mem _)
        have f2 : flatV ys[j] = true := List.all_eq_true.mp fy _ (List.getElem_mem _)
        exact eqAt_V r1 r2 f1 f2)
      have h1 := SeqAt.EqAt.of_refs z h0
      have e1 : ((List.range (min its.toArray.size its'.toArray.size)).all fun j => match its[j]?, xs[j]?, ys[j]? with | _, some x, some y => eqV x y | _, _, _ => false) = (List.zipWith eqV xs ys).all id := by
        have es : min its.toArray.size its'.toArray.size = min xs.length ys.length := by simp only [List.size_toArray]; omega
        rw [es]
        exact all_range_zip fun j x y q1 q2 => by rw [q1, q2]
      rw [e1] at h1
      have e2 : (its.toArray.size == its'.toArray.size) = decide (xs.length = ys.length) := by
        simp only [List.size_toArray, ← l1, ← l2]
        exact Bool.beq_eq_decide_eq _ _
      rw [e2, Bool.and_comm] at h1
      exact h1
end
/-- == (neg: !=) of two lists -/
inductive rEqL (K : PySem.W.Frag) (neg : Bool) (x : V) (y : V) (H : Hp) (Q : VK) : Prop
  | mk (a b xs ys : _) (_ : x = .ref a) (_ : y = .ref b) (_ : SqL K H a xs) (_ : SqL K H b ys) (_ : ((xs.length ≠ ys.length ∧ Q (.bl neg) H) ∨ (xs.length = ys.length ∧ ∃ f : Nat → Bool, (∀ j x y, xs[j]? = some x → ys[j]? = some y → EqI K H x y (f j)) ∧ Q (.bl (if neg then !(List.range xs.length).all f else (List.range xs.length).all f)) H))) : rEqL K neg x y H Q
section
variable {X : Cx}
theorem eqs_at {pins : List (Addr × Obj)} {σ : St} {H : Hp} {s : Shared} {A : Around} {xs ys : List V} {its its' : List Value} {f : Nat → Bool} (I : Inv X pins σ H s) (hu : A.units + 1 < cLine) (r : Vals xs its) (r' : Vals ys its')
    (hf : ∀ j x y, xs[j]? = some x → ys[j]? = some y → EqI X.K H x y (f j)) : ∀ j (h1 : j < its.toArray.size) (h2 : j < its'.toArray.size), SeqAt.EqAt A s its.toArray[j] its'.toArray[j] (f j) := fun j h1 h2 => by
  have j1 : j < its.length := by simpa using h1
  have j2 : j < its'.length := by simpa using h2
  have l1 := r.length
  have l2 := r'.length
  have x1 : xs[j]? = some xs[j] := List.getElem?_eq_getElem (by omega)
  have y1 : ys[j]? = some ys[j] := List.getElem?_eq_getElem (by omega)
  obtain ⟨u1, q1, r1⟩ := r.get x1
  obtain ⟨u2, q2, r2⟩ := r'.get y1
  have eu : its.toArray[j] = u1 := by
    have := List.getElem?_eq_getElem j1
    rw [this] at q1; simpa using Option.some.inj q1
  have ev : its'.toArray[j] = u2 := by
    have := List.getElem?_eq_getElem j2
    rw [this] at q2; simpa using Option.some.inj q2
  rw [eu, ev]
  exact (hf j _ _ x1 y1).at I hu r1 r2
end
/-! ### what stays -/
/-- every tuple stays -/
def SameT (H H' : Hp) : Prop := ∀ b xs, H b = some (.tup xs) → H' b = some (.tup xs)
theorem Same.tups {H H' : Hp} (h : Same H H') : SameT H H' := fun b xs e => h b _ e
theorem SameT.trans {H H1 H2 : Hp} (a : SameT H H1) (b : SameT H1 H2) : SameT H H2 := fun c xs e => b c xs (a c xs e)
theorem sameT_new {H : Hp} {p : Addr} {o : HO} (h : H p = none) : SameT H (upd H p o) := fun b xs e => by rw [upd_ne (ne_of_none e h)]; exact e
theorem sameT_lst {H : Hp} {p : Addr} {o : HO} {ys : List V} (h : H p = some (.lst ys)) : SameT H (upd H p o) := fun b xs e => by rw [upd_ne (ne_of e h (by intro z; cases z))]; exact e
theorem same_new {H : Hp} {p : Addr} (h : H p = none) (o : HO) : Same H (upd H p o) := fun b u q => by rw [upd_ne (ne_of_none q h)]; exact q
/-- an address that was free is changed -/
theorem Same.upd {H H' : Hp} {p : Addr} {o : HO} (s : Same H H') (h : H p = none) : Same H (upd H' p o) := fun b u q => by rw [upd_ne (ne_of_none q h)]; exact s b u q
/-! ### lists of pairs -/
def PL (H : Hp) : List V → List (Int × Int) → Prop := Paired fun x p => ∃ r, x = .ref r ∧ H r = some (.tup [.int p.1, .int p.2])
theorem PL.mono {H H' : Hp} {xs : List V} {ps : List (Int × Int)} (h : PL H xs ps) (s : SameT H H') : PL H' xs ps := Paired.mapP h fun _ _ ⟨r, e, z⟩ => ⟨r, e, s r _ z⟩
theorem PL.get {H : Hp} : ∀ {xs : List V} {ps : List (Int × Int)} {i : Nat} {x : V}, PL H xs ps → xs[i]? = some x → ∃ p r, ps[i]? = some p ∧ x = .ref r ∧ H r = some (.tup [.int p.1, .int p.2])
  | _, _, _, _, .nil, e => by simp at e
  | _, _, 0, _, .cons (b := b) ⟨r, e1, z⟩ _, e => by simp at e; subst e; exact ⟨b, r, rfl, e1, z⟩
  | _, _, i + 1, x, .cons _ t, e => by
    obtain ⟨p, r, q⟩ := PL.get (i := i) (x := x) t (by simpa using e)
    exact ⟨p, r, by simpa using q.1, q.2⟩
theorem PL.length {H : Hp} {xs : List V} {ps : List (Int × Int)} (h : PL H xs ps) : xs.length = ps.length := Paired.length h
theorem PL.snoc {H : Hp} {xs : List V} {ps : List (Int × Int)} {r : Addr} {a b : Int} (h : PL H xs ps) (e : H r = some (.tup [.int a, .int b])) : PL H (xs ++ [.ref r]) (ps ++ [(a, b)]) := Paired.snoc h ⟨r, rfl, e⟩
theorem PL.last {H : Hp} {xs : List V} {ps : List (Int × Int)} (h : PL H xs ps) (hn : xs ≠ []) : ∃ xs' r ps' p, xs = xs' ++ [.ref r] ∧ ps = ps' ++ [p] ∧ PL H xs' ps' ∧ H r = some (.tup [.int p.1, .int p.2]) := by
  induction h with
  | nil => exact absurd rfl hn
  | @cons a b l1 l2 hd tl ih =>
    cases tl with
    | nil =>
      obtain ⟨r, e, z⟩ := hd
      exact ⟨[], r, [], b, by rw [e]; rfl, rfl, .nil, z⟩
    | @cons a2 b2 l3 l4 hd2 tl2 =>
      obtain ⟨xs', r, ps', p, e1, e2, h3, h4⟩ := ih (by simp)
      exact ⟨a :: xs', r, b :: ps', p, by rw [e1]; rfl, by rw [e2]; rfl, .cons hd h3, h4⟩
/-! ### lists of triples of ints -/
abbrev Tr := Int × Int × Int
def TL (H : Hp) : List V → List Tr → Prop := Paired fun x t => ∃ r, x = .ref r ∧ H r = some (.tup [.int t.1, .int t.2.1, .int t.2.2])
theorem V.int_inj {i j : Int} (h : V.int i = V.int j) : i = j := by cases h; rfl
theorem dec_int_t {i j : Int} (h : decide (V.int i = V.int j) = true) : i = j := V.int_inj (of_decide_eq_true h)
theorem dec_int_f {i j : Int} (h : ¬ decide (V.int i = V.int j) = true) : i ≠ j := fun e => h (decide_eq_true (congrArg V.int e))
theorem dec_t {p : Prop} [Decidable p] (h : decide p = true) : p := of_decide_eq_true h
theorem dec_f {p : Prop} [Decidable p] (h : ¬ decide p = true) : ¬ p := fun e => h (decide_eq_true e)
end L2

namespace L2
open PySem PySem.Spec PyProof.Rows
/-! ### rules that name the written part by itself (within a block) -/
/-! ### a list comprehension with one clause whose target is a plain name -/
/-- the block's context: nothing raises in it; the frames that run are the def's own and its callers' -/
def cmpCx (X : Cx) (N : List Str) (scope : Scope) (cl : List (Str × Addr)) (fp : List Addr) (C : Addr) (s2 : Shared) (H2 : Hp) : Cx :=
  { prog := X.prog, w := X.w, K := X.K, mg := X.mg, base := X.base, A := X.A, N := N, s₀ := s2, H₀ := H2, env := compEnvC scope cl C X.env, outer := X.stack, stack := X.stack, ex := fp, fn := fun _ => false, calm := X.calm, pn := [], xe := fun _ _ => False }
/-- the tests of a clause -/
def PIf (X : Cx) (ifs : List Expr) (t : TT) : Prop :=
  ∀ (pins : List (Addr × Obj)) (s : Shared) (σ : St) (H : Hp) (Q : Bool → Hp → Prop), Inv X pins σ H s → t σ H Q →
    wpAny (model X.prog X.w) X.A (forIn ifs true fun c r => if r = true then do let ok ← isTrue c X.env (eval c X.env); pure (ForInStep.yield ok) else pure (ForInStep.yield r)) (TP X pins σ Q) X.xe s
def tYes : TT := fun _ H Q => Q true H
theorem pif_nil {X : Cx} : PIf X [] tYes := fun _ _ _ H _ I h => wpAny_tests_nil ⟨H, I, h⟩
/-- what is asked of the block's names: N its slots (the target first, then the def's own names that it sees), fr where these stand among the def's slots -/
structure CmpOk (X : Cx) (N : List Str) (fr : List Nat) (scope : Scope) (cl : List (Str × Addr)) (x : Str) : Prop where
  clos : closureFor scope X.env = pure cl
  kind : scope.kind = .function
  nocell : ∀ y ∈ scope.names, y.2 ≠ .cell
  names : ∀ y ∈ scope.names, y.2 = .local → scope.names.lookup y.1 = some .local
  hx : scope.names.lookup x = some .local
  nd : N.Nodup
  n0 : N[0]? = some x
  len : N.length = fr.length + 1
  sub : ∀ (i : Nat) (y : Str), N[i + 1]? = some y → ∃ j, fr[i]? = some j ∧ X.N[j]? = some y ∧ (X.env.kindOf y = some .cell ∨ X.env.kindOf y = some .free) ∧ ((relabel scope X.env).names.lookup y = some .cell ∨ (relabel scope X.env).names.lookup y = some .free)
  cells : ∀ y c, cl.lookup y = some c → X.env.cells.lookup y = some c
  has : ∀ y, ((relabel scope X.env).names.lookup y = some .cell ∨ (relabel scope X.env).names.lookup y = some .free) → ∃ c, cl.lookup y = some c
/-- a block that sees names of the def: those are cells there -/
theorem cmpOk_free {X : Cx} {N : List Str} {fr : List Nat} {scope : Scope} {cl : List (Str × Addr)} {x : Str} (clos : closureFor scope X.env = pure cl) (kind : scope.kind = .function) (nocell : ∀ y ∈ scope.names, y.2 ≠ .cell)
    (names : ∀ y ∈ scope.names, y.2 = .local → scope.names.lookup y.1 = some .local) (hx : scope.names.lookup x = some .local) (nd : N.Nodup) (n0 : N[0]? = some x) (len : N.length = fr.length + 1)
    (sub : ((List.range fr.length).all fun i => match N[i + 1]?, fr[i]? with | some y, some j => (X.N[j]? == some y) && ((X.env.kindOf y == some .cell) && ((relabel scope X.env).names.lookup y == some .cell)) | _, _ => false) = true)
    (cells : ∀ p ∈ cl, X.env.cells.lookup p.1 = some p.2) (has : ((relabel scope X.env).names.all fun p => (p.2 != .cell && p.2 != .free) || (cl.lookup p.1).isSome) = true) : CmpOk X N fr scope cl x := by
  refine ⟨clos, kind, nocell, names, hx, nd, n0, len, fun i y e => ?_, fun y c e => cells _ (PySem.mem_of_lookup e), fun y h => ?_⟩
  · have hi : i < fr.length := by have := (List.getElem?_eq_some_iff.mp e).1; omega
    have z := List.all_eq_true.mp sub i (List.mem_range.mpr hi)
    rw [e, List.getElem?_eq_getElem hi] at z
    simp only [Bool.and_eq_true, beq_iff_eq] at z
    exact ⟨_, List.getElem?_eq_getElem hi, z.1, .inl z.2.1, .inl z.2.2⟩
  · have look : ∀ k, (relabel scope X.env).names.lookup y = some k → (k = .cell ∨ k = .free) → ∃ c, cl.lookup y = some c := fun k e hk => by
      have z := List.all_eq_true.mp has _ (PySem.mem_of_lookup e)
      rcases hk with rfl | rfl
      · exact Option.isSome_iff_exists.mp (by simpa using z)
      · exact Option.isSome_iff_exists.mp (by simpa using z)
    rcases h with h | h
    · exact look _ h (.inl rfl)
    · exact look _ h (.inr rfl)
def cmpSt (σ : St) (fr : List Nat) (x : Option V) : St := x :: fr.map fun j => (σ[j]?).join
/-- the comprehension's reading: D the new list, W the invariant by the turn and a measure -/
def CompAt (J : It) (fr : List Nat) (tt : TT) (te : TE) (σ : St) (Q : VK) (H1 : Hp) : Prop := ∀ D, H1 D = none → ∃ W : Nat → Nat → Hp → Prop, (∃ m, W 0 m (upd H1 D (.lst []))) ∧ ∀ i m H, W i m H →
  (J.stop i H ∧ Q (.ref D) H) ∨ (J.go i H ∧ ∀ x H', J.yld i H x H' → tt (cmpSt σ fr (some x)) H' fun b H2 => if b = true then te (cmpSt σ fr (some x)) H2 fun y H3 => ∃ ys, H3 D = some (.lst ys) ∧ ys.length < sizeLine ∧ ∃ m', m' < m ∧ W (i + 1) m' (upd H3 D (.lst (ys ++ [y])))
    else ∃ m', m' < m ∧ W (i + 1) m' H2)
def tComp (wi : TI) (fr : List Nat) (tt : TT) (te : TE) : TE := fun σ H Q => wi σ H fun J H1 => CompAt J fr tt te σ Q H1
section
variable {prog : Program} {w : World} {A : Around} {R : Result → Shared → Prop} {s : Shared}
theorem comp_turns {elt target iter : Expr} {ifs : List Expr} {scope : Scope} {pos : Pos} {it acc : Value} {env : Env} (J : Nat → Shared → Prop)
    (turn : ∀ n s, J n s → wpAny (model prog w) A (pyNext it) (fun r s1 => match r with
      | none => R (.ok .next) s1
      | some v => wpAny (model prog w) A (letOwnedTupleGo target it v) (fun _ s2 => wpAny (model prog w) A (assign target env v) (fun _ s3 =>
          wpAny (model prog w) A (forIn ifs true fun c r => if r = true then do let ok ← isTrue c env (eval c env); pure (ForInStep.yield ok) else pure (ForInStep.yield r)) (fun ok s4 =>
            if ok = true then wpAny (model prog w) A (eval elt env) (fun y s5 => wpAny (model prog w) A (call (.builtin "list.append") [acc, y]) (fun _ s6 => ∃ m, m < n ∧ J m s6) (fun _ _ => False) s5) (fun _ _ => False) s4
            else ∃ m, m < n ∧ J m s4) (fun _ _ => False) s3) (fun _ _ => False) s2) (fun _ _ => False) s1) (fun _ _ => False) s)
    (n : Nat) (h : J n s) : codeAny (model prog w) A (.compLoop (.ListComp elt [⟨target, iter, ifs, 0⟩] scope pos) 0 it acc env) R s := by
  refine codeAny_loop rfl J (fun n s hJ => ?_) n h
  show wpAny _ A ((compTurn (.ListComp elt [⟨target, iter, ifs, 0⟩] scope pos) 0 it acc env).onRaise (fun x => do noteFrame x env; theTreesLotGoes x)) _ _ s
  refine wpAny_noted ?_
  rw [compTurn_list]
  refine wpAny_bind (wpAny_standAt (wpAny_bind (wpAny_mono (turn n s hJ) (fun r s1 h1 => ?_) fun _ _ z => z.elim)))
  cases r with
  | none => exact wpAny_pure h1
  | some v =>
    refine wpAny_bind (wpAny_mono h1 (fun _ s2 h2 => ?_) fun _ _ z => z.elim)
    refine wpAny_bind (wpAny_mono h2 (fun _ s3 h3 => wpAny_bind (wpAny_mono h3 (fun ok s4 h4 => ?_) fun _ _ z => z.elim)) fun _ _ z => z.elim)
    cases ok with
    | false => exact wpAny_pure ⟨rfl, h4⟩
    | true => exact wpAny_bind (wpAny_bind (wpAny_mono h4 (fun y s5 h5 => wpAny_bind (wpAny_mono h5 (fun _ s6 h6 => wpAny_pure (wpAny_pure ⟨rfl, h6⟩)) fun _ _ z => z.elim)) fun _ _ z => z.elim))
end
section
variable {X : Cx} {elt iter : Expr} {ifs : List Expr} {x : Str} {px pos : Pos} {scope : Scope} {cl : List (Str × Addr)} {N : List Str} {fr : List Nat} {tt : TT} {te : TE}
theorem comp_core {pins : List (Addr × Obj)} {σ : St} {s2 : Shared} {H2 : Hp} {it : Addr} {fp : List Addr} {tn : Nat → Heap → Prop} {J : It} {Q : VK} {E : Value → Shared → Prop} {RR : Value → Addr → Result → Shared → Prop}
    (O : CmpOk X N fr scope cl x) (hc : X.calm = true) (I2 : Inv X pins σ H2 s2) (T : Turn X.prog X.w X.K (.Name x px) J fp it tn) (st2 : tn 0 s2.heap) (f2 : ∀ b ∈ fp, FpOk X pins H2 b)
    (ht : ∀ fp C s H, PIf (cmpCx X N scope cl fp C s H) ifs tt) (he : ∀ fp C s H, PE (cmpCx X N scope cl fp C s H) elt te)
    (hW : CompAt J fr tt te σ Q H2)
    (fin : ∀ D C s' H', s2.heap.objs.size ≤ C → H' C = none → (∃ m, s'.heap.Ns C m) → Inv X pins σ H' s' → Q (.ref D) H' → RR (.ref D) C (.ok .next) s') :
    wpAny (model X.prog X.w) X.A (newList []) (fun acc s3 => wpAny (model X.prog X.w) X.A (newFunctionEnv scope X.env.globals cl [] X.env.qual none .none (some X.env)) (fun cenv s4 =>
      codeAny (model X.prog X.w) X.A (.compStart (.ListComp elt [⟨.Name x px, iter, ifs, 0⟩] scope pos) 0 (.ref it) acc { cenv with scope := relabel scope X.env }) (RR acc cenv.locals) s4) E s3) E s2 := by
  refine wpAny_newObj_type (wpAny_newFunctionEnv O.nocell (by intro y hy; simp at hy) (fun h1 hns hsb => ?_) O.kind)
  dsimp only at hns hsb ⊢
  generalize hG : s2.heap.push { cls := .type "list", dict := none, data := .seq ([] : List Value).toArray } = G at hns hsb ⊢
  have hC : G.objs.size = s2.heap.objs.size + 1 := by rw [← hG, Heap.size_push]
  have old : ∀ b o, s2.heap.get? b = some o → h1.get? b = some o := fun b o e => hsb.extBut b o (Nat.ne_of_lt (by rw [hC]; exact Nat.lt_succ_of_lt (Heap.lt_size e))) (Heap.get?_push_of_some _ (hG ▸ Heap.get?_push_of_some _ e))
  have hacc : h1.get? s2.heap.objs.size = some { cls := .type "list", data := .seq ([] : List Value).toArray 0 } := hsb.extBut _ _ (Nat.ne_of_lt (by rw [hC]; exact Nat.lt_succ_self _)) (Heap.get?_push_of_some _ (hG ▸ Heap.get?_push_size _ rfl))
  have hD : H2 s2.heap.objs.size = none := I2.fresh
  have okX : (cmpCx X N scope cl fp G.objs.size s2 H2).Ok := by
    refine ⟨I2.ok.mod, O.kind, I2.ok.glob, I2.ok.blt, by show s2.heap.objs.size ≤ G.objs.size; rw [hC]; exact Nat.le_succ _, fun y z c e1 e2 => I2.ok.inj y z c (O.cells y c e1) (O.cells z c e2), fun y hy => O.has y hy, fun y c z => absurd (show false = true from z) Bool.false_ne_true, I2.ok.hd, I2.ok.frames, .inl rfl,
      fun b hb => ⟨?_, fun y c e => (f2 b hb).2.2.2.2.1 y c (O.cells y c e)⟩, I2.bs, Nat.le_trans I2.ok.bsz I2.sz, fun b o e hb => ?_, fun b hb z => ?_, I2.stack, I2.stkFree⟩
    · obtain ⟨o, e, _⟩ := T.obj _ _ st2 b hb
      show b ≠ G.objs.size
      exact Nat.ne_of_lt (by rw [hC]; exact Nat.lt_succ_of_lt (Heap.lt_size e))
    · rcases (f2 b hb).2.2.2.1 with z | z
      · exact I2.ok.noex b o e z
      · exact absurd (Nat.lt_of_lt_of_le (Heap.lt_size e) (Nat.le_trans I2.ok.bsz z)) (Nat.lt_irrefl _)
    · rcases List.mem_cons.mp (I2.stkSub b z) with z | z
      · exact (f2 b hb).2.1 z
      · exact (f2 b hb).2.2.1 z
  have statX : ∀ {H' : Hp}, (∀ b ∈ fp, H' b = none) → ∀ b ∈ fp, FpOk (cmpCx X N scope cl fp G.objs.size s2 H2) [] H' b := fun hn b hb =>
    ⟨hn b hb, (okX.exf b hb).1, okX.exfs b hb, .inl hb, (okX.exf b hb).2, fun p hp => absurd (show p ∈ ([] : List (Addr × Obj)) from hp) (by simp)⟩
  have I' : Inv (cmpCx X N scope cl fp G.objs.size s2 H2) [] (cmpSt σ fr none) (upd H2 s2.heap.objs.size (.lst [])) { s2 with heap := h1, toks := s2.toks + ([] : List (Str × Value)).length } := by
    refine ⟨okX, rfl, I2.bare, Un.laid old (Nat.le_refl _) hD, ⟨_, hns, fun i y v e1 e2 e3 => ?_⟩, fun y c e => ?_, ?_, fun y c e => ?_, fun p hp => absurd (show p ∈ ([] : List (Addr × Obj)) from hp) (by simp), I2.hok.laid old (Nat.le_refl _) ⟨Nat.zero_le _, [], 0, .nil, hacc⟩, ?_⟩
    · cases i with
      | zero => cases e2
      | succ i =>
        obtain ⟨j, q1, q2, q3, q4⟩ := O.sub i y e1
        have e2' : (σ[j]?).join = some v := by
          have : (fr.map fun j => (σ[j]?).join)[i]? = some (some v) := e2
          rw [List.getElem?_map, q1] at this
          exact Option.some.inj this
        have e4 : σ[j]? = some (some v) := by
          cases z : σ[j]? with
          | none => rw [z] at e2'; cases e2'
          | some t => rw [z] at e2'; exact congrArg some e2'
        obtain ⟨m, _, hl⟩ := I2.loc
        have vis : Vis X.env.scope y := .inr q3
        obtain ⟨u, r, l⟩ := hl j y v q2 e4 vis
        refine ⟨u, r, .inr ⟨q4, ?_⟩⟩
        obtain ⟨c', hc'⟩ := O.has y q4
        rcases l with ⟨k, _⟩ | ⟨_, c, ec, ic⟩
        · rcases q3 with z | z
          · rw [z] at k; cases k
          · rw [z] at k; cases k
        · have := O.cells y c' hc'
          have e' : c = c' := Option.some.inj (ec.symm.trans this)
          obtain ⟨o, ho, hd⟩ := ic
          rw [e'] at ho
          exact ⟨c', hc', o, old c' o ho, hd⟩
    · obtain ⟨v, o, ho, hd⟩ := I2.cell y c (O.cells y c e)
      exact ⟨v, o, old c o ho, hd⟩
    · show upd H2 s2.heap.objs.size (.lst []) G.objs.size = none
      rw [upd_ne (Nat.ne_of_gt (by rw [hC]; exact Nat.lt_succ_self _))]
      exact I2.hok.fresh (by rw [hC]; exact Nat.le_succ _)
    · obtain ⟨v, o, ho, hd⟩ := I2.cell y c (O.cells y c e)
      rw [upd_ne (Nat.ne_of_lt (Heap.lt_size ho))]
      exact I2.freeC y c (O.cells y c e)
    · show (cmpSt σ fr none).length = N.length
      rw [O.len]; simp [cmpSt]
  have st1 : tn 0 h1 := T.keep _ _ _ st2 fun b hb o e => old b o e
  have loop : ∀ s3 : Shared, s3 = { s2 with heap := h1, toks := s2.toks + ([] : List (Str × Value)).length } →
      codeAny (model X.prog X.w) X.A (.compLoop (.ListComp elt [⟨.Name x px, iter, ifs, 0⟩] scope pos) 0 (.ref it) (.ref s2.heap.objs.size) (compEnvC scope cl G.objs.size X.env)) (RR (.ref s2.heap.objs.size) G.objs.size) s3 := by
    rintro s3 rfl
    obtain ⟨W, ⟨m0, w0⟩, turn⟩ := hW _ hD
    refine comp_turns (fun n s' => ∃ i t H', Inv (cmpCx X N scope cl fp G.objs.size s2 H2) [] (cmpSt σ fr t) H' s' ∧ tn i s'.heap ∧ (∀ b ∈ fp, H' b = none) ∧ W i n H') ?_ m0
      ⟨0, none, _, I', st1, fun b hb => by
        rw [upd_ne (by obtain ⟨o, e, _⟩ := T.obj _ _ st2 b hb; exact Nat.ne_of_lt (Heap.lt_size e))]
        exact (f2 b hb).1, w0⟩
    rintro n s' ⟨i, t, H', I3, st3, fr3, w3⟩
    rcases turn i n H' w3 with ⟨stop, qn⟩ | ⟨go, step⟩
    · refine thn (T.done (cmpCx X N scope cl fp G.objs.size s2 H2) rfl rfl rfl hc i [] s' _ H' _ I3 (statX fr3) st3 stop) fun r s4 ⟨hr, I4⟩ => ?_
      subst hr
      obtain ⟨m, hm, _⟩ := I4.loc
      refine fin _ _ s4 H' (by rw [hC]; exact Nat.le_succ _) I4.free ⟨m, hm⟩ (I2.call' (ch := fp) I4.os I4.base I4.hok I4.bare fun b hb => ?_) qn
      exact ⟨(f2 b hb).2.2.2.1, (f2 b hb).2.1, (f2 b hb).2.2.2.2.1, (f2 b hb).2.2.2.2.2⟩
    · refine thn (T.item (cmpCx X N scope cl fp G.objs.size s2 H2) rfl rfl rfl hc i [] s' _ H' _ I3 (statX fr3) st3 go) fun r s4 ⟨u, hr, h4⟩ => ?_
      subst hr
      refine thn h4 fun _ s5 ⟨y, H5, I5, r5, y5, st5, fr5⟩ => ?_
      have I5' := I5.pinned (statX fr5) (T.obj _ _ st5)
      have lx : (cmpCx X N scope cl fp G.objs.size s2 H2).env.scope.names.lookup x = some .local := lookup_relabel_local O.hx
      refine thn (pg_name (X := cmpCx X N scope cl fp G.objs.size s2 H2) (i := 0) O.nd O.n0 (.inl lx) (.inr lx) _ s5 _ H5 y u (fun σ' H' => σ' = cmpSt σ fr (some y) ∧ H' = H5) I5' r5 ⟨rfl, rfl⟩) fun _ s6 ⟨σ6, H6, I6, e6, e6'⟩ => ?_
      subst e6; subst e6'
      have again : ∀ {σ7 : St} {H7 : Hp} {s7 : Shared} {m' : Nat}, σ7 = cmpSt σ fr (some y) → Inv (cmpCx X N scope cl fp G.objs.size s2 H2) ([] ++ pinsAt fp s5.heap) σ7 H7 s7 → m' < n → W (i + 1) m' H7 →
          ∃ m, m < n ∧ ∃ i t H', Inv (cmpCx X N scope cl fp G.objs.size s2 H2) [] (cmpSt σ fr t) H' s7 ∧ tn i s7.heap ∧ (∀ b ∈ fp, H' b = none) ∧ W i m H' := fun {σ7 H7 s7 m'} e7 I7 hm w7 => by
        subst e7
        refine ⟨m', hm, i + 1, some y, H7, I7.unpinned, T.keep _ _ _ st5 fun b hb o e => (I7.pin (b, o) (List.mem_append_right _ (List.mem_append_right _ (mem_pinsAt hb e)))).1, fun b hb => ?_, w7⟩
        obtain ⟨o, e, d⟩ := T.obj _ _ st5 b hb
        exact (I7.pin (b, o) (List.mem_append_right _ (List.mem_append_right _ (mem_pinsAt hb e)))).2.1
      refine thn (ht fp G.objs.size s2 H2 _ s6 _ H6 _ I6 (step y H6 y5)) fun ok s7 ⟨H7, I7, q7⟩ => ?_
      cases ok with
      | false =>
        rw [if_neg Bool.false_ne_true] at q7 ⊢
        obtain ⟨m', hm, w7⟩ := q7
        exact again rfl I7 hm w7
      | true =>
        rw [if_pos rfl] at q7 ⊢
        refine thn (he fp G.objs.size s2 H2 _ s7 _ H7 _ I7 q7) fun u8 s8 ⟨v8, H8, I8, r8, ys, hys, hlen, m', hm, w8⟩ => ?_
        refine thn (mt_append (X := cmpCx X N scope cl fp G.objs.size s2 H2) _ s8 _ H8 (.ref s2.heap.objs.size) [v8] _ [u8] (fun _ H9 => W (i + 1) m' H9) I8 rfl (.cons r8 .nil) ⟨_, ys, v8, rfl, rfl, hys, hlen, w8⟩) fun _ s9 ⟨_, H9, I9, _, w9⟩ => ?_
        exact again rfl I9 hm w9
  exact codeAny_compStart_list (loop _ rfl) (T.self _ 0 _ _ _ st1 (loop _ rfl))
/-- the frame of a block is let go -/
theorem Inv.left {pins : List (Addr × Obj)} {σ σ2 : St} {s2 s' : Shared} {H2 H' : Hp} {C : Addr} {h' : Heap} (I2 : Inv X pins σ2 H2 s2) (I' : Inv X pins σ H' s') (hC : s2.heap.objs.size ≤ C) (hn : H' C = none) (hs : Heap.SameBut C s'.heap h') : Inv X pins σ H' { s' with heap := h' } := by
  refine I'.turned (t' := s'.toks) (it := C) (fun b o hb e => (hs.2 b hb).trans e) hn (Nat.ne_of_gt (Nat.lt_of_lt_of_le I2.lt hC)) (.inr (Nat.le_trans I2.sz hC)) (fun y c e => ?_) fun p hp => ?_
  · obtain ⟨v, o, ho, _⟩ := I2.cell y c e
    exact Nat.ne_of_lt (Nat.lt_of_lt_of_le (Heap.lt_size ho) hC)
  · exact Nat.ne_of_lt (Nat.lt_of_lt_of_le (Heap.lt_size (I2.pin p hp).1) hC)
/-- [elt for x in iter if ..] -/
theorem pe_comp {wi : TI} (hi : PI X (.Name x px) iter wi) (O : CmpOk X N fr scope cl x) (hc : X.calm = true) (ht : ∀ fp C s H, PIf (cmpCx X N scope cl fp C s H) ifs tt) (he : ∀ fp C s H, PE (cmpCx X N scope cl fp C s H) elt te)
    (hs : ∀ v, foldedSetIterable iter X.env v = pure v := by intro _; rfl) : PE X (.ListComp elt [⟨.Name x px, iter, ifs, 0⟩] scope pos) (tComp wi fr tt te) := by
  intro pins s σ H Q I h
  rw [eval_ListComp]
  refine wpAny_comprehension_free (use := none) rfl hs O.clos O.kind O.names (thn (hi pins s σ H _ I h) fun v s1 h1 => thn h1 fun itv s2 h2 => ?_)
  obtain ⟨it, fp, tn, J, H2, e, I2, T, st2, f2, hW⟩ := h2
  subst e
  refine comp_core (RR := fun acc C => compPost (model X.prog X.w) X.A X.xe none (EP X pins σ Q) acc C) O hc I2 T st2 f2 ht he hW fun D C s' H' hC hn ⟨m, hm⟩ I' q => ?_
  exact ⟨m, hm, fun h' hs' => ⟨.ref D, H', I2.left I' hC hn hs', rfl, q⟩⟩
/-- y = [elt for x in iter if ..], both on one row: stored ahead of the block's end -/
theorem ps_comp {wi : TI} {i : Nat} {y : Str} {py spos : Pos} (hN : X.N.Nodup) (hy : X.N[i]? = some y) (hl : Loc X.env.scope y) (hi : PI X (.Name x px) iter wi) (O : CmpOk X N fr scope cl x) (hc : X.calm = true)
    (ht : ∀ fp C s H, PIf (cmpCx X N scope cl fp C s H) ifs tt) (he : ∀ fp C s H, PE (cmpCx X N scope cl fp C s H) elt te) (hs : ∀ v, foldedSetIterable iter X.env v = pure v := by intro _; rfl)
    (hsw : swapsWith (.ListComp elt [⟨.Name x px, iter, ifs, 0⟩] scope pos) (some (.Name y py)) spos.line X.env = pure true := by rfl) (hf : X.fn y = true ∨ X.env.scope.names.lookup y = some .local := by first | exact .inl rfl | exact .inr rfl | assumption) :
    PS X (.Assign [.Name y py] (.ListComp elt [⟨.Name x px, iter, ifs, 0⟩] scope pos) spos) (tAsg (tComp wi fr tt te) (gName i)) := by
  intro pins s σ H D0 I h
  rw [exec_Assign_Name_used _ _ _ _ hsw]
  refine wpAny_bind (wpAny_standAt (wpAny_bind ?_))
  show wpAny _ X.A (do let _ ← comprehension (.ListComp elt [⟨.Name x px, iter, ifs, 0⟩] scope pos) scope X.env _ (newList []) false (eval iter X.env) (some (assign (.Name y py) X.env))) _ _ s
  refine wpAny_bind (wpAny_mono (wpAny_comprehension_free (use := some (assign (.Name y py) X.env)) (Q := fun _ s' => SP X pins D0 .next s') rfl hs O.clos O.kind O.names (thn (hi pins s σ H _ I h) fun v s1 h1 => thn h1 fun itv s2 h2 => ?_)) (fun _ s' hq => wpAny_pure (wpAny_pure hq)) fun _ _ z => z)
  obtain ⟨it, fp, tn, J, H2, e, I2, T, st2, f2, hW⟩ := h2
  subst e
  refine comp_core (Q := fun v H1 => gName i v σ H1 D0.nx) (RR := fun acc C => compPost (model X.prog X.w) X.A X.xe (some (assign (.Name y py) X.env)) (fun _ s' => SP X pins D0 .next s') acc C) O hc I2 T st2 f2 ht he hW fun D C s' H' hC hn ⟨m, hm⟩ I' q => ?_
  show wpAny _ X.A (assign (.Name y py) X.env (.ref D)) _ _ s'
  refine wpAny_assign_Name (store_ok2 I' hN hy hl (v := .ref D) rfl (fun s3 I3 ⟨a, hsa, ha⟩ => ?_) hf)
  have hCa : C ≠ a := by
    rcases ha with z | z
    · rw [z]; exact Nat.ne_of_gt (Nat.lt_of_lt_of_le I2.lt hC)
    · obtain ⟨v, o, ho, _⟩ := I2.cell y a z
      exact Nat.ne_of_gt (Nat.lt_of_lt_of_le (Heap.lt_size ho) hC)
  exact ⟨m, hm.sameBut hsa hCa, fun h' hs' => ⟨_, H', I2.left I3 hC hn hs', q⟩⟩
/-- what is wanted behind a turn that tells nothing; behind one that tells y -/
def CNext (Pv : Addr → Nat → List V → Hp → Prop) (D : Addr) (i n : Nat) (H2 : Hp) : Prop := ∃ m', m' < n - i ∧ m' = n - (i + 1) ∧ i + 1 ≤ n ∧ ∃ zs, Pv D (i + 1) zs H2
def CYes (Pv : Addr → Nat → List V → Hp → Prop) (D : Addr) (i n : Nat) : VK := fun y H3 => ∃ ys, H3 D = some (.lst ys) ∧ ys.length < sizeLine ∧ CNext Pv D i n (upd H3 D (.lst (ys ++ [y])))
theorem CNext.mk {Pv : Addr → Nat → List V → Hp → Prop} {D : Addr} {i n : Nat} {H2 : Hp} {zs : List V} (hi : i < n) (h : Pv D (i + 1) zs H2) : CNext Pv D i n H2 := ⟨n - (i + 1), by omega, rfl, hi, zs, h⟩
theorem CYes.mk {Pv : Addr → Nat → List V → Hp → Prop} {D : Addr} {i n : Nat} {H3 : Hp} {ys : List V} {y : V} (hi : i < n) (e : H3 D = some (.lst ys)) (hl : ys.length < sizeLine) (h : Pv D (i + 1) (ys ++ [y]) (upd H3 D (.lst (ys ++ [y])))) : CYes Pv D i n y H3 := ⟨ys, e, hl, .mk hi h⟩
/-- over a list that the block leaves as it is -/
theorem comp_list {K : PySem.W.Frag} {a : Addr} {xs : List V} {σ : St} {H1 : Hp} {Q : VK} (Pv : Addr → Nat → List V → Hp → Prop) (h0 : ∀ D, H1 D = none → Pv D 0 [] (upd H1 D (.lst [])))
    (hk : ∀ D i ys H, H1 D = none → i ≤ xs.length → Pv D i ys H → SqL K H a xs)
    (hs : ∀ D i x ys H, H1 D = none → xs[i]? = some x → Pv D i ys H → tt (cmpSt σ fr (some x)) H fun b H2 => if b = true then te (cmpSt σ fr (some x)) H2 (CYes Pv D i xs.length) else CNext Pv D i xs.length H2)
    (hd : ∀ D ys H, H1 D = none → Pv D xs.length ys H → Q (.ref D) H) : CompAt (Itl K a) fr tt te σ Q H1 := by
  intro D hD
  refine ⟨fun i m H => m = xs.length - i ∧ i ≤ xs.length ∧ ∃ ys, Pv D i ys H, ⟨_, rfl, Nat.zero_le _, [], h0 D hD⟩, ?_⟩
  rintro i m H ⟨rfl, hi, ys, p⟩
  have q := hk D i ys H hD hi p
  by_cases hlt : i < xs.length
  · refine .inr ⟨⟨xs, xs[i], q, by simp [hlt]⟩, fun x H' y => ?_⟩
    obtain ⟨e, y⟩ := y
    subst e
    exact hs D i x ys _ hD (y xs q) p
  · have e : i = xs.length := by omega
    subst e
    exact .inl ⟨⟨xs, q, Nat.le_refl _⟩, hd D ys H hD p⟩
end
end L2

namespace L2
open PySem PySem.Spec PyProof.Rows
/-! ### a list comprehension whose target is any (a tuple of names): k names of the target first, then the def's own that the block sees -/
structure CmpOkG (X : Cx) (N : List Str) (k : Nat) (fr : List Nat) (scope : Scope) (cl : List (Str × Addr)) : Prop where
  clos : closureFor scope X.env = pure cl
  kind : scope.kind = .function
  nocell : ∀ y ∈ scope.names, y.2 ≠ .cell
  names : ∀ y ∈ scope.names, y.2 = .local → scope.names.lookup y.1 = some .local
  len : N.length = k + fr.length
  sub : ∀ (i : Nat) (y : Str), N[k + i]? = some y → ∃ j, fr[i]? = some j ∧ X.N[j]? = some y ∧ (X.env.kindOf y = some .cell ∨ X.env.kindOf y = some .free) ∧ ((relabel scope X.env).names.lookup y = some .cell ∨ (relabel scope X.env).names.lookup y = some .free)
  cells : ∀ y c, cl.lookup y = some c → X.env.cells.lookup y = some c
  has : ∀ y, ((relabel scope X.env).names.lookup y = some .cell ∨ (relabel scope X.env).names.lookup y = some .free) → ∃ c, cl.lookup y = some c
def cmpStG (σ : St) (fr : List Nat) (ts : St) : St := ts ++ fr.map fun j => (σ[j]?).join
def CompAtG (J : It) (gt : TG) (k : Nat) (fr : List Nat) (tt : TT) (te : TE) (σ : St) (Q : VK) (H1 : Hp) : Prop := ∀ D, H1 D = none → ∃ W : Nat → Nat → Hp → Prop, (∃ m, W 0 m (upd H1 D (.lst []))) ∧ ∀ i m H, W i m H →
  (J.stop i H ∧ Q (.ref D) H) ∨ (J.go i H ∧ ∀ x H', J.yld i H x H' → ∀ ts : St, ts.length = k → gt x (cmpStG σ fr ts) H' fun σ2 H2 => (∃ ts2 : St, ts2.length = k ∧ σ2 = cmpStG σ fr ts2) ∧ tt σ2 H2 fun b H3 => if b = true then te σ2 H3 fun y H4 => ∃ ys, H4 D = some (.lst ys) ∧ ys.length < sizeLine ∧ ∃ m', m' < m ∧ W (i + 1) m' (upd H4 D (.lst (ys ++ [y])))
    else ∃ m', m' < m ∧ W (i + 1) m' H3)
def tCompG (wi : TI) (gt : TG) (k : Nat) (fr : List Nat) (tt : TT) (te : TE) : TE := fun σ H Q => wi σ H fun J H1 => CompAtG J gt k fr tt te σ Q H1
section
variable {X : Cx} {elt iter tg : Expr} {ifs : List Expr} {pos : Pos} {scope : Scope} {cl : List (Str × Addr)} {N : List Str} {k : Nat} {fr : List Nat} {gt : TG} {tt : TT} {te : TE}
theorem compG_list {K : PySem.W.Frag} {a : Addr} {xs : List V} {σ : St} {H1 : Hp} {Q : VK} (Pv : Addr → Nat → List V → Hp → Prop) (h0 : ∀ D, H1 D = none → Pv D 0 [] (upd H1 D (.lst [])))
    (hk : ∀ D i ys H, H1 D = none → i ≤ xs.length → Pv D i ys H → SqL K H a xs)
    (hs : ∀ D i x ys H, H1 D = none → xs[i]? = some x → Pv D i ys H → ∀ ts : St, ts.length = k → gt x (cmpStG σ fr ts) H fun σ2 H2 => (∃ ts2 : St, ts2.length = k ∧ σ2 = cmpStG σ fr ts2) ∧ tt σ2 H2 fun b H3 => if b = true then te σ2 H3 (CYes Pv D i xs.length) else CNext Pv D i xs.length H3)
    (hd : ∀ D ys H, H1 D = none → Pv D xs.length ys H → Q (.ref D) H) : CompAtG (Itl K a) gt k fr tt te σ Q H1 := by
  intro D hD
  refine ⟨fun i m H => m = xs.length - i ∧ i ≤ xs.length ∧ ∃ ys, Pv D i ys H, ⟨_, rfl, Nat.zero_le _, [], h0 D hD⟩, ?_⟩
  rintro i m H ⟨rfl, hi, ys, p⟩
  have q := hk D i ys H hD hi p
  by_cases hlt : i < xs.length
  · refine .inr ⟨⟨xs, xs[i], q, by simp [hlt]⟩, fun x H' y => ?_⟩
    obtain ⟨e, y⟩ := y
    subst e
    exact hs D i x ys _ hD (y xs q) p
  · have e : i = xs.length := by omega
    subst e
    exact .inl ⟨⟨xs, q, Nat.le_refl _⟩, hd D ys H hD p⟩
end
end L2

namespace Srt
open PySem PySem.W PyProof.Rows
/-- the tree's end under an oracle; each question is about places below n -/
def Ok (n : Nat) (lt : Nat → Nat → Bool) {α : Type} : KasT α → (α → Prop) → Prop
  | .ret a, Q => Q a
  | .ask i j k, Q => i < n ∧ j < n ∧ Ok n lt (k (lt i j)) Q
theorem Ok.mono {n : Nat} {lt : Nat → Nat → Bool} {α : Type} : ∀ {t : KasT α} {Q Q' : α → Prop}, Ok n lt t Q → (∀ a, Q a → Q' a) → Ok n lt t Q'
  | .ret _, _, _, h, f => f _ h
  | .ask _ _ _, _, _, h, f => ⟨h.1, h.2.1, Ok.mono h.2.2 f⟩
theorem Ok.bind {n : Nat} {lt : Nat → Nat → Bool} {α β : Type} {f : α → KasT β} {Q : β → Prop} : ∀ {t : KasT α}, Ok n lt t (fun a => Ok n lt (f a) Q) → Ok n lt (t.bind f) Q
  | .ret _, h => h
  | .ask _ _ _, h => ⟨h.1, h.2.1, Ok.bind h.2.2⟩
section
variable {n : Nat} {lt : Nat → Nat → Bool}
abbrev g (p : Array Nat) (i : Nat) : Nat := p.getD i 0
theorem g_eq (p : Array Nat) (i : Nat) : g p i = (p[i]?).getD 0 := by simp [g, Array.getD_eq_getD_getElem?]
/-- p holds places below n alone -/
def Bd (n : Nat) (p : Array Nat) : Prop := 0 < n ∧ ∀ i, g p i < n
theorem g_rev {p : Array Nat} {i j : Nat} (hj : j ≤ p.size) (k : Nat) : g (kas_rev p i j) k = if i ≤ k ∧ k < j then g p (i + j - 1 - k) else g p k := by
  rw [g_eq, g_eq, g_eq]
  unfold kas_rev
  rw [getElem?_mirror_all hj k]
  split <;> rfl
theorem g_bubble {p : Array Nat} {src d : Nat} (hs : src < p.size) (hd : d ≤ src) (k : Nat) : g (bubble p src d) k = if k = src - d then g p src else if src - d < k ∧ k ≤ src then g p (k - 1) else g p k := by
  rw [g_eq, g_eq, g_eq, g_eq, getElem?_bubble hs d hd k]
  repeat' split
  all_goals rfl
theorem bd_rev {p : Array Nat} {i j : Nat} (b : Bd n p) (hj : j ≤ p.size) : Bd n (kas_rev p i j) := ⟨b.1, fun k => by
  rw [g_rev hj]; split
  · exact b.2 _
  · exact b.2 _⟩
theorem bd_bubble {p : Array Nat} {src d : Nat} (b : Bd n p) (hs : src < p.size) (hd : d ≤ src) : Bd n (bubble p src d) := ⟨b.1, fun k => by
  rw [g_bubble hs hd]
  by_cases c : k = src - d
  · rw [if_pos c]; exact b.2 _
  · rw [if_neg c]
    by_cases c2 : src - d < k ∧ k ≤ src
    · rw [if_pos c2]; exact b.2 _
    · rw [if_neg c2]; exact b.2 _⟩
theorem rev_size (p : Array Nat) (i j : Nat) : (kas_rev p i j).size = p.size := mirror_size _ _ _ _
theorem rev_perm (p : Array Nat) (i j : Nat) : (kas_rev p i j).Perm p := mirror_perm _ _ _ _
/-- ascending up to k; not ascending up to k -/
def Up (lt : Nat → Nat → Bool) (p : Array Nat) (k : Nat) : Prop := ∀ i j, i ≤ j → j < k → lt (g p j) (g p i) = false
def Dn (lt : Nat → Nat → Bool) (p : Array Nat) (k : Nat) : Prop := ∀ i j, i ≤ j → j < k → lt (g p i) (g p j) = false
structure Ord (lt : Nat → Nat → Bool) : Prop where
  tr : ∀ a b c, lt b a = false → lt c b = false → lt c a = false
  as : ∀ a b, lt a b = true → lt b a = false
theorem Ord.rf {lt : Nat → Nat → Bool} (o : Ord lt) (a : Nat) : lt a a = false := by
  cases h : lt a a with
  | false => rfl
  | true => have := o.as a a h; rw [h] at this; exact this
theorem up_succ (o : Ord lt) {p : Array Nat} {k : Nat} (h : Up lt p k) (hk : 1 ≤ k) (hl : lt (g p k) (g p (k - 1)) = false) : Up lt p (k + 1) := fun i j hij hj => by
  by_cases e : j = k
  · subst e
    by_cases e2 : i = j
    · subst e2; exact o.rf _
    · exact o.tr _ (g p (j - 1)) _ (h i (j - 1) (by omega) (by omega)) hl
  · exact h i j hij (by omega)
theorem dn_succ (o : Ord lt) {p : Array Nat} {k : Nat} (h : Dn lt p k) (hk : 1 ≤ k) (hl : lt (g p (k - 1)) (g p k) = false) : Dn lt p (k + 1) := fun i j hij hj => by
  by_cases e : j = k
  · subst e
    by_cases e2 : i = j
    · subst e2; exact o.rf _
    · exact o.tr _ (g p (j - 1)) _ hl (h i (j - 1) (by omega) (by omega))
  · exact h i j hij (by omega)
theorem up_one (o : Ord lt) (p : Array Nat) : Up lt p 1 := fun i j hij hj => by
  have h1 : i = 0 := by omega
  have h2 : j = 0 := by omega
  subst h1; subst h2; exact o.rf _
theorem up_of_rev (p : Array Nat) {k : Nat} (hk : k ≤ p.size) (h : Dn lt p k) : Up lt (kas_rev p 0 k) k := fun i j hij hj => by
  rw [g_rev hk, g_rev hk, if_pos ⟨Nat.zero_le _, hj⟩, if_pos ⟨Nat.zero_le _, by omega⟩]
  exact h _ _ (by omega) (by omega)
/-- equal keys between a and b -/
def Eqs (lt : Nat → Nat → Bool) (p : Array Nat) (a b : Nat) : Prop := ∀ i j, a ≤ i → i < b → a ≤ j → j < b → lt (g p i) (g p j) = false
/-- where a stretch of equal keys is turned, each key is as it was -/
theorem dn_rev_eqs (o : Ord lt) {p : Array Nat} {a b k : Nat} (hb : b ≤ p.size) (hbk : b ≤ k) (e : Eqs lt p a b) (h : Dn lt p k) : Dn lt (kas_rev p a b) k := fun i j hij hj => by
  have same : ∀ m, lt (g (kas_rev p a b) m) (g p m) = false ∧ lt (g p m) (g (kas_rev p a b) m) = false := fun m => by
    rw [g_rev hb]
    by_cases c : a ≤ m ∧ m < b
    · rw [if_pos c]; exact ⟨e _ _ (by omega) (by omega) c.1 c.2, e _ _ c.1 c.2 (by omega) (by omega)⟩
    · rw [if_neg c]; exact ⟨o.rf _, o.rf _⟩
  exact o.tr _ (g p j) _ (same j).2 (o.tr _ (g p i) _ (h i j hij hj) (same i).1) |> fun z => z
theorem ok_asc (o : Ord lt) {p : Array Nat} (b : Bd n p) : ∀ (f k : Nat), 1 ≤ k → Up lt p k → Ok n lt (kas_asc p f k) (fun m => k ≤ m ∧ m ≤ k + f ∧ Up lt p m ∧ (m < k + f → lt (g p m) (g p (m - 1)) = true))
  | 0, k, h1, h => ⟨Nat.le_refl _, Nat.le_refl _, h, fun z => absurd z (Nat.lt_irrefl _)⟩
  | f + 1, k, h1, h => by
    refine ⟨b.2 _, b.2 _, ?_⟩
    cases c : lt (p.getD k 0) (p.getD (k - 1) 0) with
    | true => exact ⟨Nat.le_refl _, by omega, h, fun _ => c⟩
    | false =>
      refine Ok.mono (ok_asc o b f (k + 1) (by omega) (up_succ o h h1 c)) fun m ⟨a1, a2, a3, a4⟩ => ⟨by omega, by omega, a3, fun z => a4 (by omega)⟩
theorem ok_desc (o : Ord lt) : ∀ (f : Nat) (p : Array Nat) (k q : Nat), Bd n p → q + 1 ≤ k → k + f ≤ p.size → Dn lt p k → Eqs lt p (k - (q + 1)) k →
    Ok n lt (kas_desc f p k q) (fun r => r.1.Perm p ∧ r.1.size = p.size ∧ Bd n r.1 ∧ k ≤ r.2.1 ∧ r.2.1 ≤ k + f ∧ Dn lt r.1 r.2.1 ∧ r.2.2 + 1 ≤ r.2.1 ∧ Eqs lt r.1 (r.2.1 - (r.2.2 + 1)) r.2.1)
  | 0, p, k, q, b, hq, hs, h, e => ⟨Array.Perm.refl _, rfl, b, Nat.le_refl _, Nat.le_refl _, h, hq, e⟩
  | f + 1, p, k, q, b, hq, hs, h, e => by
    refine ⟨b.2 _, b.2 _, ?_⟩
    have one : ∀ (p' : Array Nat), Eqs lt p' k (k + 1) := fun p' i j a1 a2 a3 a4 => by
      have e1 : i = k := by omega
      have e2 : j = k := by omega
      subst e1; subst e2; exact o.rf _
    cases c : lt (p.getD k 0) (p.getD (k - 1) 0) with
    | true =>
      dsimp only
      rw [if_pos rfl]
      have cl := o.as _ _ c
      by_cases hq0 : q > 0
      · rw [if_pos hq0]
        have hb : k ≤ p.size := by omega
        have d1 : Dn lt (kas_rev p (k - (q + 1)) k) (k + 1) := dn_rev_eqs o hb (by omega) e (dn_succ o h (by omega) cl)
        refine Ok.mono (ok_desc o f _ (k + 1) 0 (bd_rev b hb) (by omega) (by rw [rev_size]; omega) d1 (one _)) fun r ⟨a1, a2, a3, a4, a5, a6, a7, a8⟩ => ⟨a1.trans (rev_perm _ _ _), by rw [a2, rev_size], a3, by omega, by omega, a6, a7, a8⟩
      · rw [if_neg hq0]
        refine Ok.mono (ok_desc o f p (k + 1) 0 b (by omega) (by omega) (dn_succ o h (by omega) cl) (one _)) fun r ⟨a1, a2, a3, a4, a5, a6, a7, a8⟩ => ⟨a1, a2, a3, by omega, by omega, a6, a7, a8⟩
    | false =>
      dsimp only
      rw [if_neg Bool.false_ne_true]
      refine ⟨b.2 _, b.2 _, ?_⟩
      cases d : lt (p.getD (k - 1) 0) (p.getD k 0) with
      | true => exact ⟨Array.Perm.refl _, rfl, b, Nat.le_refl _, Nat.le_add_right _ _, h, hq, e⟩
      | false =>
        dsimp only
        rw [if_neg Bool.false_ne_true]
        have e' : Eqs lt p (k + 1 - (q + 1 + 1)) (k + 1) := fun i j a1 a2 a3 a4 => by
          have z1 : k + 1 - (q + 1 + 1) = k - (q + 1) := by omega
          rw [z1] at a1 a3
          by_cases e1 : i = k
          · subst e1
            by_cases e2 : j = i
            · subst e2; exact o.rf _
            · exact o.tr _ (g p (i - 1)) _ (e _ _ (by omega) (by omega) a3 (by omega)) c
          · by_cases e2 : j = k
            · subst e2
              exact o.tr _ (g p (j - 1)) _ d (e _ _ a1 (by omega) (by omega) (by omega))
            · exact e _ _ a1 (by omega) a3 (by omega)
        refine Ok.mono (ok_desc o f p (k + 1) (q + 1) b (by omega) (by omega) (dn_succ o h (by omega) d) e') fun r ⟨a1, a2, a3, a4, a5, a6, a7, a8⟩ => ⟨a1, a2, a3, by omega, by omega, a6, a7, a8⟩
theorem ok_tail3 (o : Ord lt) {p : Array Nat} {k nrem : Nat} (b : Bd n p) (h1 : 1 ≤ k) (hk : k ≤ nrem) (hs : nrem ≤ p.size) (h : Dn lt p k) :
    Ok n lt (kas_tail3 k nrem p) (fun r => r.2.Perm p ∧ r.2.size = p.size ∧ Bd n r.2 ∧ 1 ≤ r.1 ∧ r.1 ≤ nrem ∧ Up lt r.2 r.1) := by
  unfold kas_tail3
  refine Ok.bind (Ok.mono (ok_asc o (bd_rev b (by omega)) (nrem - k) k h1 (up_of_rev p (by omega) h)) fun m ⟨a1, a2, a3, _⟩ => ?_)
  exact ⟨rev_perm _ _ _, rev_size _ _ _, bd_rev b (by omega), by omega, by omega, a3⟩
theorem ok_descPart (o : Ord lt) {p : Array Nat} {k nrem : Nat} (b : Bd n p) (h1 : 1 ≤ k) (hk : k < nrem) (hs : nrem ≤ p.size) (h : Dn lt p (k + 1)) :
    Ok n lt (kas_descPart k nrem p) (fun r => r.2.Perm p ∧ r.2.size = p.size ∧ Bd n r.2 ∧ 1 ≤ r.1 ∧ r.1 ≤ nrem ∧ Up lt r.2 r.1) := by
  unfold kas_descPart
  have one : Eqs lt p (k + 1 - (0 + 1)) (k + 1) := fun i j a1 a2 a3 a4 => by
    have e1 : i = k := by omega
    have e2 : j = k := by omega
    subst e1; subst e2; exact o.rf _
  refine Ok.bind (Ok.mono (ok_desc o (nrem - (k + 1)) p (k + 1) 0 b (by omega) (by omega) h one) fun r ⟨a1, a2, a3, a4, a5, a6, a7, a8⟩ => ?_)
  by_cases hq : r.2.2 > 0
  · rw [if_pos hq]
    have hb : r.2.1 ≤ r.1.size := by omega
    refine Ok.mono (ok_tail3 o (bd_rev a3 hb) (by omega) (by omega) (by rw [rev_size]; omega) (dn_rev_eqs o hb (Nat.le_refl _) a8 a6)) fun q ⟨c1, c2, c3, c4, c5, c6⟩ => ⟨c1.trans ((rev_perm _ _ _).trans a1), by rw [c2, rev_size, a2], c3, c4, c5, c6⟩
  · rw [if_neg hq]
    refine Ok.mono (ok_tail3 o a3 (by omega) (by omega) (by omega) a6) fun q ⟨c1, c2, c3, c4, c5, c6⟩ => ⟨c1.trans a1, by rw [c2, a2], c3, c4, c5, c6⟩
theorem ok_count (o : Ord lt) {p : Array Nat} {nrem : Nat} (b : Bd n p) (h1 : 1 ≤ nrem) (hs : nrem ≤ p.size) :
    Ok n lt (kas_count nrem p) (fun r => r.2.Perm p ∧ r.2.size = p.size ∧ Bd n r.2 ∧ 1 ≤ r.1 ∧ r.1 ≤ nrem ∧ Up lt r.2 r.1) := by
  unfold kas_count
  refine Ok.bind (Ok.mono (ok_asc o b (nrem - 1) 1 (Nat.le_refl _) (up_one o p)) fun m ⟨a1, a2, a3, a4⟩ => ?_)
  by_cases hm : m = nrem
  · subst hm
    rw [if_pos (beq_self_eq_true m)]
    exact ⟨Array.Perm.refl _, rfl, b, a1, Nat.le_refl _, a3⟩
  · rw [if_neg (by simpa using hm)]
    have hl : lt (g p m) (g p (m - 1)) = true := a4 (by omega)
    have cl := o.as _ _ hl
    by_cases h2 : m > 1
    · rw [if_pos h2]
      refine ⟨b.2 _, b.2 _, ?_⟩
      cases c : lt (p.getD 0 0) (p.getD (m - 1) 0) with
      | true => exact ⟨Array.Perm.refl _, rfl, b, a1, by omega, a3⟩
      | false =>
        dsimp only
        rw [if_neg Bool.false_ne_true]
        have eqs : Eqs lt p 0 m := fun i j _ hi _ hj => o.tr _ (g p (m - 1)) _ (a3 j (m - 1) (by omega) (by omega)) (o.tr _ (g p 0) _ c (a3 0 i (Nat.zero_le _) hi) |> fun z => z) |> fun z => z
        have dn : Dn lt p (m + 1) := dn_succ o (fun i j hij hj => eqs i j (Nat.zero_le _) (by omega) (Nat.zero_le _) hj) (by omega) cl
        refine Ok.mono (ok_descPart o (bd_rev b (by omega)) a1 (by omega) (by rw [rev_size]; omega) (dn_rev_eqs o (by omega) (by omega) eqs dn)) fun r ⟨c1, c2, c3, c4, c5, c6⟩ => ⟨c1.trans (rev_perm _ _ _), by rw [c2, rev_size], c3, c4, c5, c6⟩
    · rw [if_neg h2]
      have e : m = 1 := by omega
      subst e
      have dn : Dn lt p (1 + 1) := dn_succ o (fun i j hij hj => by
        have e1 : i = 0 := by omega
        have e2 : j = 0 := by omega
        subst e1; subst e2; exact o.rf _) (Nat.le_refl _) cl
      exact ok_descPart o b (Nat.le_refl _) (by omega) hs dn
theorem ok_place (o : Ord lt) {p : Array Nat} {k : Nat} (b : Bd n p) (hu : Up lt p k) : ∀ (f l r : Nat), l ≤ r → r ≤ k → r - l ≤ f → (∀ i, i < l → lt (g p k) (g p i) = false) → (∀ i, r ≤ i → i < k → lt (g p k) (g p i) = true) →
    Ok n lt (kas_place p k f l r) (fun m => m ≤ k ∧ (∀ i, i < m → lt (g p k) (g p i) = false) ∧ ∀ i, m ≤ i → i < k → lt (g p k) (g p i) = true)
  | 0, l, r, h1, h2, h3, hl, hr => ⟨by omega, hl, fun i a1 a2 => hr i (by omega) a2⟩
  | f + 1, l, r, h1, h2, h3, hl, hr => by
    unfold kas_place
    by_cases c : l ≥ r
    · rw [if_pos c]
      exact ⟨by omega, hl, fun i a1 a2 => hr i (by omega) a2⟩
    · rw [if_neg c]
      refine ⟨b.2 _, b.2 _, ?_⟩
      cases d : lt (p.getD k 0) (p.getD ((l + r) / 2) 0) with
      | true =>
        dsimp only
        rw [if_pos rfl]
        refine ok_place o b hu f l ((l + r) / 2) (by omega) (by omega) (by omega) hl fun i a1 a2 => ?_
        cases e : lt (g p k) (g p i) with
        | true => rfl
        | false =>
          have z := o.tr _ _ _ (hu ((l + r) / 2) i a1 a2) e
          rw [d] at z; exact z.symm
      | false =>
        dsimp only
        rw [if_neg Bool.false_ne_true]
        refine ok_place o b hu f ((l + r) / 2 + 1) r (by omega) h2 (by omega) (fun i a1 => ?_) hr
        exact o.tr _ (g p ((l + r) / 2)) _ (hu i ((l + r) / 2) (by omega) (by omega)) d
theorem ok_bin (o : Ord lt) : ∀ (f : Nat) (p : Array Nat) (k : Nat), Bd n p → k + f ≤ p.size → Up lt p k → Ok n lt (kas_bin f p k) (fun r => r.Perm p ∧ r.size = p.size ∧ Bd n r ∧ Up lt r (k + f))
  | 0, p, k, b, hs, h => ⟨Array.Perm.refl _, rfl, b, h⟩
  | f + 1, p, k, b, hs, h => by
    unfold kas_bin
    refine Ok.bind (Ok.mono (ok_place o b h k 0 k (Nat.zero_le _) (Nat.le_refl _) (by omega) (fun i z => absurd z (Nat.not_lt_zero _)) fun i a1 a2 => absurd a2 (by omega)) fun l ⟨a1, a2, a3⟩ => ?_)
    have hk : k < p.size := by omega
    have hd : k - l ≤ k := Nat.sub_le _ _
    have e1 : k - (k - l) = l := by omega
    have up : Up lt (bubble p k (k - l)) (k + 1) := fun i j hij hj => by
      rw [g_bubble hk hd, g_bubble hk hd, e1]
      by_cases ej : j = l
      · rw [if_pos ej]
        by_cases ei : i = l
        · rw [if_pos ei]; exact o.rf _
        · rw [if_neg ei, if_neg (by omega)]
          exact a2 i (by omega)
      · rw [if_neg ej]
        by_cases ei : i = l
        · rw [if_pos ei, if_pos (by omega)]
          exact o.as _ _ (a3 (j - 1) (by omega) (by omega))
        · rw [if_neg ei]
          by_cases cj : l < j ∧ j ≤ k
          · rw [if_pos cj]
            by_cases ci : l < i ∧ i ≤ k
            · rw [if_pos ci]; exact h (i - 1) (j - 1) (by omega) (by omega)
            · rw [if_neg ci]; exact h i (j - 1) (by omega) (by omega)
          · rw [if_neg cj]
            by_cases ci : l < i ∧ i ≤ k
            · exact absurd cj (by omega)
            · rw [if_neg ci]; exact h i j hij (by omega)
    refine Ok.mono (ok_bin o f _ (k + 1) (bd_bubble b hk hd) (by rw [bubble_size]; omega) up) fun r ⟨c1, c2, c3, c4⟩ => ⟨c1.trans (bubble_perm _ _ _), by rw [c2, bubble_size], c3, ?_⟩
    have : k + (f + 1) = k + 1 + f := by omega
    rw [this]; exact c4
/-- the sorted order of n places -/
theorem ok_sort (o : Ord lt) (h1 : 1 ≤ n) : Ok n lt (kas_sort n) (fun r => r.Perm (List.toArray (List.range n)) ∧ r.size = n ∧ Up lt r n) := by
  unfold kas_sort
  have b : Bd n (List.toArray (List.range n)) := ⟨h1, fun i => by
    rw [g_eq]
    simp only [List.getElem?_toArray]
    cases e : (List.range n)[i]? with
    | none => exact h1
    | some v =>
      have := List.mem_range.mp (List.mem_of_getElem? e)
      simpa using this⟩
  have hs : (List.toArray (List.range n)).size = n := by simp
  refine Ok.bind (Ok.mono (ok_count o b h1 (by omega)) fun r ⟨a1, a2, a3, a4, a5, a6⟩ => ?_)
  by_cases c : r.1 < n
  · rw [if_pos c]
    have em : max r.1 1 = r.1 := by omega
    rw [em]
    refine Ok.mono (ok_bin o (n - r.1) r.2 r.1 a3 (by omega) a6) fun q ⟨c1, c2, c3, c4⟩ => ⟨c1.trans a1, by omega, ?_⟩
    have : r.1 + (n - r.1) = n := by omega
    rw [this] at c4; exact c4
  · rw [if_neg c]
    have e : r.1 = n := by omega
    rw [e] at a6
    exact ⟨a1, by omega, a6⟩
end
end Srt

namespace L2
open PySem PySem.Spec PySem.W PyProof.Rows
/-! ### sorted(..) of a short list of pairs of ints -/
def ltP (p q : Int × Int) : Bool := decide (p.1 < q.1) || (decide (p.1 = q.1) && decide (p.2 < q.2))
theorem ltP_ord (ps : List (Int × Int)) : Srt.Ord fun i j => ltP (ps.getD i (0, 0)) (ps.getD j (0, 0)) where
  tr := fun a b c h1 h2 => by
    generalize ps.getD a (0, 0) = x at h1 ⊢
    generalize ps.getD b (0, 0) = y at h1 h2
    generalize ps.getD c (0, 0) = z at h2 ⊢
    simp only [ltP, Bool.or_eq_false_iff, decide_eq_false_iff_not, Bool.and_eq_false_iff] at h1 h2 ⊢
    omega
  as := fun a b h => by
    generalize ps.getD a (0, 0) = x at h ⊢
    generalize ps.getD b (0, 0) = y at h ⊢
    simp only [ltP, Bool.or_eq_true, decide_eq_true_eq, Bool.and_eq_true, Bool.or_eq_false_iff, decide_eq_false_iff_not, Bool.and_eq_false_iff] at h ⊢
    omega
theorem kas_of_ok {n : Nat} {lt : Nat → Nat → Bool} {α : Type} {cmp : Nat → Nat → (Bool → Shared → Prop) → Shared → Prop} {s : Shared} (hc : ∀ i j C, i < n → j < n → C (lt i j) s → cmp i j C s) : ∀ {t : KasT α} {Q : α → Shared → Prop}, Srt.Ok n lt t (fun a => Q a s) → t.kasWp cmp Q s
  | .ret _, _, h => h
  | .ask i j _, _, h => hc i j _ h.1 h.2.1 (kas_of_ok hc h.2.2)
section
variable {prog : Program} {w : World} {A : Around} {E : Value → Shared → Prop} {s : Shared}
/-- two tuples of two ints compared as the sort does -/
theorem lt_pairs {x y : Addr} {a b c d : Int} {t1 t2 t3 t4 : Tok} {Q : Bool → Shared → Prop} (hx : IsTup s.heap x #[.int a t1, .int b t2]) (hy : IsTup s.heap y #[.int c t3, .int d t4]) (h : Q (ltP (a, b) (c, d)) s) :
    wpAny (model prog w) A (keyLt' (tuples' true) (.ref x) (.ref y)) Q E s := by
  obtain ⟨ox, ex, _, nx, dx⟩ := hx
  obtain ⟨oy, ey, _, ny, dy⟩ := hy
  refine kat_lt ex dx ey dy ?_
  refine kat_cons (wpAny_eqBool_int (kat_go (fun e1 => kat_yes (kat_cons (wpAny_eqBool_int (kat_go (fun e2 => kat_yes (kat_nil ?_)) fun e2 => kat_no (kat_one _ _ (lt_int ?_)))))) fun e1 => kat_no ?_))
  · have z1 : a = c := by simpa using e1
    have z2 : b = d := by simpa using e2
    have e : ltP (a, b) (c, d) = decide ((#[Value.int a t1, Value.int b t2] : Array Value).size < (#[Value.int c t3, Value.int d t4] : Array Value).size) := by
      subst z1; subst z2
      simp [ltP]
    rw [e] at h; exact h
  · have z1 : a = c := by simpa using e1
    have e : ltP (a, b) (c, d) = decide (b < d) := by subst z1; simp [ltP]
    rw [e] at h; exact h
  · have z1 : a ≠ c := by simpa using e1
    have e : ltP (a, b) (c, d) = decide (a < c) := by simp [ltP, z1]
    rw [e] at h
    exact oneLt_int h
/-- list.sort by the tree of questions, over the heap itself -/
theorem sort_tree {a : Addr} {vs : List Value} {n : Nat} {G : Array Nat → Prop} {P : PySem.Fin → Shared → Prop} (ho : s.heap.get? a = some (seqObj "list" vs.toArray n)) (h64 : vs.length < 64)
    (hkey : 2 ≤ vs.length → ∀ s' : Shared, (∀ b o, b ≠ a → s.heap.get? b = some o → s'.heap.get? b = some o) → ∀ E', wpAny (model prog w) A (keyKind' vs.toArray) (fun κ s2 => (kas_sort vs.length).kasWp (kas_ask prog w A κ vs) (fun p s3 => s3 = s' ∧ G p) s2) E' s')
    (h : ∀ out : Array Value, ((vs.length < 2 ∧ out = vs.toArray) ∨ ∃ p : Array Nat, p.size = vs.length ∧ G p ∧ out = List.toArray (p.toList.map fun i => vs.getD i Value.none)) → P (.done (.ret .none)) { s with heap := sortedHeap s.heap a vs out }) :
    wpAny (model prog w) A (Builtin.«list.sort» ⟨[.ref a], []⟩) P E s := by
  have ha : a < s.heap.objs.size := Heap.lt_size ho
  have hz : vs.toArray.size ≤ sizeLine := by rw [List.size_toArray, sizeLine_eq]; omega
  rw [list_sort_plain]; refine wpAny_bind (listItems_at ho rfl (wpAny_bind (listUpdate_at ho rfl ?_ hz (Nat.zero_le _))))
  obtain ⟨e1, ho1⟩ : ∃ e1, (s.heap.update a (Obj.mapSeq fun _ => #[])).get? a = some (seqObj "list" #[] e1) := ⟨_, get?_update_seq ho (fun _ => #[])⟩
  refine wpAny_bind (seqEpoch_at ho1 rfl (wpAny_bind (wpAny_newTuple (wpAny_bind (wpAny_newList (wpAny_holding ?_) (Nat.zero_le _))) (by show vs.length ≤ _; rw [sizeLine_eq]; omega))))
  generalize hs6 : ({ s with heap := ((s.heap.update a (Obj.mapSeq fun _ => #[])).push (seqObj "tuple" vs.toArray 0)).push (seqObj "list" #[] 0) } : Shared) = s6
  have ho6 : s6.heap.get? a = some (seqObj "list" #[] e1) := by
    subst hs6
    show (((s.heap.update a (Obj.mapSeq fun _ => #[])).push (seqObj "tuple" vs.toArray 0)).push (seqObj "list" #[] 0)).get? a = _
    rw [Heap.get?_push_ne _ _ _ (by rw [size_push', Heap.size_update]; exact Nat.ne_of_lt (Nat.lt_succ_of_lt ha)), Heap.get?_push_ne _ _ _ (by rw [Heap.size_update]; exact Nat.ne_of_lt ha)]; exact ho1
  have keep : ∀ b o, b ≠ a → s.heap.get? b = some o → s6.heap.get? b = some o := fun b o hb e => by
    subst hs6
    have hlt : b < s.heap.objs.size := Heap.lt_size e
    show (((s.heap.update a (Obj.mapSeq fun _ => #[])).push (seqObj "tuple" vs.toArray 0)).push (seqObj "list" #[] 0)).get? b = _
    rw [Heap.get?_push_ne _ _ _ (by rw [size_push', Heap.size_update]; exact Nat.ne_of_lt (Nat.lt_succ_of_lt hlt)), Heap.get?_push_ne _ _ _ (by rw [Heap.size_update]; exact Nat.ne_of_lt hlt), Heap.get?_update_ne _ _ _ _ hb]; exact e
  have fin : ∀ out : Array Value, out.size ≤ sizeLine + 1 → ((vs.length < 2 ∧ out = vs.toArray) ∨ ∃ p : Array Nat, p.size = vs.length ∧ G p ∧ out = List.toArray (p.toList.map fun i => vs.getD i Value.none)) → P (.done (.ret .none)) { s6 with heap := s6.heap.update a (Obj.mapSeq fun _ => out) } := fun out _ ho' => by
    subst hs6
    exact h out ho'
  show wpAny (model prog w) A _ P E s6
  dsimp only
  by_cases h2 : vs.length < 2
  · have c2 : vs.toArray.size < 2 := by rw [List.size_toArray]; exact h2
    rw [if_pos c2, if_pos c2]
    refine wpAny_bind (wpAny_pure ?_)
    rw [StateT.run_pure]
    refine wpAny_bind (wpAny_pure ?_)
    dsimp only
    have eo : (arrOf (SortSt.mk' general' (vs.toArray.zip vs.toArray) #[] 7 none)).map (·.2) = vs.toArray := by
      show (vs.toArray.zip vs.toArray).map (·.2) = vs.toArray
      apply Array.toList_inj.mp
      rw [Array.toList_map, Array.toList_zip]
      exact List.map_snd_zip (Nat.le_refl _)
    rw [eo]
    refine wpAny_bind (seqEpoch_at ho6 rfl (wpAny_bind (listUpdate_at ho6 rfl ?_ (Nat.zero_le _) (by rw [List.size_toArray, sizeLine_eq]; omega))))
    simp only [bne_self_eq_false, Bool.false_eq_true, if_false]
    exact wpAny_pure (fin vs.toArray (by rw [List.size_toArray, sizeLine_eq]; omega) (.inl ⟨h2, rfl⟩))
  · have c2 : ¬ vs.toArray.size < 2 := by rw [List.size_toArray]; exact h2
    rw [if_neg c2, if_neg c2]
    refine wpAny_bind (wpAny_mono (hkey (by omega) s6 keep (fun _ _ => False)) (fun κ s2 hk => ?_) fun _ _ z => z.elim)
    refine wpAny_bind (wpAny_mono (kat_run (Q := fun st' s' => s' = s6 ∧ failedOf st' = none ∧ ∃ p : Array Nat, p.size = vs.length ∧ G p ∧ arrOf st' = p.map (kas_item (vs.toArray.zip vs.toArray))) rfl (by omega) h64
      (fun p st' s' a1 a2 a3 a4 => ⟨a4.1, a3, p, a1, a4.2, a2⟩) hk) ?_ fun _ _ z => z)
    rintro ⟨⟨⟩, st'⟩ s' ⟨rfl, hf, p, hp, g, har⟩
    dsimp only
    rw [kat_snds rfl har, hf]
    have hsz : (List.toArray (p.toList.map fun i => vs.getD i Value.none)).size ≤ sizeLine + 1 := by rw [List.size_toArray, List.length_map, Array.length_toList, hp, sizeLine_eq]; omega
    refine wpAny_bind (seqEpoch_at ho6 rfl (wpAny_bind (listUpdate_at ho6 rfl ?_ (Nat.zero_le _) hsz)))
    simp only [bne_self_eq_false, Bool.false_eq_true, if_false]
    exact wpAny_pure (fin _ hsz (.inr ⟨p, hp, g, rfl⟩))
theorem sorted_tree {l : Addr} {vs : List Value} {G : Array Nat → Prop} {Q : Value → Shared → Prop} (hl : s.heap.IsList l vs.toArray) (h64 : vs.length < 64)
    (hkey : 2 ≤ vs.length → ∀ s' : Shared, (∀ b o, s.heap.get? b = some o → s'.heap.get? b = some o) → ∀ E', wpAny (model prog w) A.in1.in1 (keyKind' vs.toArray) (fun κ s2 => (kas_sort vs.length).kasWp (kas_ask prog w A.in1.in1 κ vs) (fun p s3 => s3 = s' ∧ G p) s2) E' s')
    (h : ∀ (out : Array Value) (h' : Heap) (D : Addr) (c : Nat), ((vs.length < 2 ∧ out = vs.toArray) ∨ ∃ p : Array Nat, p.size = vs.length ∧ G p ∧ out = List.toArray (p.toList.map fun i => vs.getD i Value.none)) → s.heap.objs.size ≤ D →
      (∀ b o, s.heap.get? b = some o → h'.get? b = some o) → h'.get? D = some (seqObj "list" out c) → Q (.ref D) { s with heap := h' }) :
    wpAny (model prog w) A (call (.builtin "sorted") [.ref l]) Q E s := by
  have hzl : vs.toArray.size ≤ sizeLine := by rw [List.size_toArray, sizeLine_eq]; omega
  refine Calls.call_function_entry kind_sorted plain_sorted entry_sorted (args_sorted1 _) ?_
  unfold Builtin.«sorted»
  refine wpAny_bind (m := checkCount "sorted" 1 1 _) (wpAny_pure (wpAny_bind (collect_list hl (wpAny_bind (wpAny_newList ?_ (by rw [sizeLine_eq]; omega))) (by rw [sizeLine_eq]; omega))))
  generalize hg : (s.heap.push (seqObj "list" #[] 0)).update s.heap.objs.size (Obj.mapSeq (· ++ vs.toArray)) = g
  have hsz : g.objs.size = s.heap.objs.size + 1 := by rw [← hg, Heap.size_update, size_push']
  have hoL : (g.push (seqObj "list" vs.toArray 0)).get? (s.heap.objs.size + 1) = some (seqObj "list" vs.toArray 0) := by rw [← hsz]; exact Heap.get?_push_size _ rfl
  have keep : ∀ b o, s.heap.get? b = some o → (g.push (seqObj "list" vs.toArray 0)).get? b = some o := fun b o q => by
    have hlt : b < s.heap.objs.size := Heap.lt_size q
    rw [Heap.get?_push_ne _ _ _ (by rw [hsz]; exact Nat.ne_of_lt (Nat.lt_succ_of_lt hlt)), ← hg, Heap.get?_update_ne _ _ _ _ (Nat.ne_of_lt hlt), Heap.get?_push_ne _ _ _ (Nat.ne_of_lt hlt)]; exact q
  show wpAny _ _ _ _ _ { s with heap := g.push (seqObj "list" vs.toArray 0) }
  rw [hsz]
  refine wpAny_bind (wpAny_holding (wpAny_call_entry slot_list_sort ⟨_, hoL, rfl⟩ entry_list_sort ?body (args_list_sort _)))
  case body =>
    refine sort_tree (s := { s with heap := g.push (seqObj "list" vs.toArray 0) }) (G := G) hoL h64 (fun h2 s' kp E' => hkey h2 s' (fun b o q => kp b o (Nat.ne_of_lt (Nat.lt_succ_of_lt (Heap.lt_size q))) (keep b o q)) E') fun out ho => ⟨_, rfl, wpAny_pure ⟨_, rfl, ?_⟩⟩
    have hlt : s.heap.objs.size + 1 < (g.push (seqObj "list" vs.toArray 0)).objs.size := Heap.lt_size hoL
    obtain ⟨e1, ho1⟩ : ∃ e1, ((g.push (seqObj "list" vs.toArray 0)).update (s.heap.objs.size + 1) (Obj.mapSeq fun _ => #[])).get? (s.heap.objs.size + 1) = some (seqObj "list" #[] e1) := ⟨_, get?_update_seq hoL (fun _ => #[])⟩
    have h3 : ∀ b, b < (g.push (seqObj "list" vs.toArray 0)).objs.size → ((((g.push (seqObj "list" vs.toArray 0)).update (s.heap.objs.size + 1) (Obj.mapSeq fun _ => #[])).push (seqObj "tuple" vs.toArray 0)).push (seqObj "list" #[] 0)).get? b = ((g.push (seqObj "list" vs.toArray 0)).update (s.heap.objs.size + 1) (Obj.mapSeq fun _ => #[])).get? b := fun b hb => by
      rw [Heap.get?_push_ne _ _ _ (by rw [size_push', Heap.size_update]; exact Nat.ne_of_lt (Nat.lt_succ_of_lt hb)), Heap.get?_push_ne _ _ _ (by rw [Heap.size_update]; exact Nat.ne_of_lt hb)]
    have e6 : ((((g.push (seqObj "list" vs.toArray 0)).update (s.heap.objs.size + 1) (Obj.mapSeq fun _ => #[])).push (seqObj "tuple" vs.toArray 0)).push (seqObj "list" #[] 0)).get? (s.heap.objs.size + 1) = some (seqObj "list" #[] e1) := by rw [h3 _ hlt]; exact ho1
    refine h out (sortedHeap (g.push (seqObj "list" vs.toArray 0)) (s.heap.objs.size + 1) vs out) (s.heap.objs.size + 1) _ ho (Nat.le_succ _) (fun b o q => ?_) (get?_update_seq e6 (fun _ => out))
    have hb : b < s.heap.objs.size := Heap.lt_size q
    show (Heap.update _ _ _).get? b = some o
    have hb1 : b ≠ s.heap.objs.size + 1 := Nat.ne_of_lt (Nat.lt_succ_of_lt hb)
    rw [Heap.get?_update_ne _ _ _ _ hb1, h3 _ (Nat.lt_trans (Nat.lt_succ_of_lt hb) hlt), Heap.get?_update_ne _ _ _ _ hb1]
    exact keep b o q
end
theorem Paired.map_of {α β γ : Type} {F : α → β → Prop} {f : γ → α} {g : γ → β} : ∀ {l : List γ}, (∀ i ∈ l, F (f i) (g i)) → Paired F (l.map f) (l.map g)
  | [], _ => .nil
  | i :: l, h => .cons (h i List.mem_cons_self) (Paired.map_of fun j hj => h j (List.mem_cons_of_mem _ hj))
theorem map_range_getD {α : Type} (d : α) (l : List α) : (List.range l.length).map (fun i => l.getD i d) = l := by
  apply List.ext_getElem
  · simp
  · intro i h1 h2
    simp only [List.getElem_map, List.getElem_range]
    simp [List.getD_eq_getElem?_getD, h2]
section
variable {X : Cx}
/-- sorted(xs), xs a list of fewer than 64 pairs of ints -/
theorem call_sorted_pairs : CallR X (.builtin "sorted") (fun us H Q => ∃ a xs ps, us = [.ref a] ∧ SqL X.K H a xs ∧ PL H xs ps ∧ xs.length < 64 ∧
    ∀ D ys qs, H D = none → PL (upd H D (.lst ys)) ys qs → qs.Perm ps → qs.Pairwise (fun p q => ltP q p = false) → Q (.ref D) (upd H D (.lst ys))) := by
  intro pins s σ H us vs Q I r h
  obtain ⟨a, xs, ps, rfl, hq, hP, h64, q⟩ := h
  obtain ⟨u, rfl, rx⟩ := r.one
  cases (show u = Value.ref a from rx)
  obtain ⟨its, rv, pl, hz⟩ := I.list hq
  have l1 := rv.length
  have l2 := hP.length
  -- the tuples of the items, at every heap that keeps this one
  have tup : ∀ i, i < its.length → ∃ (r : Addr) (t1 t2 : Tok), its.getD i Value.none = .ref r ∧ xs.getD i .non = .ref r ∧ H r = some (.tup [.int (ps.getD i (0, 0)).1, .int (ps.getD i (0, 0)).2]) ∧ IsTup s.heap r #[.int (ps.getD i (0, 0)).1 t1, .int (ps.getD i (0, 0)).2 t2] := fun i hi => by
    have hx : xs[i]? = some xs[i] := List.getElem?_eq_getElem (by omega)
    obtain ⟨p, r, e1, e2, e3⟩ := hP.get hx
    obtain ⟨u, e4, r4⟩ := rv.get hx
    rw [e2] at r4
    cases (show u = Value.ref r from r4)
    obtain ⟨_, ti, rt, it⟩ := (show ObjOk X.prog X.w H s.heap r (.tup [.int p.1, .int p.2]) from I.hok r _ e3)
    obtain ⟨u1, u2, rfl, r1, r2⟩ := rt.two
    obtain ⟨t1, rfl⟩ := (show ∃ t, u1 = Value.int p.1 t from r1)
    obtain ⟨t2, rfl⟩ := (show ∃ t, u2 = Value.int p.2 t from r2)
    have ep : ps.getD i (0, 0) = p := by rw [List.getD_eq_getElem?_getD, e1]; rfl
    refine ⟨r, t1, t2, by rw [List.getD_eq_getElem?_getD, e4]; rfl, by rw [List.getD_eq_getElem?_getD, hx, e2]; rfl, by rw [ep]; exact e3, by rw [ep]; exact it⟩
  refine sorted_tree (G := fun p => p.Perm (List.toArray (List.range its.length)) ∧ Srt.Up (fun i j => ltP (ps.getD i (0, 0)) (ps.getD j (0, 0))) p its.length) pl.isList (by omega) (fun h2 s' kp E' => ?_) fun out h' D c ho hD kp e => ?_
  · have kt : ∀ {r : Addr} {zs : Array Value}, IsTup s.heap r zs → IsTup s'.heap r zs := fun ⟨o, e, c⟩ => ⟨o, kp _ _ e, c⟩
    have firsts : KatTups s'.heap its ((List.range its.length).map fun i => match (its.getD i Value.none) with | .ref r => (match s'.heap.get? r with | some o => (match o.data with | .seq zs _ => (zs[0]?).getD Value.none | _ => Value.none) | none => Value.none) | _ => Value.none) := by
      have all : ∀ (l : List Nat), (∀ i ∈ l, i < its.length) → KatTups s'.heap (l.map fun i => its.getD i Value.none) (l.map fun i => match (its.getD i Value.none) with | .ref r => (match s'.heap.get? r with | some o => (match o.data with | .seq zs _ => (zs[0]?).getD Value.none | _ => Value.none) | none => Value.none) | _ => Value.none) := by
        intro l
        induction l with
        | nil => intro _; exact KatTups.nil
        | cons i l ih =>
          intro hl
          obtain ⟨r, t1, t2, e1, _, _, it⟩ := tup i (hl i List.mem_cons_self)
          obtain ⟨o, eo, co, n, d⟩ := kt it
          rw [List.map_cons, List.map_cons, e1]
          refine KatTups.cons eo co d ?_ (ih fun j hj => hl j (List.mem_cons_of_mem _ hj))
          dsimp only
          rw [eo]
          dsimp only
          rw [d]
          rfl
      have z := all (List.range its.length) fun i hi => List.mem_range.mp hi
      rw [map_range_getD] at z
      exact z
    refine kat_kind (T := .type "int") firsts (by simp; omega) (fun v hv => ?_) rfl ?_
    · obtain ⟨i, hi, rfl⟩ := List.mem_map.mp hv
      obtain ⟨r, t1, t2, e1, _, _, it⟩ := tup i (List.mem_range.mp hi)
      obtain ⟨o, eo, co, n, d⟩ := kt it
      rw [e1]
      dsimp only
      rw [eo]
      dsimp only
      rw [d]
      exact Looks.of_pure rfl
    · refine kas_of_ok (lt := fun i j => ltP (ps.getD i (0, 0)) (ps.getD j (0, 0))) (n := its.length) (fun i j C hi hj hC => ?_) (Srt.Ok.mono (Srt.ok_sort (ltP_ord ps) (by omega)) fun p ⟨b1, _, b3⟩ => ⟨rfl, b1, b3⟩)
      obtain ⟨r, t1, t2, e1, _, _, it⟩ := tup i hi
      obtain ⟨r', t3, t4, e1', _, _, it'⟩ := tup j hj
      show wpAny _ _ (keyLt' _ (its.getD i Value.none) (its.getD j Value.none)) _ _ s'
      rw [e1, e1']
      exact lt_pairs (kt it) (kt it') hC
  · -- the items as they came out
    have main : ∃ (pl : List Nat), pl.Perm (List.range its.length) ∧ out = List.toArray (pl.map fun i => its.getD i Value.none) ∧ (pl.map fun i => ps.getD i (0, 0)).Pairwise (fun p q => ltP q p = false) := by
      rcases ho with ⟨h2, rfl⟩ | ⟨p, hp, ⟨g1, g2⟩, rfl⟩
      · refine ⟨List.range its.length, .refl _, by rw [map_range_getD], ?_⟩
        have : its.length = 0 ∨ its.length = 1 := by omega
        rcases this with z | z <;> rw [z] <;> simp [List.range_succ]
      · refine ⟨p.toList, by simpa using g1.toList, rfl, ?_⟩
        rw [List.pairwise_iff_getElem]
        intro i j hi hj hij
        simp only [List.length_map, Array.length_toList] at hi hj
        simp only [List.getElem_map, Array.getElem_toList]
        have z := g2 i j (Nat.le_of_lt hij) (by omega)
        have e1 : Srt.g p i = p[i] := by simp [Srt.g, Array.getD, hi]
        have e2 : Srt.g p j = p[j] := by simp [Srt.g, Array.getD, hj]
        rw [e1, e2] at z
        exact z
    obtain ⟨pl2, g1, rfl, g3⟩ := main
    have lt : ∀ i ∈ pl2, i < its.length := fun i hi => List.mem_range.mp (g1.mem_iff.mp hi)
    have hn : H D = none := I.hok.fresh hD
    have vz : Vals (pl2.map fun i => xs.getD i .non) (pl2.map fun i => its.getD i Value.none) := Paired.map_of fun i hi => by
      obtain ⟨r, _, _, e1, e2, _⟩ := tup i (lt i hi)
      rw [e1, e2]; rfl
    have hlen : (pl2.map fun i => xs.getD i V.non).length ≤ sizeLine := by
      rw [List.length_map, g1.length_eq, List.length_range, sizeLine_eq]; omega
    refine ⟨.ref D, upd H D (.lst (pl2.map fun i => xs.getD i .non)), I.laid (t' := s.toks) kp hD ⟨hlen, _, c, vz, e⟩, rfl, q D _ (pl2.map fun i => ps.getD i (0, 0)) hn (Paired.map_of fun i hi => ?_) ?_ g3⟩
    · obtain ⟨r, _, _, _, e2, e3, _⟩ := tup i (lt i hi)
      exact ⟨r, e2, sameT_new hn _ _ e3⟩
    · have z := g1.map fun i => ps.getD i (0, 0)
      rw [← l1, l2, map_range_getD] at z
      exact z
end
end L2

namespace L2
open PySem PySem.Spec PySem.W PyProof.Rows
/-! ### sorted(..) of a short list of ints -/
end L2

namespace L2
/-! ### both, gaps, without: the mathematics -/
theorem inP_cons (p : Pr) (R : List Pr) (n : Int) : inP (p :: R) n = (inR n p || inP R n) := by
  unfold inP; rw [List.any_cons]
theorem inR_iff {n : Int} {p : Pr} : inR n p = true ↔ p.1 ≤ n ∧ n ≤ p.2 := by
  unfold inR; simp only [Bool.and_eq_true, decide_eq_true_eq]
theorem inR_not {n : Int} {p : Pr} : inR n p = false ↔ ¬ (p.1 ≤ n ∧ n ≤ p.2) := by
  rw [← inR_iff]; simp
theorem inP_iff {n : Int} {R : List Pr} : inP R n = true ↔ ∃ p ∈ R, p.1 ≤ n ∧ n ≤ p.2 := by
  unfold inP
  rw [List.any_eq_true]
  exact ⟨fun ⟨p, h, e⟩ => ⟨p, h, inR_iff.mp e⟩, fun ⟨p, h, e⟩ => ⟨p, h, inR_iff.mpr e⟩⟩
theorem inP_not {n : Int} {R : List Pr} (h : ∀ p ∈ R, ¬ (p.1 ≤ n ∧ n ≤ p.2)) : inP R n = false := by
  cases e : inP R n with
  | false => rfl
  | true => obtain ⟨p, hp, z⟩ := inP_iff.mp e; exact absurd z (h p hp)
theorem Apart.nil : Apart [] := ⟨(fun p hp => by cases hp), List.Pairwise.nil⟩
theorem Apart.tail {a : Pr} {A : List Pr} (h : Apart (a :: A)) : Apart A ∧ a.1 ≤ a.2 ∧ ∀ p ∈ A, a.2 + 2 ≤ p.1 := by
  have g := List.pairwise_cons.mp h.gap
  exact ⟨⟨fun p hp => h.le p (List.mem_cons_of_mem _ hp), g.2⟩, h.le a List.mem_cons_self, fun p hp => g.1 p hp⟩
theorem Apart.behind {a : Pr} {A : List Pr} (h : Apart (a :: A)) {n : Int} (hn : n ≤ a.2) : inP A n = false := inP_not fun p hp z => by
  have := h.tail.2.2 p hp
  omega
theorem Apart.take {R : List Pr} (h : Apart R) (i : Nat) : Apart (R.take i) := ⟨fun p hp => h.le p (List.mem_of_mem_take hp), h.gap.sublist (List.take_sublist _ _)⟩
/-- what the loop of both keeps: S told so far, A and B the rests -/
structure BothI (S A B A0 B0 : List Pr) : Prop where
  ap : Apart S
  aA : Apart A
  aB : Apart B
  mem : ∀ n, (inP A0 n && inP B0 n) = (inP S n || (inP A n && inP B n))
  gap : ∀ s ∈ S, (∀ p ∈ A, s.2 + 2 ≤ p.1) ∨ (∀ p ∈ B, s.2 + 2 ≤ p.1)
theorem BothI.start {A B : List Pr} (hA : Apart A) (hB : Apart B) : BothI [] A B A B := ⟨Apart.nil, hA, hB, fun n => by simp [inP], fun s hs => by cases hs⟩
theorem BothI.fin {S A B A0 B0 : List Pr} (h : BothI S A B A0 B0) (e : A = [] ∨ B = []) (n : Int) : inP S n = (inP A0 n && inP B0 n) := by
  rw [h.mem n]
  rcases e with e | e <;> rw [e] <;> simp [inP]
theorem BothI.left {S A B A0 B0 : List Pr} {a b c : Pr} (h : BothI S (a :: A) (b :: B) A0 B0) (hl : a.2 < b.2) (hc : c.1 = max a.1 b.1 ∧ c.2 = min a.2 b.2) :
    (c.1 ≤ c.2 → BothI (S ++ [c]) A (b :: B) A0 B0) ∧ (¬ c.1 ≤ c.2 → BothI S A (b :: B) A0 B0) := by
  obtain ⟨a1, a2, a3⟩ := h.aA.tail
  have em : ∀ n, ((inR n a || inP A n) && (inR n b || inP B n)) = (inR n c || (inP A n && (inR n b || inP B n))) := fun n => by
    have ec : inR n c = (inR n a && inR n b) := by
      rw [Bool.eq_iff_iff, Bool.and_eq_true, inR_iff, inR_iff, inR_iff]; omega
    rw [ec]
    cases e : inR n a with
    | false => simp
    | true =>
      have z := inR_iff.mp e
      rw [h.aA.behind z.2, h.aB.behind (by omega)]
      cases inR n b <;> rfl
  have g0 : ∀ s ∈ S, (∀ p ∈ A, s.2 + 2 ≤ p.1) ∨ (∀ p ∈ b :: B, s.2 + 2 ≤ p.1) := fun s hs => by
    rcases h.gap s hs with z | z
    · exact .inl fun p hp => z p (List.mem_cons_of_mem _ hp)
    · exact .inr z
  refine ⟨fun hle => ⟨h.ap.snoc hle fun s hs => ?_, a1, h.aB, fun n => ?_, fun s hs => ?_⟩, fun hle => ⟨h.ap, a1, h.aB, fun n => ?_, g0⟩⟩
  · rcases h.gap s hs with z | z
    · have := z a List.mem_cons_self; omega
    · have := z b List.mem_cons_self; omega
  · rw [h.mem n, inP_cons, inP_cons, em n, inP_snoc, Bool.or_assoc]
  · rcases List.mem_append.mp hs with hs | hs
    · exact g0 s hs
    · have e : s = c := by simpa using hs
      refine .inl fun p hp => ?_
      have := a3 p hp
      rw [e]; omega
  · have ec : inR n c = false := inR_not.mpr (by omega)
    rw [h.mem n, inP_cons, inP_cons, em n, ec, Bool.false_or]
theorem BothI.right {S A B A0 B0 : List Pr} {a b c : Pr} (h : BothI S (a :: A) (b :: B) A0 B0) (hl : ¬ a.2 < b.2) (hc : c.1 = max a.1 b.1 ∧ c.2 = min a.2 b.2) :
    (c.1 ≤ c.2 → BothI (S ++ [c]) (a :: A) B A0 B0) ∧ (¬ c.1 ≤ c.2 → BothI S (a :: A) B A0 B0) := by
  obtain ⟨b1, b2, b3⟩ := h.aB.tail
  have em : ∀ n, ((inR n a || inP A n) && (inR n b || inP B n)) = (inR n c || ((inR n a || inP A n) && inP B n)) := fun n => by
    have ec : inR n c = (inR n a && inR n b) := by
      rw [Bool.eq_iff_iff, Bool.and_eq_true, inR_iff, inR_iff, inR_iff]; omega
    rw [ec]
    cases e : inR n b with
    | false => simp
    | true =>
      have z := inR_iff.mp e
      rw [h.aB.behind z.2, h.aA.behind (by omega)]
      cases inR n a <;> rfl
  have g0 : ∀ s ∈ S, (∀ p ∈ a :: A, s.2 + 2 ≤ p.1) ∨ (∀ p ∈ B, s.2 + 2 ≤ p.1) := fun s hs => by
    rcases h.gap s hs with z | z
    · exact .inl z
    · exact .inr fun p hp => z p (List.mem_cons_of_mem _ hp)
  refine ⟨fun hle => ⟨h.ap.snoc hle fun s hs => ?_, h.aA, b1, fun n => ?_, fun s hs => ?_⟩, fun hle => ⟨h.ap, h.aA, b1, fun n => ?_, g0⟩⟩
  · rcases h.gap s hs with z | z
    · have := z a List.mem_cons_self; omega
    · have := z b List.mem_cons_self; omega
  · rw [h.mem n, inP_cons, inP_cons, em n, inP_snoc, Bool.or_assoc]
  · rcases List.mem_append.mp hs with hs | hs
    · exact g0 s hs
    · have e : s = c := by simpa using hs
      refine .inr fun p hp => ?_
      have := b3 p hp
      rw [e]; omega
  · have ec : inR n c = false := inR_not.mpr (by omega)
    rw [h.mem n, inP_cons, inP_cons, em n, ec, Bool.false_or]
/-- what the loop of gaps keeps: F told so far of the spans T -/
structure GapI (F T : List Pr) (lo hi st : Int) : Prop where
  ap : Apart F
  lt : ∀ s ∈ F, s.2 + 2 ≤ st
  rng : ∀ s ∈ F, lo ≤ s.1 ∧ s.2 ≤ hi
  tk : ∀ p ∈ T, p.2 < st
  fr : st = lo ∨ ∃ p ∈ T, st = p.2 + 1
  ge : lo ≤ st
  mem : ∀ n, lo ≤ n → n ≤ hi → n < st → inP F n = !inP T n
theorem GapI.start (lo hi : Int) : GapI [] [] lo hi lo := ⟨Apart.nil, (fun s hs => by cases hs), (fun s hs => by cases hs), (fun s hs => by cases hs), .inl rfl, Int.le_refl _, fun n h1 _ h3 => by omega⟩
theorem GapI.turn {F T : List Pr} {lo hi st st' e : Int} {p : Pr} (h : GapI F T lo hi st) (ap : Apart (T ++ [p])) (he : e = min (p.1 - 1) hi) (hs : st' = max st (p.2 + 1)) :
    (st ≤ e → GapI (F ++ [(st, e)]) (T ++ [p]) lo hi st') ∧ (¬ st ≤ e → GapI F (T ++ [p]) lo hi st') := by
  obtain ⟨t1, t2, t3⟩ := ap.init
  have low : ∀ n, lo ≤ n → n < st → inR n p = false := fun n h1 h2 => inR_not.mpr fun z => by
    rcases h.fr with q | ⟨o, ho, q⟩
    · omega
    · have := t3 o ho; omega
  have tk' : ∀ q ∈ T ++ [p], q.2 < st' := fun q hq => by
    rcases List.mem_append.mp hq with hq | hq
    · have := h.tk q hq; omega
    · have e : q = p := by simpa using hq
      rw [e]; omega
  have fr' : st' = lo ∨ ∃ q ∈ T ++ [p], st' = q.2 + 1 := by
    by_cases c : p.2 + 1 ≤ st
    · have e1 : st' = st := by omega
      rw [e1]
      rcases h.fr with q | ⟨o, ho, q⟩
      · exact .inl q
      · exact .inr ⟨o, List.mem_append_left _ ho, q⟩
    · exact .inr ⟨p, by simp, by omega⟩
  have tno : ∀ n, st ≤ n → inP T n = false := fun n hn => inP_not fun q hq z => by have := h.tk q hq; omega
  have fno : ∀ n, st ≤ n → inP F n = false := fun n hn => inP_not fun q hq z => by have := h.lt q hq; omega
  refine ⟨fun hle => ⟨h.ap.snoc hle h.lt, fun s hs' => ?_, fun s hs' => ?_, tk', fr', by have := h.ge; omega, fun n h1 h2 h3 => ?_⟩, fun hle => ⟨h.ap, fun s hs' => ?_, h.rng, tk', fr', by have := h.ge; omega, fun n h1 h2 h3 => ?_⟩⟩
  · rcases List.mem_append.mp hs' with hs' | hs'
    · have := h.lt s hs'; omega
    · have e2 : s = (st, e) := by simpa using hs'
      rw [e2]; show e + 2 ≤ st'; omega
  · rcases List.mem_append.mp hs' with hs' | hs'
    · exact h.rng s hs'
    · have e2 : s = (st, e) := by simpa using hs'
      rw [e2]; have := h.ge; exact ⟨by show lo ≤ st; omega, by show e ≤ hi; omega⟩
  · rw [inP_snoc, inP_snoc]
    by_cases c : n < st
    · have e1 : inR n (st, e) = false := inR_not.mpr (by show ¬ (st ≤ n ∧ n ≤ e); omega)
      rw [h.mem n h1 h2 c, low n h1 c, e1, Bool.or_false, Bool.or_false]
    · rw [fno n (by omega), tno n (by omega), Bool.false_or, Bool.false_or]
      clear fr' tk'
      have hge := h.ge
      clear h
      rw [Bool.eq_iff_iff, inR_iff]
      cases q : inR n p with
      | true => have z := inR_iff.mp q; simp; show st ≤ n → e < n; omega
      | false => have z := inR_not.mp q; simp; show st ≤ n ∧ n ≤ e; omega
  · have := h.lt s hs'; omega
  · rw [inP_snoc]
    by_cases c : n < st
    · rw [h.mem n h1 h2 c, low n h1 c, Bool.or_false]
    · rw [fno n (by omega), tno n (by omega), Bool.false_or]
      clear fr' tk' h
      have q : inR n p = true := inR_iff.mpr (by omega)
      rw [q]; rfl
theorem GapI.fin {F T : List Pr} {lo hi st : Int} (h : GapI F T lo hi st) :
    (st ≤ hi → Apart (F ++ [(st, hi)]) ∧ ∀ n, inP (F ++ [(st, hi)]) n = (decide (lo ≤ n) && decide (n ≤ hi) && !inP T n)) ∧ (¬ st ≤ hi → Apart F ∧ ∀ n, inP F n = (decide (lo ≤ n) && decide (n ≤ hi) && !inP T n)) := by
  have tno : ∀ n, st ≤ n → inP T n = false := fun n hn => inP_not fun q hq z => by have := h.tk q hq; omega
  have fno : ∀ n, st ≤ n → inP F n = false := fun n hn => inP_not fun q hq z => by have := h.lt q hq; omega
  have out : ∀ n, ¬ (lo ≤ n ∧ n ≤ hi) → inP F n = false := fun n hn => inP_not fun q hq z => by have := h.rng q hq; omega
  have dd : ∀ n, (decide (lo ≤ n) && decide (n ≤ hi)) = decide (lo ≤ n ∧ n ≤ hi) := fun n => by simp
  refine ⟨fun hle => ⟨h.ap.snoc hle h.lt, fun n => ?_⟩, fun hle => ⟨h.ap, fun n => ?_⟩⟩
  · rw [inP_snoc, dd]
    by_cases c : lo ≤ n ∧ n ≤ hi
    · rw [decide_eq_true c, Bool.true_and]
      by_cases c2 : n < st
      · have e1 : inR n (st, hi) = false := inR_not.mpr (by show ¬ (st ≤ n ∧ n ≤ hi); omega)
        rw [h.mem n c.1 c.2 c2, e1, Bool.or_false]
      · have e1 : inR n (st, hi) = true := inR_iff.mpr (by show st ≤ n ∧ n ≤ hi; omega)
        rw [e1, tno n (by omega), Bool.or_true]; rfl
    · have e1 : inR n (st, hi) = false := inR_not.mpr (by have := h.ge; show ¬ (st ≤ n ∧ n ≤ hi); omega)
      rw [decide_eq_false c, out n c, e1]; rfl
  · rw [dd]
    by_cases c : lo ≤ n ∧ n ≤ hi
    · rw [decide_eq_true c, Bool.true_and]
      exact h.mem n c.1 c.2 (by omega)
    · rw [decide_eq_false c, out n c]; rfl
/-- a set's numbers lie from its first low to its last high -/
theorem Apart.ends {a z : Pr} {R M : List Pr} (h : Apart (a :: R)) (e : a :: R = M ++ [z]) {n : Int} (hn : inP (a :: R) n = true) : a.1 ≤ n ∧ n ≤ z.2 := by
  obtain ⟨p, hp, q⟩ := inP_iff.mp hn
  obtain ⟨t1, t2, t3⟩ := h.tail
  have low : a.1 ≤ p.1 := by
    rcases List.mem_cons.mp hp with z | z
    · rw [z]; exact Int.le_refl _
    · have := t3 p z; omega
  have h2 := h
  rw [e] at h2 hp
  obtain ⟨u1, u2, u3⟩ := h2.init
  have high : p.2 ≤ z.2 := by
    rcases List.mem_append.mp hp with y | y
    · have := u3 p y; omega
    · have e2 : p = z := by simpa using y
      rw [e2]; exact Int.le_refl _
  omega
end L2

namespace L2
/-! ### runs of pieces: the mathematics -/
/-- the pieces of a walk: each begins behind the one ahead of it -/
structure Walk (ts : List (Int × Int × Int)) : Prop where
  le : ∀ t ∈ ts, t.1 ≤ t.2.1
  nx : ∀ (i : Nat) a b, ts[i]? = some a → ts[i + 1]? = some b → b.1 = a.2.1 + 1
def pcs (msk : Int → Bool) (ts : List (Int × Int × Int)) (n : Int) : Bool := ts.any fun t => inR n (t.1, t.2.1) && msk t.2.2
/-- what the loop over the pieces keeps: R told of the first i pieces, at where the next one begins -/
structure RunI (R : List Pr) (ts : List (Int × Int × Int)) (msk : Int → Bool) (i : Nat) (at_ : Int) : Prop where
  ap : Apart R
  mem : ∀ n, inP R n = pcs msk (ts.take i) n
  lt : ∀ r ∈ R, r.2 < at_
  few : 2 * R.length ≤ i ∨ (2 * R.length ≤ i + 1 ∧ ∃ R' l, R = R' ++ [l] ∧ l.2 = at_ - 1)
section
variable {R : List Pr} {ts : List (Int × Int × Int)} {msk : Int → Bool} {i : Nat} {at_ : Int} {t : Int × Int × Int}
end
end L2

namespace L2
/-! ### edges: the mathematics -/
/-- each low, and the number behind each high -/
def ends (R : List Pr) : List Int := R.flatMap fun p => [p.1, p.2 + 1]
end L2

namespace L2
open PySem PySem.Spec PyProof.Rows
/-! ### sum of a list of ints; min of five ints -/
section
variable {X : Cx}
end
section
variable {prog : Program} {w : World} {A : Around} {E : Value → Shared → Prop} {s : Shared}
end
section
variable {X : Cx}
end
end L2

namespace L2
/-! ### walks with states; lists that their members tell -/
theorem inP_iff' {R : List Pr} {n : Int} : inP R n = true ↔ ∃ p ∈ R, p.1 ≤ n ∧ n ≤ p.2 := by
  unfold inP
  rw [List.any_eq_true]
  constructor
  · rintro ⟨p, hp, h⟩; exact ⟨p, hp, inR_iff.mp h⟩
  · rintro ⟨p, hp, h⟩; exact ⟨p, hp, inR_iff.mpr h⟩
theorem Apart.uniq : ∀ {A B : List Pr}, Apart A → Apart B → (∀ n, inP A n = inP B n) → A = B
  | [], [], _, _, _ => rfl
  | [], b :: B, _, hB, h => by
    have : inP (b :: B) b.1 = true := inP_iff'.mpr ⟨b, .head _, Int.le_refl _, hB.tail.2.1⟩
    rw [← h b.1] at this
    cases this
  | a :: A, [], hA, _, h => by
    have : inP (a :: A) a.1 = true := inP_iff'.mpr ⟨a, .head _, Int.le_refl _, hA.tail.2.1⟩
    rw [h a.1] at this
    cases this
  | a :: A, b :: B, hA, hB, h => by
    obtain ⟨hA', ha, ga⟩ := hA.tail
    obtain ⟨hB', hb, gb⟩ := hB.tail
    have m : ∀ n, (∃ p ∈ a :: A, p.1 ≤ n ∧ n ≤ p.2) ↔ (∃ p ∈ b :: B, p.1 ≤ n ∧ n ≤ p.2) := fun n => by rw [← inP_iff', ← inP_iff', h n]
    have lowA : ∀ p ∈ a :: A, a.1 ≤ p.1 := fun p hp => by
      rcases List.mem_cons.mp hp with rfl | hp
      · exact Int.le_refl _
      · have := ga p hp; omega
    have lowB : ∀ p ∈ b :: B, b.1 ≤ p.1 := fun p hp => by
      rcases List.mem_cons.mp hp with rfl | hp
      · exact Int.le_refl _
      · have := gb p hp; omega
    have e1 : a.1 = b.1 := by
      obtain ⟨p, hp, p1, p2⟩ := (m a.1).mp ⟨a, .head _, Int.le_refl _, ha⟩
      obtain ⟨q, hq, q1, q2⟩ := (m b.1).mpr ⟨b, .head _, Int.le_refl _, hb⟩
      have := lowB p hp
      have := lowA q hq
      omega
    have e2 : a.2 = b.2 := by
      rcases Int.lt_trichotomy a.2 b.2 with g | g | g
      · obtain ⟨p, hp, p1, p2⟩ := (m (a.2 + 1)).mpr ⟨b, .head _, by omega, by omega⟩
        rcases List.mem_cons.mp hp with rfl | hp
        · omega
        · have := ga p hp; omega
      · exact g
      · obtain ⟨p, hp, p1, p2⟩ := (m (b.2 + 1)).mp ⟨a, .head _, by omega, by omega⟩
        rcases List.mem_cons.mp hp with rfl | hp
        · omega
        · have := gb p hp; omega
    have e : a = b := Prod.ext e1 e2
    subst e
    congr 1
    refine Apart.uniq hA' hB' fun n => ?_
    by_cases hn : n ≤ a.2
    · rw [hA.behind hn, hB.behind hn]
    · have hx := h n
      have z : inR n a = false := Bool.eq_false_iff.mpr fun t => hn (inR_iff.mp t).2
      have c1 : inP (a :: A) n = (inR n a || inP A n) := rfl
      have c2 : inP (a :: B) n = (inR n a || inP B n) := rfl
      rw [c1, c2, z] at hx
      exact hx
/-- neighbours have unlike states -/
def NeS (W : List (Int × Int × Int)) : Prop := ∀ (j : Nat) a b, W[j]? = some a → W[j + 1]? = some b → a.2.2 ≠ b.2.2
/-- pieces of like state put together -/
structure StepI (G ts : List (Int × Int × Int)) (i : Nat) : Prop where
  walk : Walk G
  ne : NeS G
  pcs : ∀ msk n, pcs msk G n = L2.pcs msk (ts.take i) n
  hd : ∀ t, ts[0]? = some t → 0 < i → ∃ g, G[0]? = some g ∧ g.1 = t.1
  lst : ∀ t, ts[i - 1]? = some t → 0 < i → ∃ G' g, G = G' ++ [g] ∧ g.2.1 = t.2.1 ∧ g.2.2 = t.2.2
  len : G.length ≤ i
  stt : ∀ g ∈ G, ∃ t ∈ ts, g.2.2 = t.2.2
section
variable {G ts : List (Int × Int × Int)} {i : Nat} {t : Int × Int × Int}
end
end L2

namespace L2
open PySem PySem.Spec PyProof.Rows
/-! ### texts: a loop over the signs, join, globals -/
/-- the signs of z, one by one -/
def Its (z : Str) : It := ⟨fun i _ => i < z.cps.size, fun i H x H' => H' = H ∧ ∃ c, z.cps[i]? = some c ∧ x = .str ⟨#[c]⟩, fun i _ => z.cps.size ≤ i⟩
theorem turn_ascii {P : Program} {w : World} {K : PySem.W.Frag} {tg : Expr} (z : Str) (t : Tok) (it : Addr) : Turn P w K tg (Its z) [it] it (fun i h => h.IsStrIter it "str_ascii_iterator" z t i) where
  mem := by simp
  obj := fun i h st b hb => by
    obtain ⟨o, e, c, d⟩ := st
    rw [show b = it by simpa using hb]
    exact ⟨o, e, fun v q => by rw [d] at q; cases q⟩
  keep := fun i h h' ⟨o, e, r⟩ k => ⟨o, k it (by simp) o e, r⟩
  item := by
    intro X hP hw hK hc i pins s σ H E I hf st hg
    subst hP hw hK
    have hlt : i < z.cps.size := hg
    have hi : z.cps[i]? = some z.cps[i] := Array.getElem?_eq_getElem hlt
    obtain ⟨f0, f1, f2, f3, f4, f5⟩ := hf it (by simp)
    refine wpAny_pyNext_ascii_item st hi fun h' st' sb => ?_
    have I1 : Inv X pins σ H { s with heap := h', toks := s.toks + 1 } := I.turned (t' := s.toks + 1) (fun b o hb e => (sb.2 b hb).trans e) f0 f1 f3 f4 f5
    obtain ⟨o, e, c, d⟩ := id st'
    exact ⟨_, rfl, go_of (s := { s with heap := h', toks := s.toks + 1 }) e c d (by decide) ⟨.str ⟨#[z.cps[i]]⟩, H, I1, ⟨_, rfl⟩, ⟨rfl, _, hi, rfl⟩, st', fun b hb => (hf b hb).1⟩⟩
  done := by
    intro X hP hw hK hc i pins s σ H E I hf st hg
    subst hP hw hK
    obtain ⟨f0, f1, f2, f3, f4, f5⟩ := hf it (by simp)
    exact wpAny_pyNext_ascii_end (I.ok.hd hc) st (by simpa using (show z.cps.size ≤ i from hg)) fun h' eb => ⟨rfl, I.turned (t' := s.toks) (fun b o hb e => eb b o hb e) f0 f1 f3 f4 f5⟩
  self := fun _ _ _ _ _ st h => wpAny_pyIter_striter_ascii st h
theorem turn_wide {P : Program} {w : World} {K : PySem.W.Frag} {tg : Expr} (z : Str) (t : Tok) (it : Addr) : Turn P w K tg (Its z) [it] it (fun i h => h.IsStrIter it "str_iterator" z t i) where
  mem := by simp
  obj := fun i h st b hb => by
    obtain ⟨o, e, c, d⟩ := st
    rw [show b = it by simpa using hb]
    exact ⟨o, e, fun v q => by rw [d] at q; cases q⟩
  keep := fun i h h' ⟨o, e, r⟩ k => ⟨o, k it (by simp) o e, r⟩
  item := by
    intro X hP hw hK hc i pins s σ H E I hf st hg
    subst hP hw hK
    have hlt : i < z.cps.size := hg
    have hi : z.cps[i]? = some z.cps[i] := Array.getElem?_eq_getElem hlt
    obtain ⟨f0, f1, f2, f3, f4, f5⟩ := hf it (by simp)
    refine wpAny_pyNext_wide_item st hi fun h' st' sb => ?_
    have I1 : Inv X pins σ H { s with heap := h', toks := s.toks + 1 } := I.turned (t' := s.toks + 1) (fun b o hb e => (sb.2 b hb).trans e) f0 f1 f3 f4 f5
    obtain ⟨o, e, c, d⟩ := id st'
    exact ⟨_, rfl, go_of (s := { s with heap := h', toks := s.toks + 1 }) e c d (by decide) ⟨.str ⟨#[z.cps[i]]⟩, H, I1, ⟨_, rfl⟩, ⟨rfl, _, hi, rfl⟩, st', fun b hb => (hf b hb).1⟩⟩
  done := by
    intro X hP hw hK hc i pins s σ H E I hf st hg
    subst hP hw hK
    obtain ⟨f0, f1, f2, f3, f4, f5⟩ := hf it (by simp)
    exact wpAny_pyNext_wide_end (I.ok.hd hc) st (by simpa using (show z.cps.size ≤ i from hg)) fun h' eb => ⟨rfl, I.turned (t' := s.toks) (fun b o hb e => eb b o hb e) f0 f1 f3 f4 f5⟩
  self := fun _ _ _ _ _ st h => wpAny_pyIter_striter_wide st h
section
variable {X : Cx} {tg : Expr}
inductive iStrq  (R : (It → Hp → Prop)) (x : V) (H1 : Hp) : Prop
  | mk (z : _) (_ : x = .str z) (_ : R (Its z) H1) : iStrq R x H1
def iStr (tl : TE) : PySem.W.Frag → St → Hp → (It → Hp → Prop) → Prop := fun _ σ H R => tl σ H fun x H1 => iStrq R x H1
theorem pi_str {l : Expr} {tl : TE} (hl : PE X l tl) : PI X tg l (iStr tl X.K) := by
  intro pins s σ H R I h
  refine thn (hl pins s σ H _ I h) fun v s1 ⟨x, H1, I1, r1, q1⟩ => ?_
  obtain ⟨z, e, q⟩ := q1
  subst e
  obtain ⟨t, rfl⟩ := r1
  have fpo : ∀ b ∈ [s1.heap.objs.size], FpOk X pins H1 b := fun b hb => by
    rw [show b = s1.heap.objs.size by simpa using hb]
    exact I1.fpOk (Nat.le_refl _) (I1.hok.fresh (Nat.le_refl _))
  cases ha : z.cps.all (· < 128) with
  | true => exact wpAny_pyIter_ascii ha ⟨s1.heap.objs.size, [s1.heap.objs.size], _, _, H1, rfl, I1.kept (t' := s1.toks) fun b o e => Heap.get?_push_of_some _ e, turn_ascii z t _, ⟨_, Heap.get?_push_size _ rfl, rfl, rfl⟩, fpo, q⟩
  | false => exact wpAny_pyIter_wide ha ⟨s1.heap.objs.size, [s1.heap.objs.size], _, _, H1, rfl, I1.kept (t' := s1.toks) fun b o e => Heap.get?_push_of_some _ e, turn_wide z t _, ⟨_, Heap.get?_push_size _ rfl, rfl, rfl⟩, fpo, q⟩
end
theorem for_str {z : Str} {g : TG} {tb : TS} {D : Ends} {σ : St} {H : Hp} (Pv : Nat → St → Hp → Prop) (h0 : Pv 0 σ H)
    (hs : ∀ i c σ H, z.cps.toList[i]? = some c → Pv i σ H → g (.str ⟨#[c]⟩) σ H fun σ2 H2 => tb { D with nx := Pv (i + 1), ct := Pv (i + 1), bk := D.nx } σ2 H2) (hd : ∀ σ H, Pv z.cps.size σ H → D.nx σ H) :
    ∃ W : Nat → Nat → St → Hp → Prop, (∃ m, W 0 m σ H) ∧ ∀ i m σ H, W i m σ H →
      ((Its z).stop i H ∧ D.nx σ H) ∨ ((Its z).go i H ∧ ∃ N : St → Hp → Prop, (∀ σ' H', N σ' H' → ∃ m', m' < m ∧ W (i + 1) m' σ' H') ∧ ∀ x H', (Its z).yld i H x H' → g x σ H' fun σ2 H2 => tb { D with nx := N, ct := N, bk := D.nx } σ2 H2) := by
  refine ⟨fun i m σ H => m = z.cps.size - i ∧ i ≤ z.cps.size ∧ Pv i σ H, ⟨_, rfl, Nat.zero_le _, h0⟩, ?_⟩
  rintro i m σ H ⟨rfl, hi, p⟩
  by_cases hlt : i < z.cps.size
  · refine .inr ⟨hlt, Pv (i + 1), fun σ' H' p' => ⟨z.cps.size - (i + 1), by omega, rfl, hlt, p'⟩, fun x H' y => ?_⟩
    obtain ⟨e, c, y1, y2⟩ := y
    subst e; subst y2
    exact hs i c σ _ (by simpa using y1) p
  · have e : i = z.cps.size := by omega
    subst e
    exact .inl ⟨Nat.le_refl _, hd σ H p⟩
theorem strs_are : ∀ {ys : List Str} {us : List Value}, Vals (ys.map V.str) us → StrsAre us ys
  | [], _, .nil => .nil
  | y :: ys, _, .cons r t => by
    obtain ⟨t0, rfl⟩ := r
    exact .cons y t0 (strs_are t)
section
variable {X : Cx}
/-- sep.join(xs), xs a list of texts -/
inductive rJoin (K : PySem.W.Frag) (x : V) (vs : List V) (H : Hp) (Q : VK) : Prop
  | mk (z : Str) (a : Addr) (ys : List Str) (_ : x = .str z) (_ : vs = [.ref a]) (_ : SqL K H a (ys.map V.str)) (_ : z.length ≤ 64) (_ : (ys.map (·.length)).sum + ys.length * 64 ≤ 16777216) (_ : Q (.str (Txt.join z ys)) H) : rJoin K x vs H Q
theorem mt_join : MtM X "str.join" (rJoin X.K) := by
  intro pins s σ H x vs v us Q I rx rv h
  obtain ⟨z, a, ys, rfl, rfl, hq, h1, h2, q⟩ := h
  obtain ⟨t, rfl⟩ := rx
  obtain ⟨u, rfl, ru⟩ := rv.one
  cases (show u = Value.ref a from ru)
  obtain ⟨its, r, pl, hz⟩ := I.list hq
  exact join_listC pl.isList (by simpa using strs_are r) h1 h2 fun t' k => ⟨.str (Txt.join z ys), H, I.tok k, ⟨_, rfl⟩, q⟩
/-- a global whose value is known -/
theorem pe_gl {x : Str} {v : V} {pos : Pos} (hg : Gl X x) (h : ∃ u, X.mg x = some u ∧ RelV v u) (hd : (x == ("__debug__" : Str)) = false := by decide) : PE X (.Name x pos) (tC v) := by
  obtain ⟨_, m, r⟩ := h
  exact pe_glob hg m r hd
end
/-- a sign that stands in g -/
def sg (g : Str) (c : Nat) : Bool := !(Builtin.Str.occurrences g ⟨#[c]⟩ 0 g.length 1).isEmpty
def allIn (z g : Str) : Bool := z.cps.toList.all (sg g)
end L2

namespace L2
open PySem PySem.Spec PyProof.Rows PySem.NumText
/-! ### texts of numbers: slices, startswith, int(text), figures -/
section
variable {X : Cx}
theorem isPart_of {v : Value} {o : Option Int} (h : IsPart v o) : ∃ p : Option (Int × Tok), v = partValue p ∧ p.map (·.1) = o := by
  cases h with
  | none => exact ⟨none, rfl, rfl⟩
  | int i t => exact ⟨some (i, t), rfl, rfl⟩
/-- z[lo:hi] -/
inductive rSlS  (x : V) (lo : Option Int) (hi : Option Int) (H : Hp) (Q : VK) : Prop
  | mk (z : _) (_ : x = .str z) (_ : z.length ≤ sizeLine) (_ : Q (.str (Txt.slice z lo hi)) H) : rSlS x lo hi H Q
theorem sl_str : SlR X rSlS := by
  intro pins s σ H x v vl vu lo hi sl Q I rx hs pl pu h
  obtain ⟨z, rfl, hz, q⟩ := h
  obtain ⟨t, rfl⟩ := rx
  obtain ⟨l, rfl, el⟩ := isPart_of pl
  obtain ⟨u, rfl, eu⟩ := isPart_of pu
  refine ⟨"str", _, slot_str_getitem.lookup, typeIs_str s z t, ?_⟩
  refine wpAny_getItem_str_slice (l := l) (u := u) (st := none) hs rfl ?_
  unfold sliceMade slicePicked
  rw [el, eu]
  unfold Txt.slice at q
  show Made.post (if ((1 : Int) == 1 && (Builtin.Str.strSliceIndices lo hi 1 z.length).length == z.length) = true then _ else _) _ _
  by_cases c : ((1 : Int) == 1 && (Builtin.Str.strSliceIndices lo hi 1 z.length).length == z.length) = true
  · rw [if_pos c] at q ⊢
    exact ⟨.str z, H, I, ⟨_, rfl⟩, q⟩
  · have hle := Txt.slice_le z lo hi
    unfold Txt.slice at hle
    rw [if_neg c] at q hle ⊢
    exact ⟨Nat.le_trans hle hz, .str _, H, I.tok _, ⟨_, rfl⟩, q⟩
/-- int(text) -/
theorem call_int_text : CallR X (.type "int") (fun xs H Q => ∃ z n, xs = [.str z] ∧ intText? z = some n ∧ z.length ≤ 640 ∧ Q (.int n) H) := by
  intro pins s σ H xs us Q I r h
  obtain ⟨z, n, rfl, hn, hz, q⟩ := h
  obtain ⟨u, rfl, t, rfl⟩ := vals1 r
  exact PySem.W.KIN.call_text hn hz ⟨.int n, H, I.tok _, ⟨_, rfl⟩, q⟩
inductive rStarts  (x : V) (vs : List V) (H : Hp) (Q : VK) : Prop
  | mk (z y : Str) (_ : x = .str z) (_ : vs = [.str y]) (_ : Q (.bl (Txt.startswith z y)) H) : rStarts x vs H Q
theorem mt_startswith : MtM X "str.startswith" rStarts := by
  intro pins s σ H x vs v us Q I rx rv h
  obtain ⟨z, y, rfl, rfl, q⟩ := h
  obtain ⟨t, rfl⟩ := rx
  obtain ⟨u, rfl, ru⟩ := rv.one
  obtain ⟨t', rfl⟩ := ru
  exact PySem.SC.startswith ⟨.bl _, H, I, rfl, q⟩
end
/-! figures -/
theorem fold_dv : ∀ (cs : List Nat) (a : Nat), cs.foldl (fun acc c => acc * 10 + (c - 48)) a = a * 10 ^ cs.length + digitsVal cs
  | [], a => by simp [digitsVal]
  | c :: cs, a => by
    have e : digitsVal (c :: cs) = (0 * 10 + (c - 48)) * 10 ^ cs.length + digitsVal cs := by
      unfold digitsVal; rw [List.foldl_cons, fold_dv cs]; rfl
    rw [List.foldl_cons, fold_dv cs, e, List.length_cons, Nat.pow_succ]
    simp only [Nat.add_mul, Nat.mul_assoc, Nat.mul_comm 10, Nat.zero_mul, Nat.zero_add, Nat.add_assoc]
theorem dv_cons (c : Nat) (cs : List Nat) : digitsVal (c :: cs) = (c - 48) * 10 ^ cs.length + digitsVal cs := by
  have e : digitsVal (c :: cs) = (0 * 10 + (c - 48)) * 10 ^ cs.length + digitsVal cs := by
    unfold digitsVal; rw [List.foldl_cons, fold_dv cs]; rfl
  rw [e, Nat.zero_mul, Nat.zero_add]
/-- figures with no nought ahead -/
structure Figs (cs : List Nat) : Prop where
  all : AllDigits cs
  one : cs.length = 1 ∨ ∃ c r, cs = c :: r ∧ 49 ≤ c
theorem Figs.ne {cs : List Nat} (F : Figs cs) : cs ≠ [] := by
  rintro rfl
  rcases F.one with h | ⟨c, r, h, _⟩ <;> cases h
theorem Figs.short {cs : List Nat} (F : Figs cs) {k : Nat} (hk : 1 ≤ k) (h : digitsVal cs < 10 ^ k) : cs.length ≤ k := by
  rcases F.one with e | ⟨c, r, rfl, hc⟩
  · omega
  · rw [dv_cons] at h
    have h1 : 1 * 10 ^ r.length ≤ (c - 48) * 10 ^ r.length := Nat.mul_le_mul_right _ (by omega)
    have h2 : 10 ^ r.length < 10 ^ k := by omega
    have := (Nat.pow_lt_pow_iff_right (by decide : 1 < 10)).mp h2
    rw [List.length_cons]; omega
theorem chars_back {cs : List Nat} (h : AllDigits cs) : (cs.map Char.ofNat).map Char.toNat = cs := by
  rw [List.map_map]
  conv => rhs; rw [← List.map_id cs]
  apply List.map_congr_left
  intro c hc
  obtain ⟨h1, h2⟩ := h c hc
  have : c = 48 ∨ c = 49 ∨ c = 50 ∨ c = 51 ∨ c = 52 ∨ c = 53 ∨ c = 54 ∨ c = 55 ∨ c = 56 ∨ c = 57 := by omega
  rcases this with rfl | rfl | rfl | rfl | rfl | rfl | rfl | rfl | rfl | rfl <;> rfl
theorem Figs.digits {cs : List Nat} (F : Figs cs) : Nat.toDigits 10 (digitsVal cs) = cs.map Char.ofNat := by
  have hl : cs.length ≠ 0 := fun e => F.ne (List.length_eq_zero_iff.mp e)
  refine toDigits_digitsVal (cs.length - 1) cs (by omega) F.all ?_
  rcases F.one with e | e
  · exact .inl (by omega)
  · exact .inr e
/-- the signs of str(n) -/
def numCs (n : Int) (cs : List Nat) : List Nat := if n < 0 then 45 :: cs else cs
theorem text_of {n : Int} {cs : List Nat} (F : Figs cs) (h : digitsVal cs = n.natAbs) : Str.ofString (toString n) = ⟨(numCs n cs).toArray⟩ := by
  have hd := F.digits
  rw [h] at hd
  by_cases hn : n < 0
  · obtain ⟨m, rfl⟩ : ∃ m, n = Int.negSucc m := ⟨(-n - 1).toNat, by omega⟩
    have e : toString (Int.negSucc m) = "-" ++ String.ofList (Nat.toDigits 10 (m + 1)) := rfl
    rw [Str.ofString_eq_toList, e, String.toList_append]
    unfold numCs
    rw [if_pos hn]
    have e2 : (Int.negSucc m).natAbs = m + 1 := rfl
    rw [e2] at hd
    rw [hd, List.map_append, show (String.ofList (cs.map Char.ofNat)).toList = cs.map Char.ofNat from String.toList_ofList, chars_back F.all]
    rfl
  · obtain ⟨m, rfl⟩ : ∃ m : Nat, n = (m : Int) := ⟨n.toNat, by omega⟩
    have e2 : ((m : Int)).natAbs = m := rfl
    rw [e2] at hd
    have z := PySem.W.KIN.signs_num m
    rw [hd, chars_back F.all] at z
    unfold numCs
    rw [if_neg hn, ← z]
/-- what int(..) reads of it -/
theorem read_of {n : Int} {cs : List Nat} (F : Figs cs) (h : digitsVal cs = n.natAbs) (hl : cs.length ≤ 60) : intText? ⟨(numCs n cs).toArray⟩ = some n := by
  unfold numCs
  by_cases hn : n < 0
  · rw [if_pos hn]
    have z := intText_neg (x := ⟨(45 :: cs).toArray⟩) (cs := cs) rfl F.all F.ne (by show (45 :: cs).toArray.size ≤ _; simp; omega)
    rw [z, h]; congr 1; omega
  · rw [if_neg hn]
    have z := intText_digits (x := ⟨cs.toArray⟩) F.all F.ne (by show cs.toArray.size ≤ _; simp; omega)
    rw [z]; show some ((digitsVal cs : Nat) : Int) = _; rw [h]; congr 1; omega
end L2

/-! ### the script's numbers are of a bounded size -/
namespace L2
open PySem PySem.Spec PyProof.Rows PySem.W
theorem weight_ints : ∀ {ns : List Int} {n : Int}, n ∈ ns → Builtin.Int.intBits n ≤ WData.weightAll (ns.map WData.int)
  | m :: ns, n, h => by
    rw [List.map_cons, WData.weightAll.eq_2]
    rcases List.mem_cons.mp h with rfl | h
    · have e : (WData.int n).weight = Builtin.Int.intBits n := by rw [WData.weight.eq_7]; rfl
      rw [e]; omega
    · have := weight_ints h; omega
theorem bits_of_lay {ns : List Int} (h : WData.layableAll [WData.list (ns.map WData.int)] = true) : ∀ n ∈ ns, Builtin.Int.intBits n ≤ 2 ^ 20 := by
  intro n hn
  unfold WData.layableAll WData.layable at h
  simp only [List.all_cons, Bool.and_eq_true, decide_eq_true_eq] at h
  have h1 := h.1.2
  rw [WData.weight.eq_2] at h1
  exact Nat.le_trans (weight_ints hn) h1
theorem op_mulO {X : Cx} : OpR X (binaryOp .Mult) (rI IntMulOk fun i j => .int (i * j)) := opI fun _ _ _ _ _ _ _ hc q => mul_int q hc
theorem walk_ofB {l : PySem.W.OpenLaw} {n k : Nat} {q : Program} {loose : List Str} {XP : (Str → Option Value) → Heap → Prop} {YP : World → Heap → Prop} {d : DefRec} {K : Params → PySem.W.Frag} {CX : World → CXT} {sp : World → Sp} {x : Str}
    (hn : l.most = some n) (hn2 : n ≤ sizeLine) (hdf : d.params.defaults = []) (hr : Room k callerA)
    (hY : ∀ (w : World) (h : Heap), YP w h → (K w.params).In h)
    (F : ∀ (w : World) (mg : Str → Option Value) (fa : Addr) (h : Heap), (K w.params).In h → h.Ns mainGlobals mg → mg d.name = some (.ref fa) →
      ∃ fd : FuncData, (∀ (s : Shared) (u : Value), BindsTo s fd ⟨[u], []⟩ [(x, u)]) ∧
        ∀ base : Heap, (K w.params).In base → base.Ns mainGlobals mg → FnOk l.prog w (K w.params) mg base (CX w) k fa fd [x] (sp w))
    (hsp : ∀ (w : World) (H : Hp) (a : Addr) (ns : List Int), ns.length ≤ n → (∀ m ∈ ns, Builtin.Int.intBits m ≤ 2 ^ 20) → Only H → SqL (K w.params) H a (ns.map V.int) → sp w [.ref a] H (fun v _ => v = .bl true) fun _ _ _ => False)
    (hCX : ∀ (w : World) (H : Hp) (s : Shared) (e : Value) (s' : Shared), CX w [] H s (fun _ _ _ => False) e s' → False) :
    PySem.W.WalkO q loose XP YP l.row.toRowW d [] (fun f vs => PySem.call f vs) := by
  intro w s₀ s₁ mg mb G Y fa o pm cd doc dV kV ho hd hcd hD hmg hg args vals as hpre hlay hrd hwl hlo
  obtain rfl : dV = .none := Dflts.none hD hdf
  obtain rfl : kV = .none := Dflts.noKw hD
  obtain ⟨a, vs, ns, rfl, rfl, hobj, hints, hlen⟩ := Att.script_of hn hpre hwl
  have KX := hY w _ Y
  obtain ⟨fd, hb, hF⟩ := F w mg fa _ KX G.T.g hmg
  refine enter_call (codeAny_mono (law_call KX G.T.g G.T.b G.T.builtins G.T.nolimit hg hobj hints (Nat.le_trans hlen hn2) hr hF hb (fun H hO hS => hsp w H a ns hlen (bits_of_lay hlay) hO hS) fun H e s' => hCX w H s₁ e s') fun r s' hq => ?_)
  obtain ⟨rfl, h2, h3, h4⟩ := hq
  exact ⟨.inl ⟨.bool true, .bool true, [], rfl, fun _ => rfl, .bool true, Att.post_true l _, fun _ => ⟨List.Pairwise.nil, fun _ hm => (nomatch hm)⟩⟩, h2, h3, h4⟩
end L2

namespace L2
open PySem PySem.Spec PyProof.Rows
/-! ### exceptions of own classes: raised, passed on, caught -/
/-- an exception: its own record (class, what it was made of and its context) and the head of its trace, with the head's flight -/
def ExcF (h : Heap) (e T : Addr) (cls : Value) (a0 : Value × Value) (fl : Value) : Prop :=
  ∃ oe vs oT ts, h.get? e = some oe ∧ (oe.cls = cls ∧ vs[0]? = some a0.1 ∧ vs[2]? = some a0.2) ∧ oe.data = .fields vs ∧ vs[1]? = some (.ref T) ∧ T ≠ e ∧ h.get? T = some oT ∧ oT.data = .fields ts ∧ ts[3]? = some fl
abbrev ExcT (h : Heap) (e T : Addr) (cls : Value) (a0 : Value × Value) : Prop := ExcF h e T cls a0 .none
/-- what a step of a trace changes: the records at X, the slots of the frames at F -/
structure Stp (F X : List Addr) (h h' : Heap) : Prop where
  keep : ∀ b o, b ∉ F → b ∉ X → h.get? b = some o → h'.get? b = some o
  slot : ∀ b o, b ∈ F → h.get? b = some o → ∃ sl, h'.get? b = some { o with slots := sl }
/-- an exception in the frame at L: just made, flying, or held there -/
inductive ExcS (h : Heap) (L e : Addr) (cls : Value) (a0 : Value × Value) : List Addr → Prop where
  | fresh {oe : Obj} {vs : Array Value} (he : h.get? e = some oe) (hc : oe.cls = cls) (hd : oe.data = .fields vs) (h1 : vs[1]? = some Value.none) (h0 : vs[0]? = some a0.1) (h2 : vs[2]? = some a0.2) : ExcS h L e cls a0 []
  | fly {T : Addr} (x : ExcF h e T cls a0 .none) : ExcS h L e cls a0 [T]
  | held {T : Addr} (x : ExcF h e T cls a0 (rawInt L)) : ExcS h L e cls a0 [T]
section
variable {M : Model} {A : Around} {E : Value → Shared → Prop} {s : Shared} {base : Heap} {env : Env} {outer : List Env} {L e T : Addr} {oe : Obj} {vs : Array Value} {a0 : Value × Value} {cls fl : Value} {Q : Unit → Shared → Prop} {Ts : List Addr}
theorem Stp.refl (F Y : List Addr) (h : Heap) : Stp F Y h h := ⟨fun _ _ _ _ q => q, fun _ o _ q => ⟨o.slots, q⟩⟩
/-- a new entry of the trace, for the frame at L -/
theorem entryM {hadNext : Bool} {head : Value} (hf : A.frames = some (env :: outer)) (ff : s.heap.FunFrames base (env :: outer)) (hL : env.frame = some L) (he : s.heap.get? e = some oe) (hd : oe.data = .fields vs) (hsz : 1 < vs.size)
    (h : ∀ h' T oT ts, Stp (frs (env :: outer)) [e] s.heap h' → h'.get? e = some (Obj.mapFields (·.setIfInBounds 1 (.ref T)) oe) → s.heap.get? T = none → T ≠ e → h'.get? T = some oT → oT.data = .fields ts → ts[3]? = some (rawInt L) → Q () { s with heap := h' }) :
    wpAny M A (do let a ← frameOf env; let pl ← entryPlaceOf L hadNext; let b ← EntryCells.newEntry head a .none (rawInt L) .none pl; setField (.ref e) 1 b) Q E s := by
  have nF : e ∉ frs (env :: outer) := fun z => by
    obtain ⟨_, o2, q2, nf⟩ := ff.mem z
    rw [he] at q2; cases q2
    exact nf vs hd
  refine wpAny_bind (wpAny_frameOf_fun hf ff hL fun g1 so => wpAny_bind (wpAny_entryPlaceOf fun pl ok => ?_))
  have e1 : g1.get? e = some oe := (so.2.1 e nF).trans he
  have sz1 : g1.objs.size = s.heap.objs.size := so.1
  have key : ∀ (O : Obj) (ts : Array Value), O.data = .fields ts → ts[3]? = some (rawInt L) → wpAny M A (setField (.ref e) 1 (.ref g1.objs.size)) Q E { s with heap := g1.push O } := fun O ts d3 t3 => by
    have e2 := Heap.get?_push_of_some O e1
    have ne : g1.objs.size ≠ e := Nat.ne_of_gt (Heap.lt_size e1)
    have oth : ∀ b, b ≠ e → ((g1.push O).update e (Obj.mapFields (·.setIfInBounds 1 (.ref g1.objs.size)))).get? b = (g1.push O).get? b := fun b hb => Heap.get?_update_other _ _ (Ne.symm hb)
    refine wpAny_setField e2 hd hsz (h _ g1.objs.size O ts ⟨fun b o hb hx q => ?_, fun b o hb q => ?_⟩ (Heap.get?_update_self _ e2 (Obj.isFreed_of_fields (Obj.data_mapFields hd _))) (Heap.get?_none_of_le (by rw [sz1]; exact Nat.le_refl _)) ne ((oth _ ne).trans (Heap.get?_push_size g1 (Obj.isFreed_of_fields d3))) d3 t3)
    · exact (oth b fun z => hx (by simp [z])).trans (Heap.get?_push_of_some O ((so.2.1 b hb).trans q))
    · obtain ⟨sl, q1⟩ := so.2.2 b o q
      exact ⟨sl, (oth b fun z => nF (z ▸ hb)).trans (Heap.get?_push_of_some O q1)⟩
  unfold EntryCells.newEntry newFields
  exact wpAny_bind (wpAny_newObj_type (key _ _ rfl (by rcases ok with rfl | ⟨_, _, _, _, _, _, _, rfl⟩ <;> simp)) (ok.sizeOk5 _ _ _ _ _))
/-- the frame's entry is there behind it -/
theorem note (hf : A.frames = some (env :: outer)) (ff : s.heap.FunFrames base (env :: outer)) (hL : env.frame = some L) (x : ExcS s.heap L e cls a0 Ts)
    (h : ∀ h' T', Stp (frs (env :: outer)) (e :: Ts) s.heap h' → ExcF h' e T' cls a0 (rawInt L) → (s.heap.get? T' = none ∨ T' ∈ Ts) → Q () { s with heap := h' }) : wpAny M A (noteFrame (.ref e) env) Q E s := by
  have sz : ∀ {vs : Array Value} {x : Value}, vs[1]? = some x → 1 < vs.size := fun z => (Array.getElem?_eq_some_iff.mp z).1
  have rec2 : ∀ {oe : Obj} {vs : Array Value} {h' : Heap} {T : Addr} {oT : Obj} {ts : Array Value}, oe.cls = cls → oe.data = .fields vs → 1 < vs.size → vs[0]? = some a0.1 → vs[2]? = some a0.2 → h'.get? e = some (Obj.mapFields (·.setIfInBounds 1 (.ref T)) oe) → T ≠ e → h'.get? T = some oT → oT.data = .fields ts → ts[3]? = some (rawInt L) → ExcF h' e T cls a0 (rawInt L) :=
    fun {oe vs h' T oT ts} c d l v0 v2 q1 q2 q3 q4 q5 => ⟨_, _, oT, ts, q1, ⟨(Obj.cls_mapFields _ _).trans c, by rw [Array.getElem?_setIfInBounds_ne (by decide)]; exact v0, by rw [Array.getElem?_setIfInBounds_ne (by decide)]; exact v2⟩, Obj.data_mapFields d _, by simp [l], q2, q3, q4, q5⟩
  unfold noteFrame
  simp only [hL]
  cases x with
  | @fresh oe vs he hc hd h1 h0 h2 =>
    refine wpAny_bind (wpAny_field he hd h1 ?_)
    rw [if_neg (by decide)]
    exact entryM hf ff hL he hd (sz h1) fun h' T oT ts st q1 q2 q3 q4 q5 q6 => h h' T st (rec2 hc hd (sz h1) h0 h2 q1 q3 q4 q5 q6) (.inl q2)
  | @fly T x =>
    obtain ⟨oe, vs, oT, ts, x1, ⟨x2, x0, xc⟩, x3, x4, x5, x6, x7, x8⟩ := x
    have oth : ∀ b, b ≠ T → (s.heap.update T (Obj.mapFields (·.setIfInBounds 3 Value.none))).get? b = s.heap.get? b := fun b hb => Heap.get?_update_other _ _ (Ne.symm hb)
    have rec3 : ∀ b o, s.heap.get? b = some o → (∀ vs, o.data ≠ .fields vs) → b ≠ T := fun b o q nf z => nf ts (by rw [z, x6] at q; cases q; exact x7)
    refine wpAny_bind (wpAny_field x1 x3 x4 ?_)
    rw [if_pos (show (Value.ref T != Value.none) = true by simp)]
    refine wpAny_bind (wpAny_field x6 x7 x8 ?_)
    rw [if_neg (show ¬ (Value.none == rawInt L) = true by simp [rawInt])]
    refine wpAny_bind (wpAny_setField x6 x7 (Array.getElem?_eq_some_iff.mp x8).1 ?_)
    refine entryM (s := { s with heap := s.heap.update T (Obj.mapFields (·.setIfInBounds 3 Value.none)) }) hf (ff.of_keeps fun b o q nf => ⟨o, (oth b (rec3 b o q nf)).trans q, rfl⟩) hL ((oth e (Ne.symm x5)).trans x1) x3 (sz x4) fun h' T' oT' ts' st q1 q2 q3 q4 q5 q6 => ?_
    refine h h' T' ⟨fun b o hb hx q => st.keep b o hb (fun z => hx (List.mem_cons.mpr (.inl (by simpa using z)))) ((oth b fun z => hx (by simp [z])).trans q), fun b o hb q => ?_⟩ (rec2 x2 x3 (sz x4) x0 xc q1 q3 q4 q5 q6) ?_
    · obtain ⟨_, o2, q2, nf⟩ := ff.mem hb
      rw [q] at q2; cases q2
      exact st.slot b o hb ((oth b (rec3 b o q nf)).trans q)
    · by_cases z : T' = T
      · exact .inr (by simp [z])
      · exact .inl ((oth T' z).symm.trans q2)
  | @held T x =>
    obtain ⟨oe, vs, oT, ts, x1, x2, x3, x4, x5, x6, x7, x8⟩ := id x
    refine wpAny_bind (wpAny_field x1 x3 x4 ?_)
    rw [if_pos (show (Value.ref T != Value.none) = true by simp)]
    refine wpAny_bind (wpAny_field x6 x7 x8 ?_)
    rw [if_pos (show (rawInt L == rawInt L) = true by simp)]
    exact wpAny_pure (h s.heap T (Stp.refl _ _ _) x (.inr (by simp)))
/-- the head's flight is set -/
theorem flyTo {fr : Option Addr} {l : List Env} (ff : s.heap.FunFrames base l) (x : ExcF s.heap e T cls a0 fl) (h : ∀ h', Stp (frs l) [e, T] s.heap h' → ExcF h' e T cls a0 (fr.elim Value.none fun f => rawInt f) → Q () { s with heap := h' }) : wpAny M A (setFlight (.ref e) fr) Q E s := by
  obtain ⟨oe, vs, oT, ts, x1, x2, x3, x4, x5, x6, x7, x8⟩ := x
  have sz : 3 < ts.size := (Array.getElem?_eq_some_iff.mp x8).1
  have oth : ∀ b, b ≠ T → (s.heap.update T (Obj.mapFields (·.setIfInBounds 3 (fr.elim Value.none fun f => rawInt f)))).get? b = s.heap.get? b := fun b hb => Heap.get?_update_other _ _ (Ne.symm hb)
  unfold setFlight
  refine wpAny_bind (wpAny_field x1 x3 x4 ?_)
  rw [if_pos (show (Value.ref T != Value.none) = true by simp)]
  refine wpAny_setField x6 x7 sz (h _ ⟨fun b o hb hx q => (oth b fun z => hx (by simp [z])).trans q, fun b o hb q => ?_⟩ ⟨oe, vs, _, _, (oth e (Ne.symm x5)).trans x1, x2, x3, x4, x5, Heap.get?_update_self _ x6 (Obj.isFreed_of_fields (Obj.data_mapFields x7 _)), Obj.data_mapFields x7 _, by simp [sz]⟩)
  obtain ⟨_, o2, q2, nf⟩ := ff.mem hb
  rw [q] at q2; cases q2
  exact ⟨o.slots, (oth b fun z => nf ts (by rw [z, x6] at q; cases q; exact x7)).trans q⟩
theorem Stp.then {F Y Z : List Addr} {h h1 h2 : Heap} (x : Stp F Y h h1) (y : Stp F Z h1 h2) (hz : ∀ b o, h.get? b = some o → b ∈ Z → b ∈ Y) : Stp F Y h h2 :=
  ⟨fun b o hb hx q => y.keep b o hb (fun z => hx (hz b o q z)) (x.keep b o hb hx q), fun b o hb q => by
    obtain ⟨sl, q1⟩ := x.slot b o hb q
    obtain ⟨sl2, q2⟩ := y.slot b _ hb q1
    exact ⟨sl2, q2⟩⟩
theorem Stp.frames {Y : List Addr} {h h1 : Heap} {l : List Env} (x : Stp (frs l) Y h h1) (ff : h.FunFrames base l) : h1.FunFrames base l := by
  have : ∀ (F : List Addr) (m : List Env), (∀ b ∈ frs m, b ∈ F) → Stp F Y h h1 → h.FunFrames base m → h1.FunFrames base m := fun F m => by
    induction m with
    | nil => intro _ _ z; exact z
    | cons v m ih =>
      rintro hs x ⟨k, ⟨L, o, f1, f2, f3, f4⟩, r⟩
      obtain ⟨sl, q⟩ := x.slot L o (hs L (by unfold frs; rw [List.filterMap_cons, f1]; exact List.mem_cons_self)) f3
      exact ⟨k, ⟨L, _, f1, f2, q, f4⟩, ih (fun b hb => hs b (by unfold frs at hb ⊢; rw [List.filterMap_cons, f1]; exact List.mem_cons_of_mem _ hb)) x r⟩
  exact this _ l (fun _ z => z) x ff
/-- the exception lands in a frame: its entry, then out of flight -/
theorem land {E2 : Value → Shared → Prop} (hf : A.frames = some (env :: outer)) (ff : s.heap.FunFrames base (env :: outer)) (hL : env.frame = some L) (x : ExcT s.heap e T cls a0)
    (h : ∀ h' T', Stp (frs (env :: outer)) [e, T] s.heap h' → ExcT h' e T' cls a0 → (s.heap.get? T' = none ∨ T' = T) → Q () { s with heap := h' }) : wpAny M A (noteFrame (.ref e) env) (fun _ s2 => wpAny M A (setFlight (.ref e) none) Q E s2) E2 s := by
  refine note hf ff hL (.fly x) fun g T' st x hT => ?_
  have hT : s.heap.get? T' = none ∨ T' = T := hT.imp id fun z => by simpa using z
  exact flyTo (s := { s with heap := g }) (st.frames ff) x fun g2 st2 x2 => h g2 T' (st.then st2 fun b o q z => by
    rcases List.mem_cons.mp z with z | z
    · simp [z]
    · rw [show b = T' by simpa using z] at q ⊢
      rcases hT with hT | hT
      · rw [hT] at q; cases q
      · simp [hT]) x2 hT
theorem flight {l : List Env} (ff : s.heap.FunFrames base l) (x : ExcT s.heap e T cls a0)
    (h : ∀ h' T', Stp (frs l) [e, T] s.heap h' → ExcT h' e T' cls a0 → (s.heap.get? T' = none ∨ T' = T) → Q () { s with heap := h' }) : wpAny M A (setFlight (.ref e) none) Q E s :=
  flyTo ff x fun h' st x2 => h h' T st x2 (.inr rfl)
end
end L2

namespace L2
open PySem PySem.Spec PyProof.Rows
section
variable {P : Program} {w : World} {H H' : Hp} {h h' : Heap} {a : Addr} {o : HO} {F Y fs : List Addr}
theorem ObjOk.there (x : ObjOk P w H h a o) : ∃ ob, h.get? a = some ob := by
  cases o with
  | lst xs => obtain ⟨_, _, _, _, e⟩ := x; exact ⟨_, e⟩
  | tup xs => obtain ⟨_, _, _, ob, e, _⟩ := x; exact ⟨_, e⟩
  | dK kvs => obtain ⟨_, _, _, _, o, _, _, e, _⟩ := x; exact ⟨_, e⟩
  | dT kvs => obtain ⟨_, _, _, _, o, _, _, e, _⟩ := x; exact ⟨_, e⟩
  | set S n => obtain ⟨o, _, _, _, e, _⟩ := x; exact ⟨_, e⟩
  | ins C dx fs => obtain ⟨_, _, _, e, _⟩ := x; exact ⟨_, e⟩
  | own y => obtain ⟨_, e⟩ := x; exact ⟨_, e⟩
  | xd fs => obtain ⟨_, ⟨_, _, _, e, _⟩, _⟩ := x; exact ⟨_, e⟩
  | rng lo hi => obtain ⟨_, _, _, e⟩ := x; exact ⟨_, e⟩
  | frz ob u => obtain ⟨e, _⟩ := x; exact ⟨_, e⟩
  | tbl ps => exact ⟨_, (show h.get? a = some _ from x)⟩
  | met f y => exact ⟨_, (show h.get? a = some _ from x)⟩
  | ext φ => obtain ⟨_, ⟨_, e⟩, _⟩ := x; exact ⟨_, e⟩
theorem HOk.none_of (x : HOk P w H h) (e : h.get? a = none) : H a = none := by
  cases q : H a with
  | none => rfl
  | some u =>
    obtain ⟨ob, z⟩ := (x a u q).there
    rw [e] at z; cases z
theorem HOk.stp (x : HOk P w H h) (st : Stp F Y h h') (hF : ∀ b ∈ F, H b = none) (hY : ∀ b ∈ Y, H b = none) : HOk P w H h' := fun a o e =>
  (x a o e).stay (fun b u hb q => by
    have hn : H b ≠ none := by
      rcases hb with rfl | hb
      · rw [e]; simp
      · rw [hb]; simp
    exact st.keep b u (fun z => hn (hF b z)) (fun z => hn (hY b z)) q) (fun _ q => q) fun _ _ q => q
theorem Un.stp {H0 : Hp} {h0 : Heap} (u : Un fs [] H0 H h0 h) (st : Stp F Y h h') (h1 : ∀ b o, h0.get? b = some o → b ∈ F → b ∈ fs) (h2 : ∀ b ∈ fs, b ∈ F) (hY : ∀ b ∈ Y, h0.get? b = none) : Un fs [] H0 H h0 h' := by
  have nY : ∀ b o, h0.get? b = some o → b ∉ Y := fun b o q z => by rw [hY b z] at q; cases q
  refine ⟨fun b o q n hb hx => st.keep b o (fun z => hb (h1 b o q z)) (nY b o q) (u.keep b o q n hb hx), fun b o q n hb hx => ?_, u.free, fun b o q hx => ?_, u.tups, u.frzs, u.tbls⟩
  · obtain ⟨sl, q1⟩ := u.slot b o q n hb hx
    obtain ⟨sl2, q2⟩ := st.slot b _ (h2 b hb) q1
    exact ⟨sl2, q2⟩
  · obtain ⟨o1, q1⟩ := u.there b o q hx
    by_cases hF : b ∈ F
    · obtain ⟨sl2, q2⟩ := st.slot b _ hF q1
      exact ⟨_, q2⟩
    · exact ⟨_, st.keep b o1 hF (nY b o q) q1⟩
end
/-- how an exception of an own class lies behind a call -/
def CX1 (P : Program) (w : World) : CXT := fun outer H s E ev s' => ∃ (e T C : Addr) (a0 : Value × Value) (H' : Hp), ev = .ref e ∧ s'.os = s.os ∧ AllBare s'.gens ∧ Un (frs outer) [] H H' s.heap s'.heap ∧ HOk P w H' s'.heap ∧
  ExcT s'.heap e T (.ref C) a0 ∧ s.heap.get? e = none ∧ s.heap.get? T = none ∧ H' e = none ∧ H' T = none ∧ ∃ m, (m = none → a0.2 = .none) ∧ E (.ref C) m H'
/-- a record that is new to a body, not its frame's, not pinned -/
structure NewAt (X : Cx) (pins : List (Addr × Obj)) (H : Hp) (b : Addr) : Prop where
  ent : X.s₀.heap.get? b = none
  unt : H b = none
  loc : b ≠ X.env.locals
  cel : ∀ x c, X.env.cells.lookup x = some c → c ≠ b
  pin : ∀ p ∈ X.pn ++ pins, p.1 ≠ b
section
variable {X : Cx} {pins : List (Addr × Obj)} {σ : St} {H : Hp} {s : Shared} {h' : Heap} {e T : Addr}
/-- what isn't there yet is new to the body -/
theorem Inv.newAt (I : Inv X pins σ H s) (hx : X.ex = []) {b : Addr} (hb : s.heap.get? b = none) : NewAt X pins H b := by
  refine ⟨?_, I.hok.none_of hb, ?_, ?_, ?_⟩
  · cases q : X.s₀.heap.get? b with
    | none => rfl
    | some o =>
      obtain ⟨o', q'⟩ := I.base.there b o q (by rw [hx]; simp)
      rw [hb] at q'; cases q'
  · rintro rfl
    obtain ⟨m, ⟨o, _, _, q, _⟩, _⟩ := I.loc
    rw [hb] at q; cases q
  · rintro x c hc rfl
    obtain ⟨v, o, q, _⟩ := I.cell x c hc
    rw [hb] at q; cases q
  · rintro p hp rfl
    obtain ⟨q, _⟩ := I.pin p hp
    rw [hb] at q; cases q
theorem Inv.excStep (I : Inv X pins σ H s) (hx : X.ex = []) (st : Stp (frs X.stack) [e, T] s.heap h') (ne : NewAt X pins H e) (nT : NewAt X pins H T) : Inv X pins σ H { s with heap := h' } := by
  have nY : ∀ b ∈ [e, T], NewAt X pins H b := fun b hb => by
    rcases List.mem_cons.mp hb with rfl | hb
    · exact ne
    · rw [show b = T by simpa using hb]; exact nT
  have hsub : ∀ b, b ≠ X.env.locals → b ∉ X.fs → b ∉ frs X.stack := fun b h1 h2 z => (List.mem_cons.mp (I.stkSub b z)).elim h1 h2
  have entY : ∀ b o, X.s₀.heap.get? b = some o → b ∉ [e, T] := fun b o q z => by rw [(nY b z).ent] at q; cases q
  have neL : ∀ b o, X.s₀.heap.get? b = some o → b ≠ X.env.locals := fun b o q => Nat.ne_of_lt (Nat.lt_of_lt_of_le (Heap.lt_size q) I.ok.above)
  have any : ∀ b o, b ∉ [e, T] → s.heap.get? b = some o → ∃ sl, h'.get? b = some { o with slots := sl } := fun b o hy q => by
    by_cases hF : b ∈ frs X.stack
    · exact st.slot b o hF q
    · exact ⟨o.slots, st.keep b o hF hy q⟩
  have cellK : ∀ x c, X.env.cells.lookup x = some c → ∀ v, s.heap.IsCell c v → h'.IsCell c v := fun x c ec v ⟨o, ho, hd⟩ => by
    obtain ⟨sl, q⟩ := any c o (fun z => (nY c z).cel x c ec rfl) ho
    exact ⟨_, q, hd⟩
  refine ⟨I.ok, I.os, I.bare, ⟨fun b o q n hb hxx => ?_, fun b o q n hb hxx => ?_, I.base.free, fun b o q hxx => ?_, I.base.tups, I.base.frzs, I.base.tbls⟩, ?_, fun x c ec => ?_, I.free, I.freeC, fun p hp => ?_, I.hok.stp st I.stkFree (fun b hb => (nY b hb).unt), I.len⟩
  · exact st.keep b o (hsub b (neL b o q) hb) (entY b o q) (I.base.keep b o q n hb hxx)
  · obtain ⟨sl, q1⟩ := I.base.slot b o q n hb hxx
    obtain ⟨sl2, q2⟩ := any b _ (entY b o q) q1
    exact ⟨sl2, q2⟩
  · obtain ⟨o1, q1⟩ := I.base.there b o q hxx
    obtain ⟨sl2, q2⟩ := any b _ (entY b o q) q1
    exact ⟨_, q2⟩
  · obtain ⟨m, ⟨oL, es, ep, hoL, r⟩, hl⟩ := I.loc
    obtain ⟨sl, q⟩ := any X.env.locals oL (fun z => (nY _ z).loc rfl) hoL
    refine ⟨m, ⟨_, es, ep, q, r⟩, fun i x v e1 e2 e3 => ?_⟩
    obtain ⟨u, ru, l⟩ := hl i x v e1 e2 e3
    refine ⟨u, ru, ?_⟩
    rcases l with l | ⟨k, c, ec, z⟩
    · exact .inl l
    · exact .inr ⟨k, c, ec, cellK x c ec _ z⟩
  · obtain ⟨v, z⟩ := I.cell x c ec
    exact ⟨v, cellK x c ec v z⟩
  · obtain ⟨q, n, nL, nf, d⟩ := I.pin p hp
    exact ⟨st.keep p.1 p.2 (hsub p.1 nL nf) (fun z => (nY _ z).pin p hp rfl) q, n, nL, nf, d⟩
end
/-! raise -/
/-- a class of the text below a built-in exception -/
structure ExcCls (K : PySem.W.Frag) (C : Addr) : Prop where
  ex : ∃ (bmB bmN : List Value) (newId B Bn nid initId inN : String), PySem.W.excIn K C bmB newId = true ∧ ExcBaseFacts Bn newId inN bmN ∧ bmB.contains (Value.type Bn) = true ∧ ExcBaseFacts B nid initId bmB
theorem ExcCls.value {K : PySem.W.Frag} {C : Addr} (h : PySem.W.excIn K C [.type "ValueError", .type "Exception", .type "BaseException", .type "object"] "ValueError.__new__" = true) : ExcCls K C :=
  ⟨_, _, _, _, _, _, _, _, h, PySem.F.excBase_ValueError, by decide, PySem.F.excBase_ValueError⟩
theorem ExcCls.obj {K : PySem.W.Frag} {C : Addr} {h : Heap} {bmB : List Value} {newId : String} (KI : K.In h) (e : PySem.W.excIn K C bmB newId = true) : ∃ bm N nm q bs hdct sn sub ab col dd k0 k1 k2 k3 k5 mN,
      h.get? C = some (excClassObj nm q C N bs bm hdct sn sub ab col dd k0 k1 k2 k3 k5 newId) ∧ h.Ns N mN ∧ mN "__init__" = none ∧ OwnTail h bmB bm := by
  unfold PySem.W.excIn at e
  split at e
  · rename_i dd cd sl lk
    split at e
    · rename_i C' bm k0 k1 k2 k3 n k5 em es
      simp only [Bool.and_eq_true, beq_iff_eq, Bool.not_eq_true'] at e
      obtain ⟨⟨⟨⟨⟨rfl, rfl⟩, hd⟩, ht⟩, hn⟩, hi⟩ := e
      obtain ⟨nm, bs, mro, ns, q, hdct, sn, sub, ab, col, hdel⟩ := cd
      dsimp only at em hd ht hn hi
      subst em hd
      have hsl : sl = #[k0, k1, k2, k3, some (Value.builtin n), k5] := by
        apply Array.toList_inj.mp
        rw [es]
      subst hsl
      exact ⟨bm, ns, nm, q, bs, hdct, sn, sub, ab, col, dd, k0, k1, k2, k3, k5, _, KI _ _ lk, Heap.Ns.of_isNs (PySem.W.isNs_of_in KI hn), PySem.W.nsMap_none_of_in KI hn hi, PySem.W.tail_of_in KI ht⟩
    · cases e
  · cases e
section
variable {P : Program} {w : World} {K : PySem.W.Frag} {mg : Str → Option Value} {base : Heap} {N : List Str} {qual : Str} {scope : Scope} {f : Addr} {cd : Value} {A : Around} {outer : List Env} {s0 : Shared} {H0 : Hp} {E : XK}
def tRaise (C : Addr) (E : XK) (t : TA) : TS := fun _ σ H => t σ H fun vs H1 => vs.length ≤ sizeLine ∧ E (.ref C) none H1
end
end L2

namespace L2
open PySem PySem.Spec PyProof.Rows
/-! ### a call that may raise; try with one except clause -/
/-- behind an exception, in the frame that sees it -/
def XP (X : Cx) (pins : List (Addr × Obj)) (σ : St) (EX : Addr → Hp → Prop) (ev : Value) (s' : Shared) : Prop :=
  ∃ (e T C : Addr) (a0 : Value × Value) (H' : Hp), ev = .ref e ∧ Inv X pins σ H' s' ∧ ExcT s'.heap e T (.ref C) a0 ∧ NewAt X pins H' e ∧ NewAt X pins H' T ∧ EX C H'
abbrev TX := St → Hp → VK → (Addr → Hp → Prop) → Prop
def PEX (X : Cx) (e : Expr) (t : TX) : Prop :=
  ∀ (pins : List (Addr × Obj)) (s : Shared) (σ : St) (H : Hp) (Q : VK) (EX : Addr → Hp → Prop), Inv X pins σ H s → t σ H Q EX → wpAny (model X.prog X.w) X.A (eval e X.env) (EP X pins σ Q) (XP X pins σ EX) s
/-- a def that may raise, bundled -/
def CalleeX (P : Program) (w : World) (K : PySem.W.Frag) (mg : Str → Option Value) (base : Heap) (k : Nat) (x : Str) (ps : List Str) (sp : Sp) : Prop :=
  ∃ f fd, FnOk P w K mg base (CX1 P w) k f fd ps sp ∧ Binds K fd ps [] ∧ PySem.W.keepIn K (.ref f) = true ∧ mg x = some (.ref f)
theorem CalleeX.mono {P : Program} {w : World} {K : PySem.W.Frag} {mg : Str → Option Value} {base : Heap} {j k : Nat} {x : Str} {ps : List Str} {sp : Sp} (C : CalleeX P w K mg base j x ps sp) (h : j ≤ k) : CalleeX P w K mg base k x ps sp := by
  obtain ⟨f, fd, F, r⟩ := C
  exact ⟨f, fd, F.mono h, r⟩
section
variable {X : Cx} {pins : List (Addr × Obj)} {σ : St} {H : Hp} {s s' : Shared}
/-- an exception of a callee comes back -/
theorem Inv.afterX {E : XK} {EX : Addr → Hp → Prop} {ev : Value} (I : Inv X pins σ H s) (hx : X.ex = []) (hE : ∀ C m H', E (.ref C) m H' → EX C H') (h : CX1 X.prog X.w X.stack H s E ev s') : XP X pins σ EX ev s' := by
  obtain ⟨e, T, C, a0, H', rfl, os, bare, un, hok, x, ne, nT, he, hT, m, _, q⟩ := h
  have I' : Inv X pins σ H' s' := I.call' (ch := []) os un hok bare fun b z => absurd z (by simp)
  have a := I.newAt hx ne
  have b := I.newAt hx nT
  exact ⟨e, T, C, a0, H', rfl, I', x, ⟨a.ent, he, a.loc, a.cel, a.pin⟩, ⟨b.ent, hT, b.loc, b.cel, b.pin⟩, hE _ _ _ q⟩
end
section
variable {X : Cx} {k : Nat} {x : Str} {ps : List Str} {sp : Sp} {e : Expr} {es : List Expr} {t : TA} {p pos : Pos}
def tFnX (sp : Sp) (t : TA) : TX := fun σ H Q EX => t σ H fun vs H1 => sp vs H1 Q fun cv _ H2 => ∃ C, cv = .ref C ∧ EX C H2
theorem pex_fn (C : CalleeX X.prog X.w X.K X.mg X.base k x ps sp) (hr : Room k X.A) (hx : X.ex = []) (hg : Gl X x) (ha : PA X.nox (e :: es) t) (hdb : (x == ("__debug__" : Str)) = false := by decide)
    (he : starEach (e :: es) X.env = (false, eval e X.env) :: starEach es X.env := by rfl) (hpl : (backTo pos (starEach es X.env)).any (·.1) = false := by rfl) : PEX X (.Call (.Name x p) (e :: es) [] pos) (tFnX sp t) := by
  obtain ⟨f, fd, F, b, kk, m⟩ := C
  intro pins s σ H Q EX I h
  refine wpAny_Call_Name_kw (ld_glob I hg m ?_ hdb)
  refine PySem.W.callWith_K (h₀ := X.base) I.ok.mod.kin kk (wpAny_mono (ha pos pins s σ H _ (I.wish _) h) (fun us s1 ⟨vs, H1, I1, r, q⟩ => ⟨I1.kIn, ?_⟩) fun _ _ z => False.elim z) he hpl
  have J : Inv X pins σ H1 s1 := I1.unwish
  have hl : us.length = ps.length := by rw [← r.length]; exact F.len _ _ _ _ q
  have bt : BindsTo s1 fd ⟨us, []⟩ (ps.zip us) := by
    have z := b s1 us J.kIn (by rw [List.append_nil]; exact hl)
    rw [List.append_nil] at z
    exact z
  refine wpAny_call (codeAny_mono (F.run X.A X.stack s1 H1 ⟨us, []⟩ us vs Q _ hr J.env0 bt r q) fun r s' hq => ?_)
  cases r with
  | error ev => exact J.afterX (E := fun cv _ H2 => ∃ C, cv = .ref C ∧ EX C H2) hx (fun C m H' z => by obtain ⟨C', e1, z⟩ := z; cases e1; exact z) hq
  | ok fl =>
    cases fl with
    | ret u => exact J.after hq
    | next => exact False.elim hq
    | brk => exact False.elim hq
    | cont => exact False.elim hq
abbrev TSX := Ends → St → Hp → (Addr → Hp → Prop) → Prop
/-- a statement that may raise, at the state it was begun with -/
def PSX (X : Cx) (st : Stmt) (t : TSX) : Prop :=
  ∀ (pins : List (Addr × Obj)) (s : Shared) (σ : St) (H : Hp) (D : Ends) (EX : Addr → Hp → Prop), Inv X pins σ H s → t D σ H EX → wpAny (model X.prog X.w) X.A (exec st X.env) (SP X pins D) (XP X pins σ EX) s
def tSetX (i : Nat) (te : TX) : TSX := fun D σ H EX => te σ H (fun v H1 => D.nx (σ.set i (some v)) H1) EX
def tDropX (te : TX) : TSX := fun D σ H EX => te σ H (fun _ H1 => D.nx σ H1) EX
theorem psx_expr {e : Expr} {te : TX} (he : PEX X e te) (hs : swapsWith e none pos.line X.env = pure false := by rfl) : PSX X (.Expr e pos) (tDropX te) := by
  intro pins s σ H D EX I h
  exact wpAny_Expr_any (thn (he pins s σ H _ EX I h) fun v s1 ⟨x, H1, I1, r1, q1⟩ => ⟨σ, H1, I1, q1⟩) I.quiet hs
end
/-! the except suite -/
/-- its context: the exception is handled, its record is pinned -/
def sfx (X : Cx) (e : Addr) (oe : Obj) : Cx := { X with A := X.A.mark (some (.ref e)), calm := false, pn := (e, oe) :: X.pn, xe := fun _ _ => False }
section
variable {X : Cx} {pins : List (Addr × Obj)} {σ : St} {H : Hp} {s s' : Shared} {e : Addr} {oe : Obj}
theorem Inv.suite (I : Inv X pins σ H s) (he : s.heap.get? e = some oe) (hn : NewAt X pins H e) (hd : ∀ v, oe.data ≠ .cell v) (hf : e ∉ X.fs) : Inv (sfx X e oe) pins σ H s := by
  refine ⟨⟨I.ok.mod, I.ok.kind, I.ok.glob, I.ok.blt, I.ok.above, I.ok.inj, I.ok.has, I.ok.cab, fun z => absurd z Bool.false_ne_true, I.ok.frames, I.ok.stk, I.ok.exf, I.ok.bs, I.ok.bsz, I.ok.noex, I.ok.exfs, I.ok.funs, I.ok.frf⟩, I.os, I.bare, I.base, I.loc, I.cell, I.free, I.freeC, fun p hp => ?_, I.hok, I.len⟩
  rcases List.mem_cons.mp (show p ∈ (e, oe) :: (X.pn ++ pins) from hp) with rfl | hp
  · exact ⟨he, hn.unt, hn.loc, hf, hd⟩
  · exact I.pin p hp
theorem Inv.unsuite (ok : X.Ok) (I : Inv (sfx X e oe) pins σ H s) : Inv X pins σ H s :=
  ⟨ok, I.os, I.bare, I.base, I.loc, I.cell, I.free, I.freeC, fun p hp => I.pin p (List.mem_cons_of_mem (e, oe) hp), I.hok, I.len⟩
theorem Inv.excObj (I : Inv (sfx X e oe) pins σ H s) : s.heap.get? e = some oe := (I.pin (e, oe) (List.mem_append_left _ List.mem_cons_self)).1
/-- the frame's map has changed at one name -/
theorem Inv.unbound {i : Nat} {x : Str} {m : Str → Option Value} {u : Option Value} {h' : Heap} (I : Inv X pins σ H s) (hi : X.N[i]? = some x) (hN : X.N.Nodup) (hm : s.heap.Ns X.env.locals m) (ns : h'.Ns X.env.locals fun y => if y = x then u else m y) (hs : Heap.SameBut X.env.locals s.heap h') :
    Inv X pins (σ.set i none) H { s with heap := h' } := by
  have cne := I.cne
  obtain ⟨oL, _, _, hoL, _⟩ := id hm
  refine ⟨I.ok, I.os, I.bare, ⟨fun b o e n hb hx => ?_, fun b o e n hb hx => ?_, I.base.free, fun b o e hx => ?_, I.base.tups, I.base.frzs, I.base.tbls⟩, ⟨_, ns, fun j y v' e1 e2 e3 => ?_⟩, fun y c e => ?_, I.free, I.freeC, fun p hp => ?_, ?_, by simpa using I.len⟩
  · exact (hs.2 b (Nat.ne_of_lt (Nat.lt_of_lt_of_le (Heap.lt_size e) I.ok.above))).trans (I.base.keep b o e n hb hx)
  · obtain ⟨sl, e1⟩ := I.base.slot b o e n hb hx
    exact ⟨sl, (hs.2 b (Nat.ne_of_lt (Nat.lt_of_lt_of_le (Heap.lt_size e) I.ok.above))).trans e1⟩
  · obtain ⟨o', e1⟩ := I.base.there b o e hx
    exact ⟨o', (hs.2 b (Nat.ne_of_lt (Nat.lt_of_lt_of_le (Heap.lt_size e) I.ok.above))).trans e1⟩
  · by_cases hj : j = i
    · subst hj
      by_cases hlt : j < σ.length
      · rw [List.getElem?_set_self hlt] at e2; cases e2
      · rw [List.getElem?_eq_none (by simpa using hlt)] at e2; cases e2
    · rw [List.getElem?_set_ne (Ne.symm hj)] at e2
      obtain ⟨m2, hm2, hl⟩ := I.loc
      obtain ⟨u', r', q⟩ := hl j y v' e1 e2 e3
      have em : m2 = m := by rw [hm2.eq_nsMap, hm.eq_nsMap]
      subst em
      refine ⟨u', r', ?_⟩
      rcases q with ⟨k, e⟩ | ⟨k, c, e, z⟩
      · refine .inl ⟨k, ?_⟩
        have : y ≠ x := fun e => hj (nodup_ix hN e1 (e ▸ hi))
        simp [this, e]
      · exact .inr ⟨k, c, e, z.sameBut hs (cne y c e)⟩
  · obtain ⟨w', z⟩ := I.cell y c e
    exact ⟨w', z.sameBut hs (cne y c e)⟩
  · obtain ⟨e, n, ne, nf, d⟩ := I.pin p hp
    exact ⟨(hs.2 p.1 ne).trans e, n, ne, nf, d⟩
  · intro b ob e
    refine (I.hok b ob e).stay (fun c w' hc q => (hs.2 c ?_).trans q) (fun _ q => q) fun _ _ q => q
    rintro rfl
    rcases hc with rfl | hc
    · rw [I.free] at e; cases e
    · rw [I.free] at hc; cases hc
end

section
variable {X : Cx} {pins : List (Addr × Obj)} {σ : St} {H : Hp} {s : Shared}
/-- behind the suite: the name is unbound -/
theorem unbind_ok {M : Model} {A : Around} {E : Value → Shared → Prop} {i : Nat} {x : Str} {pos : Pos} {Q : Unit → Shared → Prop} (I : Inv X pins σ H s) (hN : X.N.Nodup) (hi : X.N[i]? = some x) (hk : X.env.scope.names.lookup x = some .local)
    (h : ∀ s', Inv X pins (σ.set i none) H s' → Q () s') : wpAny M A (do bindName X.env x Value.none; unbindBehindTheSuite X.env x pos) Q E s := by
  refine wpAny_bind (wpAny_bindName (store_ok I hN hi (.inl hk) (v := .non) (u := Value.none) rfl (fun s1 I1 => ?_) (.inr hk)))
  refine wpAny_onRaise ?_
  obtain ⟨m, hm, hl⟩ := I1.loc
  have hiσ : i < σ.length := by rw [I.len]; exact (List.getElem?_eq_some_iff.mp hi).1
  obtain ⟨u, ru, l⟩ := hl i x .non hi (by rw [List.getElem?_set_self hiσ]) (.inl hk)
  have hcls : (X.env.scope.kind == .class || (X.env.scope.kind == .module && X.env.locals != X.env.globals)) = false := by rw [I.ok.kind]; rfl
  rcases l with ⟨k, em⟩ | ⟨k, _⟩
  · refine wpAny_unbindName_local hk hm em hcls fun h' v ns sb => ?_
    have J := I1.unbound hi hN hm ns sb
    rw [List.set_set] at J
    exact h _ J
  · exfalso
    have hk' : X.env.kindOf x = some .local := hk
    rcases k with k | k
    · rw [hk'] at k; cases k
    · rw [hk'] at k; cases k
end
def tTry (i : Nat) (B : Addr) (K : PySem.W.Frag) (G : Addr → Prop) (tb : TSX) (ts : Addr → Addr → TS) : TS := fun D σ H => tb D σ H fun C H1 => PySem.W.exmOne K (.ref C) (.ref B) = some true ∧ G C ∧
  ∀ e, ts C e { nx := fun σ' H' => D.nx (σ'.set i none) H', rt := D.rt, bk := fun σ' H' => D.bk (σ'.set i none) H', ct := fun σ' H' => D.ct (σ'.set i none) H' } (σ.set i (some (.ref e))) H1
section
variable {X : Cx} {st b₀ : Stmt} {su : List Stmt} {tb : TSX} {ts : Addr → Addr → TS} {Tn n : Str} {B : Addr} {i : Nat} {np hpos pos : Pos}
theorem ps_try {G : Addr → Prop} (hb : PSX X st tb) (hx : X.ex = []) (hst : X.stack = X.env :: X.outer) (hfr : X.env.frame = some X.env.locals) (hg : Gl X Tn) (hm : X.mg Tn = some (.ref B)) (hN : X.N.Nodup) (hi : X.N[i]? = some n) (hk : X.env.scope.names.lookup n = some .local)
    (hs : ∀ (C e : Addr) (oe : Obj), G C → oe.cls = .ref C → PSs (sfx X e oe) (b₀ :: su) (ts C e)) (hdb : (Tn == ("__debug__" : Str)) = false := by decide) :
    PS X (.Try [st] [.ExceptHandler (some (.Name Tn np)) (some n) (b₀ :: su) hpos] [] [] pos) (tTry i B X.K G tb ts) := by
  intro pins s σ H D I h
  refine wpAny_Try_except ?_
  refine wpAny_execs_cons (wpAny_mono (hb pins s σ H D _ I h) (fun f s1 q => ?_) fun ev s1 q => ?_)
  · cases f with
    | next => exact wpAny_execs_nil (wpAny_execs_nil q)
    | ret v => exact q
    | brk => exact q
    | cont => exact q
  obtain ⟨e, T, C, a0, H1, rfl, I1, x, ne, nT, hex, hG, q⟩ := q
  have fr1 : X.A.frames = some (X.env :: X.outer) := by rw [← hst]; exact I1.ok.frames
  have ff1 : s1.heap.FunFrames X.base (X.env :: X.outer) := by rw [← hst]; exact I1.stack
  refine land fr1 ff1 hfr x fun h2 T2 st2 x2 hT2 => ?_
  rw [← hst] at st2
  have I2 := I1.excStep hx st2 ne nT
  have nT2 : NewAt X pins H1 T2 := by
    rcases hT2 with z | z
    · exact I1.newAt hx z
    · rw [z]; exact nT
  -- the exception's record
  have notFs : ∀ {b : Addr} {o : Obj} {vs : Array Value} {hh : Heap}, hh.FunFrames X.base X.stack → hh.get? b = some o → o.data = .fields vs → b ∉ X.fs := fun {b o vs hh} ff g d z => by
    have z' : b ∈ frs X.stack := by rw [hst]; unfold frs; rw [List.filterMap_cons, hfr]; exact List.mem_cons_of_mem _ z
    obtain ⟨_, o2, g2, nf⟩ := ff.mem z'
    rw [g] at g2; cases g2
    exact nf vs d
  have I2' := I2
  obtain ⟨oe, vs, oT, ts2, y1, ⟨y2, y2'⟩, y3, y4, y5, y6, y7, y8⟩ := id x2
  have S2 : Inv (sfx X e oe) pins σ H1 { s1 with heap := h2 } := I2.suite y1 ne (fun v z => by rw [y3] at z; cases z) (notFs I2.stack y1 y3)
  refine wpAny_handleBy_cons ?_ (by intro z; cases z)
  refine codeAny_handlers_test (ld_glob (X := sfx X e oe) S2 hg hm ?_ hdb)
  refine PySem.W.exm_one (h := h2) S2.kIn (fun A' Q' E' s' k r => by
    have z := wpAny_typeOf_ref (M := model X.prog X.w) (A := A') (E := E') (Q := Q') (k _ _ y1)
    rw [y2] at z
    exact z r) hex _ _ _ _ (fun b o g => g) ?_
  rw [if_pos rfl]
  refine codeAny_handlers_suite_as ?_
  refine flight (s := { s1 with heap := h2 }) (l := X.stack) I2.stack x2 fun h3 T3 st3 x3 hT3 => ?_
  have I3 := I2.excStep hx st3 ne nT2
  obtain ⟨oe3, vs3, oT3, ts3, z1, ⟨z2, z2'⟩, z3, z4, z5, z6, z7, z8⟩ := id x3
  have S3 : Inv (sfx X e oe3) pins σ H1 { s1 with heap := h3 } := I3.suite z1 ne (fun v z => by rw [z3] at z; cases z) (notFs I3.stack z1 z3)
  refine store_ok (X := sfx X e oe3) S3 hN hi (.inl hk) (v := .ref e) (u := .ref e) rfl (fun s4 S4 => ?_) (.inr hk)
  refine wpAny_mono (hs C e oe3 hG z2 pins s4 _ H1 _ S4 (q e)) (fun fl s5 q5 => ?_) fun _ _ z => False.elim z
  cases fl with
  | next =>
    obtain ⟨σ5, H5, S5, q5⟩ := q5
    exact unbind_ok (S5.unsuite I.ok) hN hi hk fun s6 I6 => ⟨_, H5, I6, q5⟩
  | brk =>
    obtain ⟨σ5, H5, S5, q5⟩ := q5
    exact unbind_ok (S5.unsuite I.ok) hN hi hk fun s6 I6 => ⟨_, H5, I6, q5⟩
  | cont =>
    obtain ⟨σ5, H5, S5, q5⟩ := q5
    exact unbind_ok (S5.unsuite I.ok) hN hi hk fun s6 I6 => ⟨_, H5, I6, q5⟩
  | ret u =>
    obtain ⟨v, σ5, H5, S5, r5, q5⟩ := q5
    exact unbind_ok (S5.unsuite I.ok) hN hi hk fun s6 I6 => ⟨v, _, H5, I6, r5, q5⟩
end
end L2

namespace L2
open PySem PySem.Spec PyProof.Rows
/-! ### isinstance of an exception of an own class -/
/-- what a class must have: below a built-in exception, no hooks of its own -/
structure ExcLook (K : PySem.W.Frag) (C : Addr) : Prop where
  ga : PySem.W.findIn K (.ref C) "__getattribute__" = some (some (.builtin "BaseException.__getattribute__"))
  hk : PySem.W.findIn K (.ref C) "__getattr__" = some none
  cl : PySem.W.findIn K (.ref C) "__class__" = some (some (.builtin "object.__class__"))
  gt : PySem.W.specialIn K (.builtin "object.__class__") "__get__" = some (some (.builtin "getset_descriptor.__get__"))
  tk : PySem.W.takesIn K (.builtin "object.__class__") = some true
  ob : PySem.W.mroIn K C (.type "object") = some true
  be : PySem.W.mroIn K C (.type "BaseException") = some true
  me : PySem.W.kitCls K (.ref C) (.ref C) = some true
section
variable {prog : Program} {w : World} {A : Around} {E : Value → Shared → Prop} {s : Shared} {K : PySem.W.Frag} {e C : Addr} {oe : Obj}
theorem looks_type {hh : Heap} (g : hh.get? e = some oe) (c : oe.cls = .ref C) {M : Model} : PySem.W.Looks M hh (typeOf (.ref e)) (.ref C) := fun A' Q' E' s' k r => by
  have z := wpAny_typeOf_ref (M := M) (A := A') (E := E') (Q := Q') (k _ _ g)
  rw [c] at z
  exact z r
theorem exc_class_get {R : Result → Shared → Prop} {tp : Value} (KI : K.In s.heap) (g : s.heap.get? e = some oe) (c : oe.cls = .ref C) (hm : PySem.W.mroIn K C (.type "object") = some true) (h : R (.ok (.ret (.ref C))) s) :
    codeAny (model prog w) A (.call (.builtin "getset_descriptor.__get__") ⟨[.builtin "object.__class__", .ref e, tp], []⟩) R s := by
  have L0 : ∀ {M : Model}, PySem.W.Looks M s.heap (typeOf (.ref e)) (.ref C) := looks_type g c
  have L1 : ∀ {M : Model}, PySem.W.Looks M s.heap (isSubtype (.ref C) (.type "object")) true := PySem.W.looks_mroIn KI hm
  refine codeAny_call_builtin PySem.W.KF.slot_gs.plain PySem.W.KF.entry_gs (PySem.W.KF.slot_gs.check _ _ _ _ _ _ _ _ PySem.W.KF.type_class (PySem.W.KF.args_gs _ _ tp) ?_)
  show wpAny _ _ (do let __x ← Builtin.Getset_descriptor.descrGetArgs ⟨[.builtin "object.__class__", .ref e, tp], []⟩; match __x with | (d, obj, snd) => Builtin.Getset_descriptor.descrGetter d obj) _ _ s
  rw [PySem.W.dga_obj]
  refine wpAny_bind (wpAny_pure ?_)
  show wpAny _ _ (do Builtin.Getset_descriptor.descrCheckInstance (.builtin "object.__class__") (.ref e); again (Code.builtin "object.__class__" ⟨[.ref e], []⟩)) _ _ s
  have dn : Builtin.Getset_descriptor.descrNameAndClass (.builtin "object.__class__") = pure (Str.ofString "__class__", Value.type "object") := by
    show pure (Str.ofString (Builtin.Getset_descriptor.descrOwnerAndName "object.__class__").2, Value.type (Builtin.Getset_descriptor.descrOwnerAndName "object.__class__").1) = _
    rw [PySem.W.KF.owner_class]
  unfold Builtin.Getset_descriptor.descrCheckInstance
  rw [dn]
  refine wpAny_bind (wpAny_bind (wpAny_pure ?_))
  refine wpAny_bind (wpAny_bind (L0 _ _ _ _ (fun _ _ q => q) (L1 _ _ _ _ (fun _ _ q => q) ?_)))
  refine wpAny_ite_false rfl (wpAny_pure ?_)
  refine wpAny_pure ⟨Code.quiet_builtin _ (by decide +kernel), codeAny_builtin PySem.W.KF.entry_class ?_⟩
  refine wpAny_bind (wpAny_bind (L0 _ _ _ _ (fun _ _ q => q) ?_))
  refine wpAny_ite_false rfl (wpAny_pure (wpAny_pure h))
theorem exc_check {M : Model} {nameV : Value} {Q : Unit → Shared → Prop} (KI : K.In s.heap) (g : s.heap.get? e = some oe) (c : oe.cls = .ref C) (hm : PySem.W.mroIn K C (.type "BaseException") = some true) (h : Q () s) :
    wpAny M A (checkBuiltinCall "BaseException.__getattribute__" ⟨[.ref e, nameV], []⟩) Q E s := by
  have hk : builtinKind "BaseException.__getattribute__" = some .slot := by decide +kernel
  have hsp : splitId "BaseException.__getattribute__" = some ("BaseException", "__getattribute__") := by decide +kernel
  have ha := PySem.F.args_bexc_ga (.ref e) nameV
  unfold checkBuiltinCall
  rw [hk, hsp]
  refine wpAny_bind (wpAny_bind (looks_type g c _ _ _ _ (fun _ _ q => q) (PySem.W.looks_mroIn KI hm _ _ _ _ (fun _ _ q => q) ?_)))
  refine wpAny_ite_false rfl ?_
  unfold argsOk at ha
  generalize Manifest.signature? "BaseException.__getattribute__" = sg at ha ⊢
  cases sg with
  | none => exact wpAny_pure h
  | some sig => exact wpAny_of_eq ha h
theorem exc_class {Q : Option Value → Shared → Prop} (KI : K.In s.heap) (X : ExcLook K C) (g : s.heap.get? e = some oe) (c : oe.cls = .ref C) (h : Q (some (.ref C)) { s with toks := s.toks + 1 }) : wpAny (model prog w) A (getAttr? (.ref e) "__class__") Q E s := by
  have L0 : ∀ {M : Model}, PySem.W.Looks M s.heap (typeOf (.ref e)) (.ref C) := looks_type g c
  refine wpAny_bind (wpAny_mkText (wpAny_bind (wpAny_attempt (wpAny_holding (wpAny_bind (L0 _ _ _ _ (fun _ _ q => q) (wpAny_bind (PySem.W.looks_findIn KI X.ga _ _ _ _ (fun _ _ q => q) ?_))))))))
  refine wpAny_ite_false rfl ?_
  refine wpAny_bind ?_
  show wpAny _ _ (if onTheHeap (.ref C) = true then typeLookup (.ref C) "__getattr__" else pure none) _ _ _
  refine wpAny_ite_true rfl (PySem.W.looks_findIn KI X.hk _ _ _ _ (fun _ _ q => q) ?_)
  refine wpAny_bind (wpAny_attempt (wpAny_holding ?_))
  show wpAny _ _ (if (false && onTheHeap (.builtin "BaseException.__getattribute__")) = true then _ else boundAndCalled (.builtin "BaseException.__getattribute__") (.ref e) (Value.str (Str.ofString "__class__") s.toks)) _ _ _
  refine wpAny_ite_false rfl (wpAny_bind (wpAny_of_eq (PySem.F.attr_ValueError.ga.bind (.ref e)) (wpAny_call ?_)))
  refine codeAny_call_builtin PySem.F.attr_ValueError.ga.plain PySem.F.entry_bexc_ga (exc_check (s := { s with toks := s.toks + 1 }) KI g c X.be ?_)
  refine wpAny_bind (wpAny_of_eq (show slotArgs "__getattribute__" 1 ⟨[.ref e, Value.str (Str.ofString "__class__") s.toks], []⟩ = pure (Value.ref e, [Value.str (Str.ofString "__class__") s.toks]) from rfl) ?_)
  refine wpAny_bind (wpAny_of_eq (show Builtin.ObjectAttr.attrName (Value.str (Str.ofString "__class__") s.toks) = pure (Str.ofString "__class__") from rfl) ?_)
  refine wpAny_bind (L0 _ _ _ _ (fun _ _ q => q) ?_)
  refine wpAny_bind ?_
  unfold Builtin.ObjectAttr.find
  refine wpAny_bind (PySem.W.looks_findIn KI X.cl _ _ _ _ (fun _ _ q => q) ?_)
  refine wpAny_bind (PySem.W.looks_specialIn KI X.gt _ _ _ _ (fun _ _ q => q) ?_)
  refine wpAny_bind (wpAny_bind (PySem.W.looks_takesIn KI X.tk _ _ _ _ (fun _ _ q => q) (wpAny_ite_true rfl (wpAny_pure ?_))))
  refine wpAny_bind (wpAny_rule (wpAny_pure ?_))
  refine wpAny_bind (wpAny_holding (wpAny_call (exc_class_get (s := { s with toks := s.toks + 1 }) KI g c X.ob ?_)))
  exact wpAny_pure (PySem.W.handed_on rfl (wpAny_pure h))
theorem kitx_exc (X : ExcLook K C) (c : oe.cls = .ref C) : PySem.W.KitX K (.ref e) (.ref C) fun h => h.get? e = some oe where
  ty := fun M h KI g => looks_type g c
  it := fun M h KI g => (PySem.W.kit_cls KI X.me).2.1
  ne := fun h tp dd its n sl KI g => by
    refine Bool.eq_false_iff.mpr fun z => ?_
    have z' := Value.ref.inj (beq_iff_eq.mp z)
    subst z'
    have m := X.be
    unfold PySem.W.mroIn PySem.W.clsIn at m
    cases q : List.lookup C K with
    | none => rw [q] at m; cases m
    | some o =>
      have k := KI C o q
      rw [g] at k
      have k' := Option.some.inj k
      rw [q, ← k'] at m
      cases m
  ca := fun {prog w A E Q s} KI g h => exc_class KI X g c h
end
section
variable {X : Cx} {e C : Addr} {oe : Obj}
theorem vals_refs : ∀ {cs : List Addr} {us : List Value}, Vals (cs.map V.ref) us → us = cs.map Value.ref
  | [], _, .nil => rfl
  | c :: cs, _, .cons r t => by rw [vals_refs t]; exact congrArg (· :: cs.map Value.ref) r
/-- isinstance(e, ..) in the except suite -/
theorem call_isiX (c : oe.cls = .ref C) (L : ExcLook X.K C) : CallR (sfx X e oe) (.builtin "isinstance") (fun xs H Q => ∃ y b, xs = [.ref e, y] ∧ ((∃ B, y = .ref B ∧ PySem.W.kitOne X.K (.ref C) (.ref B) = some b) ∨ (∃ T, y = .ty T ∧ PySem.W.kitOne X.K (.ref C) (.type T) = some b) ∨
    (∃ (tp : Addr) (cs : List Addr), y = .ref tp ∧ H tp = some (.tup (cs.map V.ref)) ∧ PySem.W.kitAny X.K (.ref C) (cs.map Value.ref) = some b)) ∧ Q (.bl b) H) := by
  intro pins s σ H xs us Q I r h
  obtain ⟨y, b, rfl, hy, q⟩ := h
  have g := I.excObj
  have KI : X.K.In s.heap := I.kIn
  cases r with
  | cons rx r2 =>
    cases r2 with
    | cons ry r3 =>
      cases r3
      cases (show _ = Value.ref e from rx)
      have fin : ∀ tk, EP (sfx X e oe) pins σ Q (Value.bool b) { s with toks := tk } := fun tk => ⟨.bl b, H, I.tok tk, rfl, q⟩
      rcases hy with ⟨B, rfl, k⟩ | ⟨T, rfl, k⟩ | ⟨tp, cs, rfl, ht, k⟩
      · cases (show _ = Value.ref B from ry)
        exact PySem.W.kia_one (kitx_exc L c) KI g k (fun z => nomatch z) fin
      · cases (show _ = Value.type T from ry)
        exact PySem.W.kia_one (kitx_exc L c) KI g k (fun z => nomatch z) fin
      · cases (show _ = Value.ref tp from ry)
        obtain ⟨_, its, rv, ⟨cl, dd, dt, sl⟩, g2, g3, n, g4⟩ := I.hok tp _ ht
        have ei := vals_refs rv
        subst ei
        dsimp only at g3 g4
        subst g3 g4
        exact PySem.W.kia_tup (kitx_exc L c) KI g g2 k (fun z => nomatch z) fin
end
end L2

namespace L2
open PySem PySem.Spec PyProof.Rows
/-! ### f'{text!r} ..', a text times a number, find, join of more -/
section
variable {X : Cx}
inductive tFrq (c : Str) (Q : VK) (x : V) (H1 : Hp) : Prop
  | mk (z : Str) (_ : x = .str z) (_ : z.length ≤ 1000) (_ : (∀ n ∈ z.cps.toList, n < 16 ^ 8)) (_ : c.length ≤ 1000) (_ : ∀ z2 : Str, Q (.str z2) H1) : tFrq c Q x H1
def tFr (c : Str) (ta : TE) : TE := fun σ H Q => ta σ H fun x H1 => tFrq c Q x H1
theorem len_app (x y : Str) : (x ++ y).length = x.length + y.length := by
  show (Str.append x y).cps.size = x.cps.size + y.cps.size
  unfold Str.append
  simp
theorem pe_fr {a : Expr} {ta : TE} {c : Str} {k : Nat} {p1 p2 pos : Pos} (ha : PE X a ta) : PE X (.JoinedStr [.FormattedValue a 114 none p1, .Constant (.str c) k p2] pos) (tFr c ta) := by
  intro pins s σ H Q I h
  refine wpAny_JoinedStr (Joins_cons (wpAny_FormattedValue_repr (thn (ha pins s σ H _ I h) fun v s1 ⟨x, H1, I1, r1, z, ez, hz, hc, hl, q⟩ => ?_)))
  subst ez
  obtain ⟨t, rfl⟩ := r1
  have hr := StrLaws.reprText_len z hc
  have hb : ∀ n, n ≤ 20000 → n ≤ sizeLine := fun n hn => Nat.le_trans hn (by decide)
  refine pyReprObj_str (formatField_str (fun t' tk => ?_) (hb _ (by omega))) (hb _ (by omega))
  have e0 : ∀ y : Str, (Str.empty ++ y).length = y.length := fun y => by rw [len_app]; show 0 + _ = _; omega
  refine ⟨_, _, rfl, hb _ (by rw [e0]; omega), Joins_cons ?_⟩
  have J : Inv X pins σ H1 { s1 with toks := tk } := I1.tok tk
  refine thn (pe_str (X := X) (x := c) (j := k) (pos := p2) pins { s1 with toks := tk } σ H1 (fun v H' => v = .str c ∧ H' = H1) J ⟨rfl, rfl⟩) fun v s2 ⟨y, H2, I2, r2, e1, e2⟩ => ?_
  subst e1 e2
  obtain ⟨t2, rfl⟩ := r2
  refine ⟨_, _, rfl, hb _ (by rw [len_app, e0]; omega), Joins_nil ⟨hb _ (by rw [len_app, e0]; omega), ?_⟩⟩
  exact ⟨.str _, H2, I2.tok _, ⟨_, rfl⟩, q _⟩
inductive rFind  (x : V) (vs : List V) (H : Hp) (Q : VK) : Prop
  | mk (z y : Str) (_ : x = .str z) (_ : vs = [.str y]) (_ : Q (.int (Txt.find z y)) H) : rFind x vs H Q
end
end L2

namespace L2
open PySem PySem.Spec PyProof.Rows
/-! ### own classes: methods bundled, instances made, a method of a class above called by that class's name; calls of these that may raise -/
theorem pass1 {P : Program} {w : World} {X : Cx} : Passes (CX1 P w) X E0 := fun _ _ _ _ _ _ _ h => by
  obtain ⟨_, _, _, _, _, _, _, _, _, _, _, _, _, _, _, _, _, q⟩ := h
  exact False.elim q
/-- a method of the class at C, bundled -/
def MCallee (CX : CXT) (P : Program) (w : World) (K : PySem.W.Frag) (mg : Str → Option Value) (base : Heap) (k : Nat) (C : Addr) (m : Str) (ps : List Str) (sp : Sp) : Prop :=
  ∃ f fd, Meth K C m f ∧ FnOk P w K mg base CX k f fd ps sp ∧ Binds K fd ps []
/-- a class that can be made, bundled with its __init__ -/
def MkCallee (CX : CXT) (P : Program) (w : World) (K : PySem.W.Frag) (mg : Str → Option Value) (base : Heap) (k : Nat) (x : Str) (C : Addr) (ps : List Str) (sp : Sp) : Prop :=
  ∃ f fd, Mk K C f ∧ FnOk P w K mg base CX k f fd ps sp ∧ Binds K fd ps [] ∧ mg x = some (.ref C)
/-- what the text must have for B.m(..) -/
structure BaseM (K : PySem.W.Frag) (B : Addr) (m : Str) (f : Addr) : Prop where
  sp : PySem.W.specialIn K (.ref B) "__getattribute__" = some (some (.builtin "type.__getattribute__"))
  rd : PySem.W.readsIn K B (.type "type") = true
  at_ : PySem.W.findCls K (.ref B) (.type "type") m = some (.val (.ref f))
  kp : PySem.W.keepIn K (.ref f) = true
def BCallee (CX : CXT) (P : Program) (w : World) (K : PySem.W.Frag) (mg : Str → Option Value) (base : Heap) (k : Nat) (x : Str) (m : Str) (ps : List Str) (sp : Sp) : Prop :=
  ∃ f fd B, BaseM K B m f ∧ FnOk P w K mg base CX k f fd ps sp ∧ Binds K fd ps [] ∧ mg x = some (.ref B)
section
variable {CX : CXT} {P : Program} {w : World} {K : PySem.W.Frag} {mg : Str → Option Value} {base : Heap} {j k : Nat} {C : Addr} {x m : Str} {ps : List Str} {sp : Sp}
theorem MCallee.mono (c : MCallee CX P w K mg base j C m ps sp) (h : j ≤ k) : MCallee CX P w K mg base k C m ps sp := by
  obtain ⟨f, fd, M, F, b⟩ := c
  exact ⟨f, fd, M, F.mono h, b⟩
theorem MkCallee.mono (c : MkCallee CX P w K mg base j x C ps sp) (h : j ≤ k) : MkCallee CX P w K mg base k x C ps sp := by
  obtain ⟨f, fd, M, F, b⟩ := c
  exact ⟨f, fd, M, F.mono h, b⟩
theorem BCallee.mono (c : BCallee CX P w K mg base j x m ps sp) (h : j ≤ k) : BCallee CX P w K mg base k x m ps sp := by
  obtain ⟨f, fd, B, M, F, b⟩ := c
  exact ⟨f, fd, B, M, F.mono h, b⟩
end
/-- the readings -/
inductive tMtq (C : Addr) (m : Str) (sp : Sp) (t : TA) (σ : St) (Q : VK) (x : V) (H1 : Hp) : Prop
  | mk (a dx fs : _) (_ : x = .ref a) (_ : H1 a = some (.ins C dx fs)) (_ : fs.lookup m = none) (_ : t σ H1 fun vs H2 => sp (x :: vs) H2 Q E0) : tMtq C m sp t σ Q x H1
def tMt (C : Addr) (m : Str) (sp : Sp) (ta : TE) (t : TA) : TE := fun σ H Q => ta σ H fun x H1 => tMtq C m sp t σ Q x H1
def tMk (C : Addr) (sp : Sp) (t : TA) : TE := fun σ H Q => t σ H fun vs H1 => ∀ x dx, H1 x = none → H1 dx = none → dx ≠ x →
  sp (.ref x :: vs) (upd (upd H1 dx (.own x)) x (.ins C dx [])) (fun v H2 => v = .non ∧ Q (.ref x) H2) E0
def tMtX (C : Addr) (m : Str) (sp : Sp) (ta : TE) (t : TA) : TX := fun σ H Q EX => ta σ H fun x H1 => ∃ a dx fs, x = .ref a ∧ H1 a = some (.ins C dx fs) ∧ fs.lookup m = none ∧ t σ H1 fun vs H2 => sp (x :: vs) H2 Q fun cv _ H3 => ∃ C', cv = .ref C' ∧ EX C' H3
def tMkX (C : Addr) (sp : Sp) (t : TA) : TX := fun σ H Q EX => t σ H fun vs H1 => ∀ x dx, H1 x = none → H1 dx = none → dx ≠ x →
  sp (.ref x :: vs) (upd (upd H1 dx (.own x)) x (.ins C dx [])) (fun v H2 => v = .non ∧ Q (.ref x) H2) fun cv _ H3 => ∃ C', cv = .ref C' ∧ EX C' H3
section
variable {X : Cx} {CX : CXT} {k : Nat} {f C : Addr} {fd : FuncData} {ps : List Str} {sp : Sp} {x m : Str} {p np pos apos : Pos} {e o : Expr} {es : List Expr} {ta : TE} {t : TA}
theorem run0 {pins : List (Addr × Obj)} {σ : St} {H : Hp} {s : Shared} {Q : VK} {us : List Value} {vs : List V} {E : XK} (F : FnOk X.prog X.w X.K X.mg X.base CX k f fd ps sp) (hr : Room k X.A) (hb : Binds X.K fd ps []) (hx : Passes CX X E)
    (I : Inv X pins σ H s) (r : Vals vs us) (h : sp vs H Q E) : wpAny (model X.prog X.w) X.A (call (.ref f) us) (EP X pins σ Q) X.xe s :=
  run_fn (dvs := []) (ds := []) F hr hb .nil hx I r (by rw [List.append_nil]; exact h)
/-- o.m(e, ..) -/
theorem pe_mt {pl : Sem Bool} (M : MCallee CX X.prog X.w X.K X.mg X.base k C m ps sp) (hx : Passes CX X E0) (c : Cls X.K C) (hr : Room k X.A) (he : PE X o ta) (ha : PA X (e :: es) t)
    (hst : starEach (e :: es) X.env = (false, eval e X.env) :: starEach es X.env := by rfl) (hpl : (backTo pos (starEach es X.env)).any (·.1) = false := by rfl)
    (ht : eval (.Call (.Attribute o m apos) (e :: es) [] pos) X.env = (do
      let ov ← eval o X.env
      standAt apos.atName
      let (f, first) ← holding [ov] (getMethod ov m pl)
      callWith pos f first (backTo pos (starEach (e :: es) X.env)) (backToKw pos (keywordEach [] X.env))) := by rfl) :
    PE X (.Call (.Attribute o m apos) (e :: es) [] pos) (tMt C m sp ta t) := by
  obtain ⟨f, fd, hm, F, hb⟩ := M
  intro pins s σ H Q I h
  refine PySem.W.methodCall_KW (pl := pl) (thn (he pins s σ H _ I h) fun u s1 ⟨x, H1, I1, rx, a, dx, fs, ex, ea, l, q⟩ => ?_) ht
  subst ex
  obtain rfl : u = Value.ref a := rx
  refine getmeth_ok I1 ea c hm l ?_
  refine PySem.W.callWith_K (first := [.ref a]) (h₀ := X.base) I.ok.mod.kin hm.kp (thn (ha pos pins s1 σ H1 _ I1 q) fun us s2 ⟨vs, H2, I2, r, q2⟩ => ⟨I2.kIn, ?_⟩) hst hpl
  exact run0 (us := .ref a :: us) (vs := .ref a :: vs) F hr hb hx I2 (.cons rfl r) q2
/-- o.m() -/
theorem pe_mt0 {pl : Sem Bool} (M : MCallee CX X.prog X.w X.K X.mg X.base k C m ps sp) (hx : Passes CX X E0) (c : Cls X.K C) (hr : Room k X.A) (he : PE X o ta)
    (ht : eval (.Call (.Attribute o m apos) [] [] pos) X.env = (do
      let ov ← eval o X.env
      standAt apos.atName
      let (f, first) ← holding [ov] (getMethod ov m pl)
      callWith pos f first (backTo pos (starEach [] X.env)) (backToKw pos (keywordEach [] X.env))) := by rfl) :
    PE X (.Call (.Attribute o m apos) [] [] pos) (tMt C m sp ta tNil) := by
  obtain ⟨f, fd, hm, F, hb⟩ := M
  intro pins s σ H Q I h
  refine PySem.W.methodCall_KW (pl := pl) (thn (he pins s σ H _ I h) fun u s1 ⟨x, H1, I1, rx, a, dx, fs, ex, ea, l, q⟩ => ?_) ht
  subst ex
  obtain rfl : u = Value.ref a := rx
  refine getmeth_ok I1 ea c hm l ?_
  exact PySem.W.callWith_K0 (first := [.ref a]) I1.kIn hm.kp (run0 (us := [.ref a]) (vs := [.ref a]) F hr hb hx I1 (.cons rfl .nil) q)
/-- B.m(e, ..), m of the class B -/
theorem pe_base {pl : Sem Bool} (M : BCallee CX X.prog X.w X.K X.mg X.base k x m ps sp) (hx : Passes CX X E0) (hr : Room k X.A) (hg : Gl X x) (ha : PA X (e :: es) t) (hdb : (x == ("__debug__" : Str)) = false := by decide)
    (hst : starEach (e :: es) X.env = (false, eval e X.env) :: starEach es X.env := by rfl) (hpl : (backTo pos (starEach es X.env)).any (·.1) = false := by rfl)
    (ht : eval (.Call (.Attribute (.Name x np) m apos) (e :: es) [] pos) X.env = (do
      let ov ← eval (.Name x np) X.env
      standAt apos.atName
      let (f, first) ← holding [ov] (getMethod ov m pl)
      callWith pos f first (backTo pos (starEach (e :: es) X.env)) (backToKw pos (keywordEach [] X.env))) := by rfl) :
    PE X (.Call (.Attribute (.Name x np) m apos) (e :: es) [] pos) (tFn sp t) := by
  obtain ⟨f, fd, B, hB, F, hb, hm⟩ := M
  intro pins s σ H Q I h
  refine PySem.W.methodCall_KW (pl := pl) (ld_glob I hg hm ?_ hdb) ht
  refine PySem.W.method_cls I.kIn hB.sp (PySem.W.cls_value (mc := .type "type") I.kIn hB.rd hB.at_ (handed_of (v := .ref f) rfl) ?_)
  refine PySem.W.callWith_K (first := []) (h₀ := X.base) I.ok.mod.kin hB.kp (thn (ha pos pins _ σ H _ (I.tok _) h) fun us s2 ⟨vs, H2, I2, r, q2⟩ => ⟨I2.kIn, ?_⟩) hst hpl
  exact run0 (us := us) (vs := vs) F hr hb hx I2 r q2
/-- C(e, ..) -/
theorem pe_mk (M : MkCallee CX X.prog X.w X.K X.mg X.base k x C ps sp) (hx : Passes CX X E0) (hr : Room (k + 1) X.A) (hg : Gl X x) (ha : PA X (e :: es) t) (hdb : (x == ("__debug__" : Str)) = false := by decide)
    (he : starEach (e :: es) X.env = (false, eval e X.env) :: starEach es X.env := by rfl) (hpl : (backTo pos (starEach es X.env)).any (·.1) = false := by rfl) :
    PE X (.Call (.Name x p) (e :: es) [] pos) (tMk C sp t) := by
  obtain ⟨f, fd, M, F, hb, hm⟩ := M
  have h := pe_make (E := E0) (dvs := []) (ds := []) (p := p) M F hr hg hm hb .nil hx ha hdb he hpl
  intro pins s σ H Q I q
  refine h pins s σ H Q I ?_
  have q' : t σ H fun vs H1 => ∀ x dx, H1 x = none → H1 dx = none → dx ≠ x → sp (.ref x :: vs) (upd (upd H1 dx (.own x)) x (.ins C dx [])) (fun v H2 => v = .non ∧ Q (.ref x) H2) E0 := q
  show t σ H fun vs H1 => ∀ x dx, H1 x = none → H1 dx = none → dx ≠ x → sp (.ref x :: (vs ++ [])) (upd (upd H1 dx (.own x)) x (.ins C dx [])) (fun v H2 => v = .non ∧ Q (.ref x) H2) E0
  have e1 : (fun (vs : List V) (H1 : Hp) => ∀ x dx, H1 x = none → H1 dx = none → dx ≠ x → sp (.ref x :: (vs ++ [])) (upd (upd H1 dx (.own x)) x (.ins C dx [])) (fun v H2 => v = .non ∧ Q (.ref x) H2) E0) = fun vs H1 => ∀ x dx, H1 x = none → H1 dx = none → dx ≠ x → sp (.ref x :: vs) (upd (upd H1 dx (.own x)) x (.ins C dx [])) (fun v H2 => v = .non ∧ Q (.ref x) H2) E0 := by
    funext vs H1
    rw [List.append_nil]
  rw [e1]
  exact q'
end
/-! f'{value!r} ..' of a plain value -/
/-- what can be shown: none, a bool, a number of few figures, a text of small signs -/
inductive Shw : V → Prop where
  | non : Shw .non
  | bl (b : Bool) : Shw (.bl b)
  | int {i : Int} (h : i.natAbs < 10 ^ 60) : Shw (.int i)
  | str {z : Str} (h : z.length ≤ 1000) (k : ∀ n ∈ z.cps.toList, n < 16 ^ 8) : Shw (.str z)
theorem log_sm {n : Int} (h : n.natAbs < 10 ^ 60) : n.natAbs.log2 < 1920 := by
  by_cases z : n.natAbs = 0
  · rw [z]; decide
  · have := (Nat.log2_lt (k := 200) z).mpr (Nat.lt_trans h (by decide))
    omega
section
variable {X : Cx}
def tFrV (c : Str) (ta : TE) : TE := fun σ H Q => ta σ H fun x H1 => Shw x ∧ c.length ≤ 1000 ∧ ∀ z2 : Str, Q (.str z2) H1
theorem pe_frv {a : Expr} {ta : TE} {c : Str} {k : Nat} {p1 p2 pos : Pos} (ha : PE X a ta) : PE X (.JoinedStr [.FormattedValue a 114 none p1, .Constant (.str c) k p2] pos) (tFrV c ta) := by
  intro pins s σ H Q I h
  have hb : ∀ n, n ≤ 20000 → n ≤ sizeLine := fun n hn => Nat.le_trans hn (by decide)
  refine wpAny_JoinedStr (Joins_cons (wpAny_FormattedValue_repr (thn (ha pins s σ H _ I h) fun v s1 ⟨x, H1, I1, r1, sh, hl, q⟩ => ?_)))
  have e0 : ∀ y : Str, (Str.empty ++ y).length = y.length := fun y => by rw [len_app]; show 0 + _ = _; omega
  cases sh with
  | non =>
    cases (show v = Value.none from r1)
    refine pyReprObj_none (formatField_str (fun t' tk => ?_) (by decide))
    refine ⟨_, _, rfl, (by decide), Joins_cons ?_⟩
    have J : Inv X pins σ H1 { s1 with toks := tk } := I1.tok tk
    refine thn (pe_str (X := X) (x := c) (j := k) (pos := p2) pins { s1 with toks := tk } σ H1 (fun v H' => v = .str c ∧ H' = H1) J ⟨rfl, rfl⟩) fun v s2 ⟨y, H2, I2, r2, e1, e2⟩ => ?_
    subst e1 e2
    obtain ⟨t2, rfl⟩ := r2
    have e5 : (Str.empty ++ Str.ofString "None").length = 4 := by decide
    refine ⟨_, _, rfl, hb _ (by rw [len_app, e5]; omega), Joins_nil ⟨hb _ (by rw [len_app, e5]; omega), ?_⟩⟩
    exact ⟨.str _, H2, I2.tok _, ⟨_, rfl⟩, q _⟩
  | bl b =>
    cases (show v = Value.bool b from r1)
    have hy : (if b then (Str.ofString "True") else Str.ofString "False").length ≤ 5 := by cases b <;> decide
    refine pyReprObj_bool (formatField_str (fun t' tk => ?_) (hb _ (by omega)))
    refine ⟨_, _, rfl, hb _ (by rw [e0]; omega), Joins_cons ?_⟩
    have J : Inv X pins σ H1 { s1 with toks := tk } := I1.tok tk
    refine thn (pe_str (X := X) (x := c) (j := k) (pos := p2) pins { s1 with toks := tk } σ H1 (fun v H' => v = .str c ∧ H' = H1) J ⟨rfl, rfl⟩) fun v s2 ⟨y, H2, I2, r2, e1, e2⟩ => ?_
    subst e1 e2
    obtain ⟨t2, rfl⟩ := r2
    refine ⟨_, _, rfl, hb _ (by rw [len_app, e0]; omega), Joins_nil ⟨hb _ (by rw [len_app, e0]; omega), ?_⟩⟩
    exact ⟨.str _, H2, I2.tok _, ⟨_, rfl⟩, q _⟩
  | @int i hi =>
    obtain ⟨t, rfl⟩ := (show ∃ t, v = Value.int i t from r1)
    have hy : (Str.ofString (toString i)).length ≤ 61 := by
      have e : (Str.ofString (toString i)).length = (toString i).length := by
        rw [Str.ofString_eq_toList]
        show (List.map Char.toNat (toString i).toList).toArray.size = _
        rw [List.size_toArray, List.length_map]
        exact String.length_toList
      rw [e]
      exact int_text_length_le10 (by decide) hi
    refine pyReprObj_int (log_sm hi) (formatField_str (fun t' tk => ?_) (hb _ (by omega)))
    refine ⟨_, _, rfl, hb _ (by rw [e0]; omega), Joins_cons ?_⟩
    have J : Inv X pins σ H1 { s1 with toks := tk } := I1.tok tk
    refine thn (pe_str (X := X) (x := c) (j := k) (pos := p2) pins { s1 with toks := tk } σ H1 (fun v H' => v = .str c ∧ H' = H1) J ⟨rfl, rfl⟩) fun v s2 ⟨y, H2, I2, r2, e1, e2⟩ => ?_
    subst e1 e2
    obtain ⟨t2, rfl⟩ := r2
    refine ⟨_, _, rfl, hb _ (by rw [len_app, e0]; omega), Joins_nil ⟨hb _ (by rw [len_app, e0]; omega), ?_⟩⟩
    exact ⟨.str _, H2, I2.tok _, ⟨_, rfl⟩, q _⟩
  | @str z hz hc =>
    obtain ⟨t, rfl⟩ := (show ∃ t, v = Value.str z t from r1)
    have hr := StrLaws.reprText_len z hc
    refine pyReprObj_str (formatField_str (fun t' tk => ?_) (hb _ (by omega))) (hb _ (by omega))
    refine ⟨_, _, rfl, hb _ (by rw [e0]; omega), Joins_cons ?_⟩
    have J : Inv X pins σ H1 { s1 with toks := tk } := I1.tok tk
    refine thn (pe_str (X := X) (x := c) (j := k) (pos := p2) pins { s1 with toks := tk } σ H1 (fun v H' => v = .str c ∧ H' = H1) J ⟨rfl, rfl⟩) fun v s2 ⟨y, H2, I2, r2, e1, e2⟩ => ?_
    subst e1 e2
    obtain ⟨t2, rfl⟩ := r2
    refine ⟨_, _, rfl, hb _ (by rw [len_app, e0]; omega), Joins_nil ⟨hb _ (by rw [len_app, e0]; omega), ?_⟩⟩
    exact ⟨.str _, H2, I2.tok _, ⟨_, rfl⟩, q _⟩
end
/-! == of two tuples -/
inductive rEqT (K : PySem.W.Frag) (neg : Bool) (x : V) (y : V) (H : Hp) (Q : VK) : Prop
  | mk (a b xs ys : _) (_ : x = .ref a) (_ : y = .ref b) (_ : SqT K H a xs) (_ : SqT K H b ys) (f : Nat → Bool) (_ : (∀ j x y, xs[j]? = some x → ys[j]? = some y → EqI K H x y (f j))) (_ : Q (.bl (if neg then !((List.range (min xs.length ys.length)).all f && xs.length == ys.length) else (List.range (min xs.length ys.length)).all f && xs.length == ys.length)) H) : rEqT K neg x y H Q
section
variable {X : Cx}
theorem op_neT {k : Nat} (hr : Room k X.A) : OpR X (compareOp .NotEq) (rEqT X.K true) := by
  intro pins s σ H x y v u Q I rx ry h
  obtain ⟨a, b, xs, ys, rfl, rfl, ha, hb, f, hf, q⟩ := h
  cases (show v = Value.ref a from rx)
  cases (show u = Value.ref b from ry)
  obtain ⟨its, r, p, _⟩ := I.tuple ha
  obtain ⟨its', r', p', _⟩ := I.tuple hb
  have l1 := r.length
  have l2 := r'.length
  have hu := hr.units
  refine SeqAt.RcNeAt.tuples (e := f) (show s.heap.IsTuple a its.toArray from p) (show s.heap.IsTuple b its'.toArray from p') (by omega) (eqs_at I (by show X.A.units + 1 + 1 < cLine; omega) r r' hf) X.prog X.w X.xe _ ⟨.bl _, H, I, rfl, ?_⟩
  simp only [List.size_toArray]
  rw [← l1, ← l2]
  exact q
end
end L2

namespace L2
open PySem
set_option maxRecDepth 100000
/-! ### == and != of lists and tuples that hold lists and tuples, down to a depth -/
inductive DEq (K : PySem.W.Frag) (H : Hp) : Nat → V → V → Bool → Prop where
  | flat {n : Nat} {x y : V} (fx : flatV x = true) (fy : flatV y = true) : DEq K H n x y (eqV x y)
  | same {n : Nat} (a : Addr) : DEq K H n (.ref a) (.ref a) true
  | lst {n : Nat} {a b : Addr} {xs ys : List V} {f : Nat → Bool} (ne : a ≠ b) (ha : SqL K H a xs) (hb : SqL K H b ys) (hl : xs.length = ys.length) (h : ∀ (j : Nat) (x y : V), xs[j]? = some x → ys[j]? = some y → DEq K H n x y (f j)) : DEq K H (n + 1) (.ref a) (.ref b) ((List.range xs.length).all f)
  | lst_ne {n : Nat} {a b : Addr} {xs ys : List V} (ne : a ≠ b) (ha : SqL K H a xs) (hb : SqL K H b ys) (hl : xs.length ≠ ys.length) : DEq K H (n + 1) (.ref a) (.ref b) false
  | tup {n : Nat} {a b : Addr} {xs ys : List V} {f : Nat → Bool} (ne : a ≠ b) (ha : SqT K H a xs) (hb : SqT K H b ys) (h : ∀ (j : Nat) (x y : V), xs[j]? = some x → ys[j]? = some y → DEq K H n x y (f j)) : DEq K H (n + 1) (.ref a) (.ref b) ((List.range (min xs.length ys.length)).all f && xs.length == ys.length)
section
variable {X : Cx} {pins : List (Addr × Obj)} {σ : St} {H : Hp} {s : Shared}
end
/-- == (neg: !=) of two lists -/
inductive rEqDL (K : PySem.W.Frag) (neg : Bool) (x : V) (y : V) (H : Hp) (Q : VK) : Prop
  | mk (a b xs ys : _) (_ : x = .ref a) (_ : y = .ref b) (_ : SqL K H a xs) (_ : SqL K H b ys) (_ : ((xs.length ≠ ys.length ∧ Q (.bl neg) H) ∨ (xs.length = ys.length ∧ ∃ f : Nat → Bool, (∀ (j : Nat) (x y : V), xs[j]? = some x → ys[j]? = some y → DEq K H 60 x y (f j)) ∧ Q (.bl (if neg then !(List.range xs.length).all f else (List.range xs.length).all f)) H))) : rEqDL K neg x y H Q
/-- == (neg: !=) of two tuples -/
inductive rEqDT (K : PySem.W.Frag) (neg : Bool) (x : V) (y : V) (H : Hp) (Q : VK) : Prop
  | mk (a b xs ys : _) (_ : x = .ref a) (_ : y = .ref b) (_ : SqT K H a xs) (_ : SqT K H b ys) (f : Nat → Bool) (_ : (∀ (j : Nat) (x y : V), xs[j]? = some x → ys[j]? = some y → DEq K H 60 x y (f j))) (_ : Q (.bl (if neg then !((List.range (min xs.length ys.length)).all f && xs.length == ys.length) else (List.range (min xs.length ys.length)).all f && xs.length == ys.length)) H) : rEqDT K neg x y H Q
section
variable {X : Cx}
end
end L2

namespace L2
open PySem PySem.Spec PyProof.Rows
/-! ### set(list) for keys of any kind; len(set) -/
section
variable {κ : Type} [DecidableEq κ]
/-- how many different keys stand ahead of place i -/
def cntK (ks : List κ) : Nat → Nat
  | 0 => 0
  | i + 1 => match ks[i]? with
    | some k => if k ∈ ks.take i then cntK ks i else cntK ks i + 1
    | none => cntK ks i
variable {prog : Program} {w : World} {A : Around} {E : Value → Shared → Prop} {s : Shared} {knd : KeyKind prog w κ}
/-- a set as it is made -/
abbrev newS (led : Bool) : Obj := { cls := .type "set", dict := none, data := .set #[] 0 (.fresh 0 0 led) }
/-- what is told behind set(..) -/
def Filled (knd : KeyKind prog w κ) (s : Shared) (ks : List κ) (h' : Heap) : Prop :=
  h'.SetOf knd s.heap.objs.size (fun k => decide (k ∈ ks)) (cntK ks ks.length) ∧ ∀ b o, b < s.heap.objs.size → s.heap.get? b = some o → h'.get? b = some o
end
/-! the layer's rules -/
/-- a set of texts -/
def SetO (P : Program) (w : World) (a : Addr) (zs : List Str) : HO := .ext fun h => h.SetOf (strKind P w) a (fun z => decide (z ∈ zs)) (cntK zs zs.length)
section
variable {X : Cx}
end
end L2

namespace L2
open PySem PySem.Spec PyProof.Rows
/-! ### exceptions that pass through loops and callers -/
section
variable {X : Cx} {pins : List (Addr × Obj)} {σ : St} {H : Hp} {s : Shared} {h' : Heap} {Y : List Addr}
theorem Inv.excStepY (I : Inv X pins σ H s) (st : Stp (frs X.stack) Y s.heap h') (nY : ∀ b ∈ Y, NewAt X pins H b) : Inv X pins σ H { s with heap := h' } := by
  have hsub : ∀ b, b ≠ X.env.locals → b ∉ X.fs → b ∉ frs X.stack := fun b h1 h2 z => (List.mem_cons.mp (I.stkSub b z)).elim h1 h2
  have entY : ∀ b o, X.s₀.heap.get? b = some o → b ∉ Y := fun b o q z => by rw [(nY b z).ent] at q; cases q
  have neL : ∀ b o, X.s₀.heap.get? b = some o → b ≠ X.env.locals := fun b o q => Nat.ne_of_lt (Nat.lt_of_lt_of_le (Heap.lt_size q) I.ok.above)
  have any : ∀ b o, b ∉ Y → s.heap.get? b = some o → ∃ sl, h'.get? b = some { o with slots := sl } := fun b o hy q => by
    by_cases hF : b ∈ frs X.stack
    · exact st.slot b o hF q
    · exact ⟨o.slots, st.keep b o hF hy q⟩
  have cellK : ∀ x c, X.env.cells.lookup x = some c → ∀ v, s.heap.IsCell c v → h'.IsCell c v := fun x c ec v ⟨o, ho, hd⟩ => by
    obtain ⟨sl, q⟩ := any c o (fun z => (nY c z).cel x c ec rfl) ho
    exact ⟨_, q, hd⟩
  refine ⟨I.ok, I.os, I.bare, ⟨fun b o q n hb hxx => ?_, fun b o q n hb hxx => ?_, I.base.free, fun b o q hxx => ?_, I.base.tups, I.base.frzs, I.base.tbls⟩, ?_, fun x c ec => ?_, I.free, I.freeC, fun p hp => ?_, I.hok.stp st I.stkFree (fun b hb => (nY b hb).unt), I.len⟩
  · exact st.keep b o (hsub b (neL b o q) hb) (entY b o q) (I.base.keep b o q n hb hxx)
  · obtain ⟨sl, q1⟩ := I.base.slot b o q n hb hxx
    obtain ⟨sl2, q2⟩ := any b _ (entY b o q) q1
    exact ⟨sl2, q2⟩
  · obtain ⟨o1, q1⟩ := I.base.there b o q hxx
    obtain ⟨sl2, q2⟩ := any b _ (entY b o q) q1
    exact ⟨_, q2⟩
  · obtain ⟨m, ⟨oL, es, ep, hoL, r⟩, hl⟩ := I.loc
    obtain ⟨sl, q⟩ := any X.env.locals oL (fun z => (nY _ z).loc rfl) hoL
    refine ⟨m, ⟨_, es, ep, q, r⟩, fun i x v e1 e2 e3 => ?_⟩
    obtain ⟨u, ru, l⟩ := hl i x v e1 e2 e3
    refine ⟨u, ru, ?_⟩
    rcases l with l | ⟨k, c, ec, z⟩
    · exact .inl l
    · exact .inr ⟨k, c, ec, cellK x c ec _ z⟩
  · obtain ⟨v, z⟩ := I.cell x c ec
    exact ⟨v, cellK x c ec v z⟩
  · obtain ⟨q, n, nL, nf, d⟩ := I.pin p hp
    exact ⟨st.keep p.1 p.2 (hsub p.1 nL nf) (fun z => (nY _ z).pin p hp rfl) q, n, nL, nf, d⟩
end
/-- what is wanted of an exception in a def's body: it lies as ExcS tells, the state is that of the body -/
def XEof (X : Cx) (L : Addr) (E : XK) : Value → Shared → Prop := fun ev s' => ∃ (e C : Addr) (a0 : Value × Value) (Ts : List Addr) (pins : List (Addr × Obj)) (σ : St) (H' : Hp), ev = .ref e ∧ Inv X pins σ H' s' ∧ ExcS s'.heap L e (.ref C) a0 Ts ∧ (∀ b ∈ e :: Ts, NewAt X pins H' b) ∧ ∃ m, (m = none → a0.2 = .none) ∧ E (.ref C) m H'
section
variable {P : Program} {w : World} {K : PySem.W.Frag} {mg : Str → Option Value} {base : Heap} {N : List Str} {qual : Str} {scope : Scope} {f : Addr} {cd : Value} {A : Around} {outer : List Env} {s0 : Shared} {H0 : Hp} {E : XK}
/-- the context of a body that may raise -/
abbrev cxE (P : Program) (w : World) (K : PySem.W.Frag) (mg : Str → Option Value) (base : Heap) (N : List Str) (qual : Str) (scope : Scope) (f : Addr) (cd : Value) (A : Around) (outer : List Env) (s0 : Shared) (H0 : Hp) (E : XK) : Cx :=
  (cxOf (CX1 P w) P w K mg base N qual scope f cd A outer s0 H0 E).wish (XEof (cxOf (CX1 P w) P w K mg base N qual scope f cd A outer s0 H0 E) s0.heap.objs.size E)
/-- an exception leaves the body -/
theorem XE_leaves {ev : Value} {s : Shared} (h : XEof (cxOf (CX1 P w) P w K mg base N qual scope f cd A outer s0 H0 E) s0.heap.objs.size E ev s) : (cxOf (CX1 P w) P w K mg base N qual scope f cd A outer s0 H0 E).xe ev s := by
  obtain ⟨e, C, a0, Ts, pins, σ, H, rfl, I, x, ny, q⟩ := h
  have fr1 : (cxOf (CX1 P w) P w K mg base N qual scope f cd A outer s0 H0 E).A.frames = some (envOfC qual scope s0.heap.objs.size f cd :: outer) := I.ok.frames
  have hL : (envOfC qual scope s0.heap.objs.size f cd).frame = some s0.heap.objs.size := rfl
  show wpAny (model P w) _ (leaving (envOfC qual scope s0.heap.objs.size f cd) (.ref e)) _ _ s
  unfold leaving
  refine wpAny_bind (note fr1 I.stack hL x fun h2 T st x2 hT => ?_)
  have I2 := I.excStepY st ny
  have nT : NewAt (cxOf (CX1 P w) P w K mg base N qual scope f cd A outer s0 H0 E) pins H T := by
    rcases hT with z | z
    · exact I.newAt rfl z
    · exact ny T (List.mem_cons_of_mem e z)
  have ne := ny e List.mem_cons_self
  have n2 : ∀ b ∈ [e, T], NewAt (cxOf (CX1 P w) P w K mg base N qual scope f cd A outer s0 H0 E) pins H b := fun b hb => by
    rcases List.mem_cons.mp hb with z | z
    · rw [z]; exact ne
    · rw [show b = T by simpa using z]; exact nT
  refine flyTo (s := { s with heap := h2 }) (l := envOfC qual scope s0.heap.objs.size f cd :: outer) I2.stack x2 fun h3 st3 x3 => ?_
  refine ⟨e, T, C, a0, H, rfl, I2.os, I2.bare, I2.base.stp st3 (fun b o q hb => ?_) (fun b hb => ?_) (fun b hb => (n2 b hb).ent), I2.hok.stp st3 I2.stkFree (fun b hb => (n2 b hb).unt), x3, ne.ent, nT.ent, ne.unt, nT.unt, q⟩
  · rcases List.mem_cons.mp (I2.stkSub b hb) with z | z
    · exact absurd (Nat.lt_of_lt_of_le (Heap.lt_size q) I2.ok.above) (by rw [z]; exact Nat.lt_irrefl _)
    · exact z
  · show b ∈ frs (envOfC qual scope s0.heap.objs.size f cd :: outer)
    unfold frs
    rw [List.filterMap_cons]
    exact List.mem_cons_of_mem _ hb
theorem PSs.leaves {st : List Stmt} {t : TS} (h : PSs (cxE P w K mg base N qual scope f cd A outer s0 H0 E) st t) : PSs (cxOf (CX1 P w) P w K mg base N qual scope f cd A outer s0 H0 E) st t := fun pins s σ H D I hw =>
  wpAny_mono (h pins s σ H D (I.wish _) hw) (fun _ _ q => q.unwish) fun _ _ z => XE_leaves z
/-- THE RULE for a def that may raise, in loops too -/
theorem Fun.okE {x : Str} {st : Stmt} {fd : FuncData} {ps : List Str} {k : Nat} {sp : Sp} (F : Fun K x qual st f fd) (S : FnScope N ps (defScope st)) (len : ∀ vs H Q E, sp vs H Q E → vs.length = ps.length)
    (hbody : ∀ (cdv : Value) (A : Around) (outer : List Env) (s : Shared) (H : Hp) (vs : List V) (Q : VK) (E : XK), Room k (A.deeper (envOfC qual (defScope st) s.heap.objs.size f cdv)) → sp vs H Q E →
      ∃ t, PSs (cxE P w K mg base N qual (defScope st) f cdv A outer s H E) (defBody st) t ∧ t { nx := fun _ H' => Q .non H', rt := Q } (start N vs) H) : FnOk P w K mg base (CX1 P w) (k + 1) f fd ps sp := by
  obtain ⟨oc, od, kV, doc, pm, an, cdv, ct, osl, rfl, lk, hcd⟩ := F.ex
  refine fn_of lk hcd S len fun A outer s H vs Q E hr hsp => ?_
  obtain ⟨t, h, q⟩ := hbody cdv A outer s H vs Q E hr hsp
  exact ⟨t, h.leaves, q⟩
/-- raise C(..) -/
theorem ps_raiseE {x : Str} {C : Addr} {np cpos pos : Pos} {e₀ : Expr} {es : List Expr} {t : TA} (X : ExcCls K C) (hd : A.handled = none) (hg : Gl (cxE P w K mg base N qual scope f cd A outer s0 H0 E) x) (hm : mg x = some (.ref C))
    (ha : PA (cxE P w K mg base N qual scope f cd A outer s0 H0 E) (e₀ :: es) t) (hdb : (x == ("__debug__" : Str)) = false := by decide)
    (he : starEach (e₀ :: es) (envOfC qual scope s0.heap.objs.size f cd) = (false, eval e₀ (envOfC qual scope s0.heap.objs.size f cd)) :: starEach es (envOfC qual scope s0.heap.objs.size f cd) := by rfl)
    (hpl : (backTo cpos (starEach es (envOfC qual scope s0.heap.objs.size f cd))).any (·.1) = false := by rfl) :
    PS (cxE P w K mg base N qual scope f cd A outer s0 H0 E) (.Raise (some (.Call (.Name x np) (e₀ :: es) [] cpos)) none pos) (tRaise C E t) := by
  intro pins s σ H D I h
  obtain ⟨bmB, bmN, newId, B, Bn, nid, initId, inN, hx, F1, F2, F3⟩ := X.ex
  obtain ⟨bm, N', nm, q, bs, hdct, sn, sub, ab, col, dd, k0, k1, k2, k3, k5, mN, o1, o2, o3, o4⟩ := ExcCls.obj I.ok.mod.kin hx
  refine wpAny_Raise_call_subU (C := C) (nm := nm) (q := q) (N := N') (bs := bs) (bm := bm) (hdct := hdct) (sn := sn) (sub := sub) (ab := ab) (col := col) (dd := dd) (k0 := k0) (k1 := k1) (k2 := k2) (k3 := k3) (k5 := k5) F1 F2 F3 (OwnTail.hasType o4 F3.hasBase) hd (by
    show (backTo cpos (starEach (e₀ :: es) (envOfC qual scope s0.heap.objs.size f cd))).any (·.1) = false
    rw [he]
    show (false || (backTo cpos (starEach es (envOfC qual scope s0.heap.objs.size f cd))).any (·.1)) = false
    rw [hpl]; rfl) (mN := mN) o3 (ld_glob I hg hm ⟨rfl, ?_⟩ hdb)
  show wpAny _ _ (evalArgs (.ref C) true (backTo cpos (starEach (e₀ :: es) (envOfC qual scope s0.heap.objs.size f cd))) []) _ _ s
  rw [he]
  refine Calls.evalArgs_plain ?_
  have z : wpAny (model P w) (cxE P w K mg base N qual scope f cd A outer s0 H0 E).A (spliced (backTo cpos (starEach (e₀ :: es) (envOfC qual scope s0.heap.objs.size f cd)))) _ _ s := ha cpos pins s σ H _ I h
  rw [he] at z
  refine thn z fun us s2 ⟨vs, H2, I2, r, hl, q2⟩ => ⟨rfl, by rw [← r.length]; exact hl, ?_⟩
  refine ⟨I2.bk C _ o1, ?_, o4.keeps I2.bk, fun h' e m => ?_⟩
  · obtain ⟨o, es', ep, g1, g2⟩ := o2
    exact ⟨o, es', ep, I2.bk _ _ g1, g2⟩
  · have J := I2.unwish
    obtain ⟨t', he', _, _⟩ := m.there
    refine ⟨e, C, (.ref t', .none), [], pins, σ, H2, rfl, J.kept (t' := s2.toks) m.keeps, .fresh he' rfl rfl rfl rfl rfl, fun b hb => ?_, none, fun _ => rfl, q2⟩
    rw [show b = e by simpa using hb]
    exact J.newAt rfl m.new
/-- what a callee raises passes on -/
theorem passE : Passes (CX1 P w) (cxE P w K mg base N qual scope f cd A outer s0 H0 E) E := fun pins σ H s ev s' I h => by
  obtain ⟨e, T, C, a0, H', rfl, os, bare, un, hok, x, ne, nT, he, hT, q⟩ := h
  have J := (I.unwish).call' (ch := []) os un hok bare fun b z => absurd z (by simp)
  have a := (I.unwish).newAt rfl ne
  have c := (I.unwish).newAt rfl nT
  refine ⟨e, C, a0, [T], pins, σ, H', rfl, J, .fly x, fun b hb => ?_, q⟩
  rcases List.mem_cons.mp hb with z | z
  · rw [z]; exact ⟨a.ent, he, a.loc, a.cel, a.pin⟩
  · rw [show b = T by simpa using z]; exact ⟨c.ent, hT, c.loc, c.cel, c.pin⟩
end
end L2

namespace L2
open PySem PySem.Spec PyProof.Rows
/-! ### list.index, len of a set of texts, calls whose exceptions pass on -/
section
variable {X : Cx}
inductive rIndex (K : PySem.W.Frag) (x : V) (vs : List V) (H : Hp) (Q : VK) : Prop
  | mk (p : Addr) (xs : List V) (y z : V) (j : Nat) (_ : x = .ref p) (_ : vs = [y]) (_ : SqL K H p xs) (_ : flatV y = true) (_ : xs.all flatV = true) (_ : xs[j]? = some z) (_ : eqV z y = true) (_ : (∀ (m : Nat) (u : V), m < j → xs[m]? = some u → eqV u y = false)) (_ : Q (.int j) H) : rIndex K x vs H Q
end
/-- calls, with what is wanted of their exceptions -/
def tFnE (sp : Sp) (E : XK) (t : TA) : TE := fun σ H Q => t σ H fun vs H1 => sp vs H1 Q E
inductive tMtEq (C : Addr) (m : Str) (sp : Sp) (E : XK) (t : TA) (σ : St) (Q : VK) (x : V) (H1 : Hp) : Prop
  | mk (a dx fs : _) (_ : x = .ref a) (_ : H1 a = some (.ins C dx fs)) (_ : fs.lookup m = none) (_ : t σ H1 fun vs H2 => sp (x :: vs) H2 Q E) : tMtEq C m sp E t σ Q x H1
def tMtE (C : Addr) (m : Str) (sp : Sp) (E : XK) (ta : TE) (t : TA) : TE := fun σ H Q => ta σ H fun x H1 => tMtEq C m sp E t σ Q x H1
def tMkE (C : Addr) (sp : Sp) (E : XK) (t : TA) : TE := fun σ H Q => t σ H fun vs H1 => ∀ x dx, H1 x = none → H1 dx = none → dx ≠ x →
  sp (.ref x :: vs) (upd (upd H1 dx (.own x)) x (.ins C dx [])) (fun v H2 => v = .non ∧ Q (.ref x) H2) E
section
variable {X : Cx} {k : Nat} {f C : Addr} {fd : FuncData} {ps : List Str} {sp : Sp} {x m : Str} {p np pos apos : Pos} {e o : Expr} {es : List Expr} {ta : TE} {t : TA} {E : XK}
theorem pe_fnE (M : CalleeX X.prog X.w X.K X.mg X.base k x ps sp) (hx : Passes (CX1 X.prog X.w) X E) (hr : Room k X.A) (hg : Gl X x) (ha : PA X (e :: es) t) (hdb : (x == ("__debug__" : Str)) = false := by decide)
    (he : starEach (e :: es) X.env = (false, eval e X.env) :: starEach es X.env := by rfl) (hpl : (backTo pos (starEach es X.env)).any (·.1) = false := by rfl) : PE X (.Call (.Name x p) (e :: es) [] pos) (tFnE sp E t) := by
  obtain ⟨f, fd, F, b, kk, hm⟩ := M
  intro pins s σ H Q I h
  refine wpAny_Call_Name_kw (ld_glob I hg hm ?_ hdb)
  refine PySem.W.callWith_K (h₀ := X.base) I.ok.mod.kin kk (thn (ha pos pins s σ H _ I h) fun us s1 ⟨vs, H1, I1, r, q⟩ => ⟨I1.kIn, run0 F hr b hx I1 r q⟩) he hpl
theorem pe_mtE {CX : CXT} {pl : Sem Bool} (M : MCallee CX X.prog X.w X.K X.mg X.base k C m ps sp) (hx : Passes CX X E) (c : Cls X.K C) (hr : Room k X.A) (he : PE X o ta) (ha : PA X (e :: es) t)
    (hst : starEach (e :: es) X.env = (false, eval e X.env) :: starEach es X.env := by rfl) (hpl : (backTo pos (starEach es X.env)).any (·.1) = false := by rfl)
    (ht : eval (.Call (.Attribute o m apos) (e :: es) [] pos) X.env = (do
      let ov ← eval o X.env
      standAt apos.atName
      let (f, first) ← holding [ov] (getMethod ov m pl)
      callWith pos f first (backTo pos (starEach (e :: es) X.env)) (backToKw pos (keywordEach [] X.env))) := by rfl) :
    PE X (.Call (.Attribute o m apos) (e :: es) [] pos) (tMtE C m sp E ta t) := by
  obtain ⟨f, fd, hm, F, hb⟩ := M
  intro pins s σ H Q I h
  refine PySem.W.methodCall_KW (pl := pl) (thn (he pins s σ H _ I h) fun u s1 ⟨x, H1, I1, rx, a, dx, fs, ex, ea, l, q⟩ => ?_) ht
  subst ex
  obtain rfl : u = Value.ref a := rx
  exact getmeth_ok I1 ea c hm l (PySem.W.callWith_K (first := [.ref a]) (h₀ := X.base) I.ok.mod.kin hm.kp (thn (ha pos pins s1 σ H1 _ I1 q) fun us s2 ⟨vs, H2, I2, r, q2⟩ => ⟨I2.kIn, run0 (us := .ref a :: us) (vs := .ref a :: vs) F hr hb hx I2 (.cons rfl r) q2⟩) hst hpl)
end
end L2

namespace L2
open PySem PySem.Spec PyProof.Rows
/-! ### raise .. from None while an exception is handled -/
section
variable {prog : Program} {w : World} {A : Around} {E : Value → Shared → Prop} {env : Env}
theorem entry_unchain : entryFor table "proto.unchain" = some Builtin.«proto.unchain» := entryFor_of_fast (by kernel_rfl)
/-- the handled exception has no context: nothing is cut -/
theorem unchain_none {s : Shared} {e v : Value} {a : Addr} {o : Obj} {vs : Array Value} {Q : Value → Shared → Prop} (ho : s.heap.get? a = some o) (hd : o.data = .fields vs) (h2 : vs[2]? = some .none) (h : Q .none s) :
    wpAny (model prog w) A (runValue (.builtin "proto.unchain" ⟨[e, .ref a, v, .bool false], []⟩)) Q E s := by
  refine wpAny_runValue (codeAny_builtin entry_unchain ?_)
  unfold Builtin.«proto.unchain»
  refine wpAny_bind (wpAny_field ho hd h2 ?_)
  rw [if_pos (by decide)]
  exact wpAny_pure h
theorem raiseNew_under {α : Type} {s : Shared} {e a : Addr} {oe o : Obj} {ve vs : Array Value} {Q : α → Shared → Prop} (hh : A.handled = some (.ref a)) (ne : a ≠ e) (ho : s.heap.get? a = some o) (hd : o.data = .fields vs) (h2 : vs[2]? = some .none)
    (he : s.heap.get? e = some oe) (hde : oe.data = .fields ve) (hsz : 2 < ve.size) (h : E (.ref e) { s with heap := s.heap.update e (Obj.mapFields (·.setIfInBounds 2 (.ref a))) }) : wpAny (model prog w) A (raiseNew (.ref e) : Sem α) Q E s := by
  unfold raiseNew
  refine wpAny_bind (wpAny_handled ?_)
  rw [hh]
  dsimp only
  rw [if_pos (by simpa using ne)]
  refine wpAny_bind (wpAny_holding (unchain_none ho hd h2 ?_))
  refine wpAny_bind ?_
  show wpAny _ _ (setField (.ref e) 2 (.ref a)) _ _ _
  exact wpAny_setField he hde hsz (wpAny_throw h)
section
variable {nm q : Str} {C N : Addr} {bs bm : List Value} {hdct : Bool} {sn : List Str} {sub : List Value} {ab : Bool} {col : Option Bool} {dd : Option Addr} {k0 k1 k2 k3 k5 : Option Value} {newId : String}
theorem raise_from {s : Shared} {x c : Sem Value} {a : Addr} {Q : Flow → Shared → Prop} (hbase : bm.contains (.type "BaseException") = true) (hh : A.handled = some (.ref a)) (hc : ∀ {M : Model} {A : Around} {E : Value → Shared → Prop} {Q : Value → Shared → Prop} {s : Shared}, Q .none s → wpAny M A c Q E s)
    (h : wpAny (model prog w) A x (fun v s1 => ∃ e t o vs, v = .ref e ∧ s1.heap.get? C = some (excClassObj nm q C N bs bm hdct sn sub ab col dd k0 k1 k2 k3 k5 newId) ∧
      s1.heap.get? e = some { cls := .ref C, data := .fields #[.ref t, .none, .none, .none, .bool false, .none] } ∧ a ≠ e ∧ s1.heap.get? a = some o ∧ o.data = .fields vs ∧ vs[2]? = some .none ∧
      ∀ h', (∀ b, b ≠ e → h'.get? b = s1.heap.get? b) → h'.get? e = some { cls := .ref C, data := .fields #[.ref t, .none, .ref a, .none, .bool true, .none] } → E (.ref e) { s1 with heap := h' }) E s) :
    wpAny (model prog w) A (raiseStmt env (some x) (some c)) Q E s := by
  have hcB : (Value.ref C :: bm).contains (.type "BaseException") = true := by rw [List.contains_cons, hbase, Bool.or_true]
  unfold raiseStmt
  refine wpAny_bind (wpAny_mono h (fun v s1 h1 => ?_) fun _ _ x => x)
  obtain ⟨e, t, o, vs, rfl, hC, he, ne, ho, hd, h2, hE⟩ := h1
  refine wpAny_bind (wpAny_holding (hc (wpAny_bind (wpAny_pure ?_))))
  obtain ⟨hp, g, d, tk, os⟩ := s1
  dsimp only at hC he ho hE
  repeat (first | with_reducible refine wpAny_loadPart_at he ?_ | with_reducible refine wpAny_loadPart_at hC ?_ | (with_reducible refine wpAny_isSubtype_exc hC ?_; rw [hcB]) | wp_step)
  have nC : C ≠ e := by
    rintro rfl
    rw [hC] at he
    cases he
  have oth : ∀ b, b ≠ e → ((hp.update e (Obj.mapFields fun x => x.setIfInBounds 3 Value.none)).update e (Obj.mapFields fun x => x.setIfInBounds 4 (Value.bool true))).get? b = hp.get? b := fun b hb => (Heap.get?_update_other _ _ (Ne.symm hb)).trans (Heap.get?_update_other _ _ (Ne.symm hb))
  have own : ((hp.update e (Obj.mapFields fun x => x.setIfInBounds 3 Value.none)).update e (Obj.mapFields fun x => x.setIfInBounds 4 (Value.bool true))).get? e = some { cls := .ref C, data := .fields #[.ref t, .none, .none, .none, .bool true, .none] } :=
    Heap.get?_update_self _ (Heap.get?_update_self _ he rfl) rfl
  generalize ((hp.update e (Obj.mapFields fun x => x.setIfInBounds 3 Value.none)).update e (Obj.mapFields fun x => x.setIfInBounds 4 (Value.bool true))) = G at oth own ⊢
  refine wpAny_loadPart_at ((oth C nC).trans hC) ?_
  refine wpAny_pure ?_
  refine wpAny_ite_true rfl (wpAny_pure (wpAny_bind ?_))
  unfold setFlight
  refine wpAny_bind (wpAny_field (i := 1) own rfl rfl ?_)
  refine wpAny_ite_false rfl (wpAny_pure ?_)
  refine raiseNew_under hh ne ((oth a ne).trans ho) hd h2 own rfl (by show 2 < 6; decide) ?_
  exact hE _ (fun b hb => (Heap.get?_update_other _ _ (Ne.symm hb)).trans (oth b hb)) (Heap.get?_update_self _ own rfl)
end
section
variable {nm q : Str} {C N : Addr} {bs bm bmB : List Value} {hdct : Bool} {sn : List Str} {sub : List Value} {ab : Bool} {col : Option Bool} {dd : Option Addr} {k0 k1 k2 k3 k5 : Option Value} {B Bn newId nid initId inN : String} {bmN : List Value}
theorem exec_raise_from {s : Shared} (F1 : ExcBaseFacts Bn newId inN bmN) (F2 : bmB.contains (.type Bn) = true) (F3 : ExcBaseFacts B nid initId bmB) {mN : Str → Option Value} {x : Str} {np cpos npos pos : Pos} {kd : Nat} {a : Addr} {args : List Expr} {Q : Flow → Shared → Prop}
    (hbase : bm.contains (.type "BaseException") = true) (hh : A.handled = some (.ref a)) (hpl : (backTo cpos (starEach args env)).any (·.1) = false) (hni : mN "__init__" = none)
    (h : wpAny (model prog w) A (eval (.Name x np) env) (fun f s1 => f = .ref C ∧ wpAny (model prog w) A (evalArgs (.ref C) true (backTo cpos (starEach args env)) [])
      (fun us s2 => us.kw = [] ∧ us.pos.length ≤ sizeLine ∧ (s2.heap.get? C = some (excClassObj nm q C N bs bm hdct sn sub ab col dd k0 k1 k2 k3 k5 newId) ∧ s2.heap.Ns N mN ∧ OwnTail s2.heap bmB bm) ∧ ∃ o vs, s2.heap.get? a = some o ∧ o.data = .fields vs ∧ vs[2]? = some .none ∧
        ∀ g e t, Heap.MadeExcOf s2.heap g e (.ref C) us.pos → g.get? e = some { cls := .ref C, data := .fields #[.ref t, .none, .none, .none, .bool false, .none] } → ∀ h', (∀ b, b ≠ e → h'.get? b = g.get? b) → h'.get? e = some { cls := .ref C, data := .fields #[.ref t, .none, .ref a, .none, .bool true, .none] } → E (.ref e) { s2 with heap := h' }) E s1) E s) :
    wpAny (model prog w) A (exec (.Raise (some (.Call (.Name x np) args [] cpos)) (some (.Constant .none kd npos)) pos) env) Q E s := by
  rw [arm_exec_Raise]
  refine wpAny_bind (wpAny_standAt ?_)
  refine raise_from (C := C) (nm := nm) (q := q) (N := N) (bs := bs) (bm := bm) (hdct := hdct) (sn := sn) (sub := sub) (ab := ab) (col := col) (dd := dd) (k0 := k0) (k1 := k1) (k2 := k2) (k3 := k3) (k5 := k5) (newId := newId) hbase hh (fun z => wpAny_bind (Constant_none (wpAny_bind (wpAny_standAt (wpAny_pure z))))) ?_
  refine wpAny_bind (wpAny_mono (wpAny_Call_ofName (wpAny_mono h (fun f s1 h1 => ?_) fun _ _ z => z)) (fun v s3 h3 => wpAny_bind (wpAny_standAt (wpAny_pure h3))) fun _ _ z => z)
  obtain ⟨rfl, h1⟩ := h1
  unfold callWith
  refine wpAny_bind (wpAny_holding (wpAny_mono h1 (fun us s2 h2 => wpAny_bind (wpAny_standAt ?_)) fun _ _ z => z))
  obtain ⟨up, uk⟩ := us
  obtain ⟨hk, hl, ⟨hC, hn, T⟩, o, vs, ho, hd, h2, hE⟩ := h2
  obtain rfl : uk = [] := hk
  obtain ⟨hp, g, d, tk, os⟩ := s2
  simp only [hpl]
  refine wpAny_bind (wpAny_keeperOf_exc hC ?_)
  refine wpAny_bind (wpAny_call_exc_subU (hrest := hl) F1 F2 F3 T hC hn hni fun h' e hm => wpAny_bind (wpAny_holding (wpAny_point (wpAny_pure ?_))))
  obtain ⟨t, ht, _, _⟩ := hm.there
  refine ⟨e, t, o, vs, rfl, hm.keeps _ _ hC, ht, fun z => ?_, hm.keeps _ _ ho, hd, h2, fun h2 x1 x2 => hE h' e t hm ht h2 x1 x2⟩
  have := hm.new
  rw [← z] at this
  exact absurd (show hp.get? a = none from this) (by rw [show hp.get? a = some o from ho]; exact nofun)
end
end
end L2
namespace L2
open PySem PySem.Spec PyProof.Rows
/-- as passes_XE, noted while an exception is handled -/
theorem passes_XE2 {X : Cx} {L : Addr} {E : XK} {A' : Around} (hA : A'.frames = X.A.frames) (hst : X.stack = X.env :: X.outer) (hfr : X.env.frame = some L) (hx : X.ex = []) : PassesOwnAt (model X.prog X.w) A' X.A X.env (XEof X L E) := by
  rintro ev s1 ⟨e, C, a0, Ts, pins, σ, H, rfl, I, x, ny, q⟩
  have fr1 : A'.frames = some (X.env :: X.outer) := by rw [hA, ← hst]; exact I.ok.frames
  have ff1 : s1.heap.FunFrames X.base (X.env :: X.outer) := by rw [← hst]; exact I.stack
  refine note fr1 ff1 hfr x fun h2 T st x2 hT => ?_
  rw [← hst] at st
  have I2 := I.excStepY st ny
  have nT : NewAt X pins H T := by
    rcases hT with z | z
    · exact I.newAt hx z
    · exact ny T (List.mem_cons_of_mem e z)
  have n2 : ∀ b ∈ [e, T], NewAt X pins H b := fun b hb => by
    rcases List.mem_cons.mp hb with z | z
    · rw [z]; exact ny e List.mem_cons_self
    · rw [show b = T by simpa using z]; exact nT
  show wpAny (model X.prog X.w) X.A (do
    if (← field (.ref e) 1) == .none then unsupported "frame.own-activation:exception-without-traceback"
    setFlight (.ref e) X.env.frame) _ _ { s1 with heap := h2 }
  obtain ⟨oe, vs, oT, ts, y1, y2, y3, y4, y5, y6, y7, y8⟩ := id x2
  refine wpAny_bind (wpAny_field (s := { s1 with heap := h2 }) y1 y3 y4 ?_)
  rw [if_neg (show ¬ (Value.ref T == Value.none) = true by simp)]
  show wpAny (model X.prog X.w) X.A (setFlight (.ref e) X.env.frame) _ _ _
  rw [hfr]
  refine flyTo (s := { s1 with heap := h2 }) (l := X.stack) I2.stack x2 fun h3 st3 x3 => ?_
  exact ⟨e, C, a0, [T], pins, σ, H, rfl, I2.excStepY st3 n2, .held x3, n2, q⟩
/-- what is wanted of an exception that comes out of the try's body -/
def EF (K : PySem.W.Frag) (b1 b2 C : Addr) (E : XK) (ta : TA) (σ : St) : XK := fun cv m H2 => m = none ∧ ∃ C0, cv = .ref C0 ∧ PySem.W.exmAny K (.ref C0) [.ref b1, .ref b2] = some true ∧ ∀ tp, H2 tp = none → ta σ (upd H2 tp (.tup [.ref b1, .ref b2])) fun us H3 => us.length ≤ sizeLine ∧ ∀ m, E (.ref C) m H3
/-- try: return x(..) ; except (n1, n2): raise cn(..) from None -/
def tTryF (sp : Sp) (t : TA) (K : PySem.W.Frag) (b1 b2 C : Addr) (E : XK) (ta : TA) : TS := fun D σ H => t σ H fun vs H1 => sp vs H1 D.rt (EF K b1 b2 C E ta σ)
theorem Inv.afterF {X : Cx} {pins : List (Addr × Obj)} {σ : St} {H : Hp} {s s' : Shared} {E : XK} {ev : Value} (I : Inv X pins σ H s) (hx : X.ex = []) (h : CX1 X.prog X.w X.stack H s E ev s') :
    ∃ (e T C : Addr) (a : Value × Value) (H' : Hp), ev = .ref e ∧ Inv X pins σ H' s' ∧ ExcT s'.heap e T (.ref C) a ∧ NewAt X pins H' e ∧ NewAt X pins H' T ∧ ∃ m, (m = none → a.2 = .none) ∧ E (.ref C) m H' := by
  obtain ⟨e, T, C, a, H', rfl, os, bare, un, hok, x, ne, nT, he, hT, q⟩ := h
  have u := I.newAt hx ne
  have v := I.newAt hx nT
  exact ⟨e, T, C, a, H', rfl, I.call' (ch := []) os un hok bare fun b z => absurd z (by simp), x, ⟨u.ent, he, u.loc, u.cel, u.pin⟩, ⟨v.ent, hT, v.loc, v.cel, v.pin⟩, q⟩
section
variable {Y : Cx} {E : XK} {k : Nat} {x n1 n2 cn : Str} {ps : List Str} {sp : Sp} {e a₀ : Expr} {es as : List Expr} {t ta : TA} {b1 b2 C : Addr} {p pos rpos np1 np2 tpos np cpos npos qpos hpos pos2 : Pos} {x1 kd : Nat}
theorem ps_tryF (Cal : CalleeX Y.prog Y.w Y.K Y.mg Y.base k x ps sp) (hr : Room k Y.A) (hx : Y.ex = []) (hst : Y.stack = Y.env :: Y.outer) (hfr : Y.env.frame = some Y.env.locals) (hg : Gl Y x) (ha : PA Y.nox (e :: es) t)
    (g1 : Gl Y n1) (m1 : Y.mg n1 = some (.ref b1)) (g2 : Gl Y n2) (m2 : Y.mg n2 = some (.ref b2)) (XC : ExcCls Y.K C) (gC : Gl Y cn) (mC : Y.mg cn = some (.ref C)) (hA : ∀ e oe, PA (sfx (Y.wish (XEof Y Y.env.locals E)) e oe) (a₀ :: as) ta)
    (hdb : (x == ("__debug__" : Str)) = false := by decide) (hd1 : (n1 == ("__debug__" : Str)) = false := by decide) (hd2 : (n2 == ("__debug__" : Str)) = false := by decide) (hdc : (cn == ("__debug__" : Str)) = false := by decide)
    (he : starEach (e :: es) Y.env = (false, eval e Y.env) :: starEach es Y.env := by rfl) (hpl : (backTo pos (starEach es Y.env)).any (·.1) = false := by rfl)
    (he2 : starEach (a₀ :: as) Y.env = (false, eval a₀ Y.env) :: starEach as Y.env := by rfl) (hpl2 : (backTo cpos (starEach as Y.env)).any (·.1) = false := by rfl) :
    PS (Y.wish (XEof Y Y.env.locals E)) (.Try [.Return (some (.Call (.Name x p) (e :: es) [] pos)) rpos] [.ExceptHandler (some (.Tuple [.Name n1 np1, .Name n2 np2] x1 tpos)) none [.Raise (some (.Call (.Name cn np) (a₀ :: as) [] cpos)) (some (.Constant .none kd npos)) qpos] hpos] [] [] pos2) (tTryF sp t Y.K b1 b2 C E ta) := by
  intro pins s σ H D I h
  have I0 : Inv Y pins σ H s := I.unwish
  refine wpAny_Try_except ?_
  have key : wpAny (model Y.prog Y.w) Y.A (exec (.Return (some (.Call (.Name x p) (e :: es) [] pos)) rpos) Y.env) (SP Y pins D) (fun ev s1 => ∃ (e T C0 : Addr) (a : Value × Value) (H2 : Hp), ev = .ref e ∧ Inv Y pins σ H2 s1 ∧ ExcT s1.heap e T (.ref C0) a ∧ a.2 = .none ∧ NewAt Y pins H2 e ∧ NewAt Y pins H2 T ∧ PySem.W.exmAny Y.K (.ref C0) [.ref b1, .ref b2] = some true ∧
      ∀ tp, H2 tp = none → ta σ (upd H2 tp (.tup [.ref b1, .ref b2])) fun us H3 => us.length ≤ sizeLine ∧ ∀ m, E (.ref C) m H3) s := by
    obtain ⟨f, fd, F, b, kk, m⟩ := Cal
    refine wpAny_Return_some (wpAny_Call_Name_kw (ld_glob I0 hg m ?_ hdb))
    refine PySem.W.callWith_K (h₀ := Y.base) I0.ok.mod.kin kk (wpAny_mono (ha pos pins s σ H _ (I0.wish _) h) (fun us s1 ⟨vs, H1, I1, r, q⟩ => ⟨I1.kIn, ?_⟩) fun _ _ z => False.elim z) he hpl
    have J : Inv Y pins σ H1 s1 := I1.unwish
    have hl : us.length = ps.length := by rw [← r.length]; exact F.len _ _ _ _ q
    have bt : BindsTo s1 fd ⟨us, []⟩ (ps.zip us) := by
      have z := b s1 us J.kIn (by rw [List.append_nil]; exact hl)
      rw [List.append_nil] at z
      exact z
    refine wpAny_call (codeAny_mono (F.run Y.A Y.stack s1 H1 ⟨us, []⟩ us vs _ _ hr J.env0 bt r q) fun r s' hq => ?_)
    cases r with
    | error ev =>
      obtain ⟨e, T, C0, a, H', rfl, J', x, ne, nT, m, hm, rfl, C0', ec, q1, q2⟩ := J.afterF (E := EF Y.K b1 b2 C E ta σ) hx hq
      cases ec
      exact ⟨e, T, C0, a, H', rfl, J', x, hm rfl, ne, nT, q1, q2⟩
    | ok fl =>
      cases fl with
      | ret u =>
        obtain ⟨v, H', I', r', q'⟩ := J.after hq
        exact ⟨v, σ, H', I', r', q'⟩
      | next => exact False.elim hq
      | brk => exact False.elim hq
      | cont => exact False.elim hq
  refine wpAny_execs_cons (wpAny_mono key (fun f s1 q => ?_) fun ev s1 q => ?_)
  · have q := (show SP Y pins D f s1 from q)
    cases f with
    | next => obtain ⟨σ', H', I', q'⟩ := q; exact wpAny_execs_nil (wpAny_execs_nil ⟨σ', H', I'.wish _, q'⟩)
    | ret v => obtain ⟨y, σ', H', I', r, q'⟩ := q; exact ⟨y, σ', H', I'.wish _, r, q'⟩
    | brk => obtain ⟨σ', H', I', q'⟩ := q; exact ⟨σ', H', I'.wish _, q'⟩
    | cont => obtain ⟨σ', H', I', q'⟩ := q; exact ⟨σ', H', I'.wish _, q'⟩
  obtain ⟨e, T, C0, a, H1, rfl, I1, x, h2, ne, nT, hex, q⟩ := q
  have fr1 : Y.A.frames = some (Y.env :: Y.outer) := by rw [← hst]; exact I1.ok.frames
  have ff1 : s1.heap.FunFrames Y.base (Y.env :: Y.outer) := by rw [← hst]; exact I1.stack
  refine land fr1 ff1 hfr x fun hp2 T2 st2 x2 hT2 => ?_
  rw [← hst] at st2
  have I2 := I1.excStep hx st2 ne nT
  have nT2 : NewAt Y pins H1 T2 := by
    rcases hT2 with z | z
    · exact I1.newAt hx z
    · rw [z]; exact nT
  have notFs : ∀ {b : Addr} {o : Obj} {vs : Array Value} {hh : Heap}, hh.FunFrames Y.base Y.stack → hh.get? b = some o → o.data = .fields vs → b ∉ Y.fs := fun {b o vs hh} ff g d z => by
    have z' : b ∈ frs Y.stack := by rw [hst]; unfold frs; rw [List.filterMap_cons, hfr]; exact List.mem_cons_of_mem _ z
    obtain ⟨_, o2, g2, nf⟩ := ff.mem z'
    rw [g] at g2; cases g2
    exact nf vs d
  obtain ⟨oe, vs, oT, ts2, y1, ⟨y2, y2', _⟩, y3, y4, y5, y6, y7, y8⟩ := id x2
  have S2 : Inv (sfx (Y.wish (XEof Y Y.env.locals E)) e oe) pins σ H1 { s1 with heap := hp2 } := (I2.wish _).suite y1 ⟨ne.ent, ne.unt, ne.loc, ne.cel, ne.pin⟩ (fun v z => by rw [y3] at z; cases z) (notFs I2.stack y1 y3)
  refine wpAny_handleBy_cons ?_ (by intro z; cases z)
  refine codeAny_handlers_test (wpAny_Tuple_spliced ?_)
  show wpAny _ _ (spliced ((false, eval (.Name n1 np1) Y.env) :: (false, eval (.Name n2 np2) Y.env) :: [])) _ _ _
  refine Calls.spliced_cons (ld_glob (X := sfx (Y.wish (XEof Y Y.env.locals E)) e oe) S2 g1 m1 (Calls.spliced_cons (ld_glob (X := sfx (Y.wish (XEof Y Y.env.locals E)) e oe) S2 g2 m2 (Calls.spliced_nil ?_) hd2)) hd1)
  refine ⟨by show 2 ≤ sizeLine; decide, ?_⟩
  have hf : H1 hp2.objs.size = none := S2.hok.fresh (Nat.le_refl _)
  have r3 : Vals [V.ref b1, V.ref b2] [Value.ref b1, Value.ref b2] := .cons rfl (.cons rfl .nil)
  have S4 : Inv (sfx (Y.wish (XEof Y Y.env.locals E)) e oe) pins σ (upd H1 hp2.objs.size (.tup [.ref b1, .ref b2])) { s1 with heap := hp2.push { cls := .type "tuple", data := .seq [Value.ref b1, Value.ref b2].toArray } } :=
    S2.laid (t' := s1.toks) (fun b u e => Heap.get?_push_of_some _ e) (Nat.le_refl _) ⟨by show 2 ≤ sizeLine; decide, _, r3, ⟨_, Heap.get?_push_size _ rfl, rfl, _, rfl⟩⟩
  refine PySem.W.exm_tup2 (h := hp2.push { cls := .type "tuple", data := .seq [Value.ref b1, Value.ref b2].toArray }) S4.kIn (looks_type S4.excObj y2) (Heap.get?_push_size _ rfl) hex _ _ _ _ (fun b o g => g) ?_
  rw [if_pos rfl]
  have I4 : Inv Y pins σ (upd H1 hp2.objs.size (.tup [.ref b1, .ref b2])) { s1 with heap := hp2.push { cls := .type "tuple", data := .seq [Value.ref b1, Value.ref b2].toArray } } := (S4.unsuite I.ok).unwish
  have q := q hp2.objs.size hf
  have x4 : ExcT (hp2.push { cls := .type "tuple", data := .seq [Value.ref b1, Value.ref b2].toArray }) e T2 (.ref C0) a := by
    obtain ⟨oe, vs, oT, ts2, y1, y2, y3, y4, y5, y6, y7, y8⟩ := x2
    exact ⟨oe, vs, oT, ts2, Heap.get?_push_of_some _ y1, y2, y3, y4, y5, Heap.get?_push_of_some _ y6, y7, y8⟩
  have fresh : ∀ b, NewAt Y pins H1 b → (∃ o, hp2.get? b = some o) → NewAt Y pins (upd H1 hp2.objs.size (.tup [.ref b1, .ref b2])) b := fun b z ⟨o, hb⟩ => ⟨z.ent, (upd_ne (Nat.ne_of_lt (Heap.lt_size hb))).trans z.unt, z.loc, z.cel, z.pin⟩
  have ne4 := fresh e ne ⟨_, y1⟩
  have nT4 := fresh T2 nT2 ⟨_, y6⟩
  generalize upd H1 hp2.objs.size (.tup [.ref b1, .ref b2]) = H4 at S4 I4 q ne4 nT4
  generalize hp2.push { cls := .type "tuple", data := .seq [Value.ref b1, Value.ref b2].toArray } = hp4 at S4 I4 x4 ⊢
  refine codeAny_handlers_suite ?_
  refine flight (s := { s1 with heap := hp4 }) (l := Y.stack) I4.stack x4 fun hp3 T3 st3 x3 hT3 => ?_
  have I3 := I4.excStep hx st3 ne4 nT4
  obtain ⟨oe3, vs3, oT3, ts3, z1, ⟨z2, _, zc⟩, z3, z4, z5, z6, z7, z8⟩ := id x3
  rw [h2] at zc
  have S3 : Inv (sfx (Y.wish (XEof Y Y.env.locals E)) e oe3) pins σ H4 { s1 with heap := hp3 } := (I3.wish _).suite z1 ⟨ne4.ent, ne4.unt, ne4.loc, ne4.cel, ne4.pin⟩ (fun v z => by rw [z3] at z; cases z) (notFs I3.stack z1 z3)
  refine wpAny_execs_cons ?_
  obtain ⟨bmB, bmN, newId, B, Bn, nid, initId, inN, hX, F1, F2, F3⟩ := XC.ex
  obtain ⟨bm, N', nm, q', bs, hdct, sn, sub, ab, col, dd, k0, k1, k2, k3, k5, mN, o1, o2, o3, o4⟩ := ExcCls.obj I3.ok.mod.kin hX
  refine exec_raise_from (C := C) (nm := nm) (q := q') (N := N') (bs := bs) (bm := bm) (hdct := hdct) (sn := sn) (sub := sub) (ab := ab) (col := col) (dd := dd) (k0 := k0) (k1 := k1) (k2 := k2) (k3 := k3) (k5 := k5) (a := e) F1 F2 F3 (OwnTail.hasType o4 F3.hasBase) rfl (by
    rw [he2]
    show (false || (backTo cpos (starEach as Y.env)).any (·.1)) = false
    rw [hpl2]; rfl) (mN := mN) o3 (ld_glob (X := sfx (Y.wish (XEof Y Y.env.locals E)) e oe3) S3 gC mC ⟨rfl, ?_⟩ hdc)
  show wpAny _ _ (evalArgs (.ref C) true (backTo cpos (starEach (a₀ :: as) Y.env)) []) _ _ _
  rw [he2]
  refine Calls.evalArgs_plain ?_
  have z := hA e oe3 cpos pins _ σ H4 _ S3 q
  have z : wpAny (model Y.prog Y.w) (sfx (Y.wish (XEof Y Y.env.locals E)) e oe3).A (spliced (backTo cpos (starEach (a₀ :: as) Y.env))) _ _ _ := z
  rw [he2] at z
  refine wpAny_mono z (fun us s5 ⟨vs5, H5, S5, r5, hl, q5⟩ => ?_) fun _ _ z => False.elim z
  have I5 : Inv Y pins σ H5 s5 := (S5.unsuite I.ok).unwish
  refine ⟨rfl, by rw [← r5.length]; exact hl, ⟨I5.bk C _ o1, ?_, o4.keeps I5.bk⟩, oe3, vs3, S5.excObj, z3, zc, fun g e5 t5 hm h5 h6 w1 w2 => ?_⟩
  · obtain ⟨o, es', ep, u1, u2⟩ := o2
    exact ⟨o, es', ep, I5.bk _ _ u1, u2⟩
  refine passes_XE2 (A' := Y.A.mark (some (.ref e))) rfl hst hfr hx _ _ ?_
  have n5 : NewAt Y pins H5 e5 := I5.newAt hx hm.new
  have I6 : Inv Y pins σ H5 { s5 with heap := g } := I5.kept (t' := s5.toks) hm.keeps
  have st6 : Stp (frs Y.stack) [e5] g h6 := ⟨fun b o _ hb u => (w1 b (by simpa using hb)).trans u, fun b o hb u => by
    obtain ⟨_, o2, u2, nf⟩ := I6.stack.mem hb
    have nb : b ≠ e5 := fun z => by
      rw [z, show g.get? e5 = _ from h5] at u2
      cases u2
      exact nf _ rfl
    exact ⟨o.slots, (w1 b nb).trans u⟩⟩
  exact ⟨e5, C, (.ref t5, .ref e), [], pins, σ, H5, rfl, I6.excStepY st6 (fun b hb => by rw [show b = e5 by simpa using hb]; exact n5), .fresh w2 rfl rfl rfl rfl rfl, fun b hb => by rw [show b = e5 by simpa using hb]; exact n5, some 0, nofun, q5 _⟩
end
end L2

namespace L2
open PySem PySem.Spec PyProof.Rows PySem.Builtin PySem.Builtin.Str
/-! ### text.split(mark), text.partition(mark) -/
section
variable {X : Cx}
theorem vals_of : ∀ {l : List (Str × Tok)} {zs : List Str}, l.map (·.1) = zs → Vals (zs.map V.str) (strValues l)
  | [], _, rfl => .nil
  | p :: l, _, rfl => .cons ⟨p.2, rfl⟩ (vals_of (l := l) rfl)
theorem split_few (z y : Str) (hz : z.length + 2 ≤ sizeLine) : (Txt.split z y).length ≤ sizeLine := by
  unfold Txt.split
  split
  · show 1 ≤ sizeLine; omega
  · split
    · show 1 ≤ sizeLine; omega
    · have e1 := StrLaws.occ_length_le z y 0 z.length (z.length + 1)
      rw [length_partsBetween]; omega
inductive rSplit  (x : V) (vs : List V) (H : Hp) (Q : VK) : Prop
  | mk (z y : Str) (_ : x = .str z) (_ : vs = [.str y]) (_ : (y.length == 0) = false) (_ : z.length + 2 ≤ sizeLine) (_ : ∀ l, H l = none → Q (.ref l) (upd H l (.lst ((Txt.split z y).map V.str)))) : rSplit x vs H Q
theorem mt_split : MtM X "str.split" rSplit := by
  intro pins s σ H x vs v us Q I rx rv h
  obtain ⟨z, y, rfl, rfl, hy, hz, q⟩ := h
  obtain ⟨t, rfl⟩ := rx
  obtain ⟨u0, rfl, ru⟩ := rv.one
  obtain ⟨u, rfl⟩ := ru
  have fin : ∀ (l : List (Str × Tok)) (k : Nat), l.map (·.1) = Txt.split z y → EP X pins σ Q (.ref s.heap.objs.size) { s with heap := s.heap.push { cls := .type "list", data := .seq (strValues l).toArray }, toks := k } := fun l k e =>
    ⟨.ref s.heap.objs.size, _, I.laid (a := s.heap.objs.size) (o := .lst ((Txt.split z y).map V.str)) (t' := k) (fun b o g => Heap.get?_push_of_some _ g) (Nat.le_refl _) ⟨by rw [List.length_map]; exact split_few z y hz, strValues l, 0, vals_of e, Heap.get?_push_size _ rfl⟩, rfl, q _ I.fresh⟩
  have hn : (partsBetween z (occurrences z y 0 z.length (z.length + 1)) y.length).length ≤ sizeLine := by
    have := StrLaws.occ_length_le z y 0 z.length (z.length + 1)
    rw [length_partsBetween]; omega
  cases h1 : (decide (z.length < y.length) || decide (Builtin.Str.strKind z < Builtin.Str.strKind y)) with
  | true => exact call_meets PySem.F.slot_str_split (typeIs_str _ _ _) PySem.F.entry_str_split (PySem.F.args_str_split_2 _ _) (meets_str_split_cannot_occur z y t u h1) (fin [(z, t)] s.toks (by unfold Txt.split; rw [if_pos h1]; rfl))
  | false =>
    have n1 : ¬ (decide (z.length < y.length) || decide (Builtin.Str.strKind z < Builtin.Str.strKind y)) = true := by rw [h1]; exact Bool.false_ne_true
    cases hf : (occurrences z y 0 z.length (z.length + 1)).isEmpty with
    | true => exact call_meets PySem.F.slot_str_split (typeIs_str _ _ _) PySem.F.entry_str_split (PySem.F.args_str_split_2 _ _) (meets_str_split_not_found z y t u h1 hy hf) (fin [(z, t)] s.toks (by unfold Txt.split; rw [if_neg n1, if_pos hf]; rfl))
    | false =>
      have n2 : ¬ (occurrences z y 0 z.length (z.length + 1)).isEmpty = true := by rw [hf]; exact Bool.false_ne_true
      refine call_meets PySem.F.slot_str_split (typeIs_str _ _ _) PySem.F.entry_str_split (PySem.F.args_str_split_2 _ _) (meets_str_split_sep z y t u h1 hy hf (by omega) hn) ?_
      have f := fin (numbered s.toks (partsBetween z (occurrences z y 0 z.length (z.length + 1)) y.length)) (s.toks + (partsBetween z (occurrences z y 0 z.length (z.length + 1)) y.length).length) (by rw [numbered_texts]; unfold Txt.split; rw [if_neg n1, if_neg n2])
      rw [← strsFrom_eq] at f
      exact f
inductive rPart  (x : V) (vs : List V) (H : Hp) (Q : VK) : Prop
  | mk (z y : Str) (_ : x = .str z) (_ : vs = [.str y]) (_ : (y.length == 0) = false) (_ : z.length ≤ sizeLine) (_ : ∀ p, H p = none → Q (.ref p) (upd H p (.tup [.str (Txt.partition z y).1, .str (Txt.partition z y).2.1, .str (Txt.partition z y).2.2]))) : rPart x vs H Q
theorem mt_partition : MtM X "str.partition" rPart := by
  intro pins s σ H x vs v us Q I rx rv h
  obtain ⟨z, y, rfl, rfl, hy, hz, q⟩ := h
  obtain ⟨t, rfl⟩ := rx
  obtain ⟨u0, rfl, ru⟩ := rv.one
  obtain ⟨u, rfl⟩ := ru
  have fin : ∀ (a b c : Str) (ta tb tc : Tok) (k : Nat), (∀ p, H p = none → Q (.ref p) (upd H p (.tup [.str a, .str b, .str c]))) → EP X pins σ Q (.ref s.heap.objs.size) { s with heap := s.heap.push { cls := .type "tuple", data := .seq [.str a ta, .str b tb, .str c tc].toArray }, toks := k } := fun a b c ta tb tc k q =>
    ⟨.ref s.heap.objs.size, _, I.laid (a := s.heap.objs.size) (o := .tup [.str a, .str b, .str c]) (t' := k) (fun b o g => Heap.get?_push_of_some _ g) (Nat.le_refl _) ⟨(by show 3 ≤ sizeLine; decide), [.str a ta, .str b tb, .str c tc], .cons ⟨_, rfl⟩ (.cons ⟨_, rfl⟩ (.cons ⟨_, rfl⟩ .nil)), ⟨_, Heap.get?_push_size _ rfl, rfl, _, rfl⟩⟩, rfl, q _ I.fresh⟩
  refine call_meets PySem.F.slot_str_partition (typeIs_str _ _ _) PySem.F.entry_str_partition (PySem.F.args_str_partition_2 _ _) (meets_str_partition z y t u hy hz) ?_
  unfold Txt.partition at q
  revert q
  cases occurrences z y 0 z.length 1 with
  | nil => intro q; exact fin _ _ _ _ _ _ _ q
  | cons i r => intro q; exact fin _ _ _ _ _ _ _ q
end
end L2

namespace L2
open PySem PySem.Builtin PySem.Builtin.Str PySem.StrLaws
/-! ### what split tells: no part holds the mark -/
theorem occ_keeps (s sub : Str) (hi limit : Nat) : ∀ (l : List Nat) (st : Array Nat × Nat) (c : Nat), c ∈ st.fst.toList → c ∈ (forIn l st (occBody s sub hi limit)).run.fst.toList
  | [], _, _, h => h
  | a :: l, st, c, h => by
    rw [List.forIn_cons]
    unfold occBody
    split
    · exact occ_keeps s sub hi limit l _ c (by rw [Array.toList_push]; exact List.mem_append_left _ h)
    · exact occ_keeps s sub hi limit l _ c h
theorem occ_all (s sub : Str) (hi limit : Nat) (hl : hi < limit) : ∀ (m a : Nat) (st : Array Nat × Nat), st.fst.size ≤ a → a + m ≤ hi + 1 → ∀ i, a ≤ i → i < a + m → st.snd ≤ i → At s sub hi i →
    ∃ c ∈ (forIn (List.range' a m) st (occBody s sub hi limit)).run.fst.toList, c ≤ i ∧ i < c + sub.length ∨ (c ≤ i ∧ i ≤ c)
  | 0, a, st, _, _, i, h1, h2, _, _ => absurd h2 (by omega)
  | m + 1, a, st, hs, ha, i, h1, h2, h3, h4 => by
    rw [List.range'_succ, List.forIn_cons]
    unfold occBody
    split
    · rename_i hc
      by_cases e : i = a
      · refine ⟨a, occ_keeps s sub hi limit _ _ a (by rw [Array.toList_push]; exact List.mem_append_right _ (by simp)), .inr ⟨by omega, by omega⟩⟩
      · by_cases e2 : i < a + sub.length
        · exact ⟨a, occ_keeps s sub hi limit _ _ a (by rw [Array.toList_push]; exact List.mem_append_right _ (by simp)), .inl ⟨by omega, e2⟩⟩
        · exact occ_all s sub hi limit hl m (a + 1) (st.fst.push a, a + sub.length) (by simp; omega) (by omega) i (by omega) (by omega) (by show a + sub.length ≤ i; omega) h4
    · rename_i hc
      by_cases e : i = a
      · subst e
        exact absurd ⟨⟨⟨by omega, h3⟩, h4.1⟩, h4.2⟩ hc
      · exact occ_all s sub hi limit hl m (a + 1) st (by omega) (by omega) i (by omega) (by omega) h3 h4
/-- between two cuts of a chain there is none -/
theorem chain_gap {s sub : Str} {hi : Nat} : ∀ {a : Nat} {cuts : List Nat} {f : Nat}, ChainTo s sub hi a cuts f → ∀ c ∈ cuts, a ≤ c
  | a, [], f, h, c, hc => by cases hc
  | a, d :: r, f, h, c, hc => by
    rcases List.mem_cons.mp hc with e | e
    · rw [e]; exact h.1
    · have := chain_gap h.2.2 c e
      have := h.1
      omega
theorem sub_in (x y : Str) {a c j : Nat} (hc : c ≤ x.length) (hj : a + j + y.length ≤ c) : subAt (strSub x a c) y j = subAt x y (a + j) := by
  rw [subAt_eq, subAt_eq, strSub_toList]
  congr 1
  rw [List.drop_take, List.drop_drop, List.take_take]
  congr 1
  omega
theorem len_sub (x : Str) {a c : Nat} (hc : c ≤ x.length) : (strSub x a c).length = c - a := by
  show (strSub x a c).cps.size = c - a
  rw [← Array.length_toList, strSub_toList, List.length_take, List.length_drop, Array.length_toList]
  have : x.cps.size = x.length := rfl
  omega
theorem parts_clean (x y : Str) (hy : 1 ≤ y.length) : ∀ (cuts : List Nat) (a f : Nat), ChainTo x y x.length a cuts f → (∀ i, a ≤ i → At x y x.length i → ∃ c ∈ cuts, c ≤ i ∧ (i < c + y.length ∨ i ≤ c)) → a ≤ x.length →
    ∀ p ∈ partsFrom x y.length a cuts, ∀ j, j + y.length ≤ p.length → subAt p y j = false
  | [], a, f, h, cov, ha, p, hp, j, hj => by
    have e : p = strSub x a x.length := by simpa [partsFrom] using hp
    subst e
    rw [len_sub x (Nat.le_refl _)] at hj
    rw [sub_in x y (Nat.le_refl _) (by omega)]
    cases q : subAt x y (a + j) with
    | false => rfl
    | true =>
      obtain ⟨c, hc, _⟩ := cov (a + j) (by omega) ⟨by omega, q⟩
      cases hc
  | c :: r, a, f, h, cov, ha, p, hp, j, hj => by
    have hc1 := h.1
    have hc2 := h.2.1.1
    rcases List.mem_cons.mp (show p ∈ strSub x a c :: partsFrom x y.length (c + y.length) r from hp) with e | hp
    · subst e
      rw [len_sub x (by omega)] at hj
      rw [sub_in x y (c := c) (by omega) (by omega)]
      cases q : subAt x y (a + j) with
      | false => rfl
      | true =>
        obtain ⟨d, hd, h1, _⟩ := cov (a + j) (by omega) ⟨by omega, q⟩
        rcases List.mem_cons.mp hd with e | hd
        · omega
        · have := chain_gap h.2.2 d hd
          omega
    · refine parts_clean x y hy r (c + y.length) f h.2.2 (fun i hi at_ => ?_) (by omega) p hp j hj
      obtain ⟨d, hd, h1, h2⟩ := cov i (by omega) at_
      rcases List.mem_cons.mp hd with e | hd
      · omega
      · exact ⟨d, hd, h1, h2⟩
/-- no part of what split tells holds the mark -/
theorem split_clean (x y : Str) (hy : 1 ≤ y.length) (hk : decide (Builtin.Str.strKind x < Builtin.Str.strKind y) = false) : ∀ p ∈ Txt.split x y, ∀ j, j + y.length ≤ p.length → subAt p y j = false := by
  intro p hp j hj
  have cov : ∀ i, 0 ≤ i → At x y x.length i → ∃ c ∈ occurrences x y 0 x.length (x.length + 1), c ≤ i ∧ (i < c + y.length ∨ i ≤ c) := fun i _ at_ => by
    rw [occ_eq]
    have hlt := at_.1
    obtain ⟨c, hc, h⟩ := occ_all x y x.length (x.length + 1) (Nat.lt_succ_self _) (x.length + 1 - 0) 0 (#[], 0) (Nat.le_refl _) (by omega) i (Nat.zero_le _) (by omega) (Nat.zero_le _) at_
    exact ⟨c, hc, by omega, by omega⟩
  obtain ⟨f, ch⟩ := occ_chain x y (x.length + 1)
  have main := parts_clean x y hy _ 0 f ch cov (Nat.zero_le _)
  unfold Txt.split at hp
  split at hp
  · rename_i h1
    rw [hk, Bool.or_false, decide_eq_true_eq] at h1
    have e : p = x := by simpa using hp
    rw [e] at hj
    omega
  · split at hp
    · rename_i h2
      have e : p = x := by simpa using hp
      subst e
      have en : occurrences p y 0 p.length (p.length + 1) = [] := List.isEmpty_iff.mp h2
      cases q : subAt p y j with
      | false => rfl
      | true =>
        obtain ⟨c, hc, _⟩ := cov j (Nat.zero_le _) ⟨hj, q⟩
        rw [en] at hc; cases hc
    · rw [partsBetween_eq] at hp
      exact main p hp j hj
end L2

namespace L2
open PySem PySem.Builtin PySem.Builtin.Str PySem.StrLaws
/-! ### texts joined and split -/
def tl (z : Str) : List Nat := z.cps.toList
theorem tl_app (a b : Str) : tl (a ++ b) = tl a ++ tl b := by
  unfold tl
  rw [Str.cps_append, Array.toList_append]
theorem tl_inj {a b : Str} (h : tl a = tl b) : a = b := by
  cases a with
  | mk x =>
    cases b with
    | mk y =>
      have : x = y := Array.toList_inj.mp h
      rw [this]
theorem tl_len (z : Str) : (tl z).length = z.length := by unfold tl; rw [Array.length_toList]; rfl
theorem join_is (m : Str) (zs : List Str) : Txt.join m zs = Str.join m zs := glued_eq_join m zs
theorem join_cons (m x y : Str) (r : List Str) : Str.join m (x :: y :: r) = x ++ m ++ Str.join m (y :: r) := rfl
theorem tl_join (m x y : Str) (r : List Str) : tl (Str.join m (x :: y :: r)) = tl x ++ (tl m ++ tl (Str.join m (y :: r))) := by rw [join_cons, tl_app, tl_app, List.append_assoc]
/-- ", " -/
def mk2 : Str := Str.ofString ", "
theorem tl_mk2 : tl mk2 = [44, 32] := rfl
theorem split_ne (x : Str) : Txt.split x mk2 ≠ [] := by
  unfold Txt.split
  split
  · simp
  · split
    · simp
    · intro h
      have := congrArg List.length h
      rw [length_partsBetween] at this
      simp at this
theorem kind1 (x : Str) : decide (Builtin.Str.strKind x < Builtin.Str.strKind mk2) = false := by
  have h2 : Builtin.Str.strKind mk2 = 1 := by decide +kernel
  rw [h2]
  unfold Builtin.Str.strKind
  split
  · rfl
  · split <;> rfl
theorem split_parts (x : Str) : ∀ p ∈ Txt.split x mk2, ∀ j, (tl p)[j]? = some 44 → (tl p)[j + 1]? ≠ some 32 := fun p hp j h1 h2 => by
  have hj := (List.getElem?_eq_some_iff.mp h2).1
  rw [tl_len] at hj
  have := split_clean x mk2 (by decide) (kind1 x) p hp j (by show j + 2 ≤ p.length; omega)
  rw [subAt_eq] at this
  have e : (p.cps.toList.drop j).take mk2.length = mk2.cps.toList := by
    have g1 := List.getElem?_eq_some_iff.mp h1
    have g2 := List.getElem?_eq_some_iff.mp h2
    obtain ⟨l1, e1⟩ := g1
    obtain ⟨l2, e2⟩ := g2
    show ((tl p).drop j).take 2 = [44, 32]
    rw [List.drop_eq_getElem_cons l1, List.drop_eq_getElem_cons l2, e1, e2]
    rfl
  rw [e] at this
  simp at this
/-- letters -/
def Ltr (z : Str) : Prop := ∀ c ∈ tl z, 97 ≤ c ∧ c ≤ 122
/-! ### ".." in a text -/
def dots : Str := Str.ofString ".."
theorem tl_dots : tl dots = [46, 46] := rfl
theorem dots_in {e0 e1 : Str} : (!(occurrences (e0 ++ dots ++ e1) dots 0 (e0 ++ dots ++ e1).length 1).isEmpty) = true := by
  rcases occ_head (e0 ++ dots ++ e1) dots 1 (Nat.le_refl _) with ⟨_, h⟩ | ⟨i, r, e, _⟩
  · have hl : (e0 ++ dots ++ e1).length = e0.length + 2 + e1.length := by rw [Str.length_append, Str.length_append]; rfl
    refine absurd ⟨?_, ?_⟩ (h e0.length)
    · show e0.length + 2 ≤ _
      rw [hl]; omega
    · rw [subAt_eq]
      show (((tl (e0 ++ dots ++ e1)).drop e0.length).take 2 == tl dots) = true
      rw [tl_app, tl_app, List.append_assoc, ← tl_len e0, List.drop_left, tl_dots]
      rfl
  · rw [e]; rfl
theorem dots_out {t : Str} (h : (tl t).count 46 ≤ 1) : (!(occurrences t dots 0 t.length 1).isEmpty) = false := by
  rcases occ_head t dots 1 (Nat.le_refl _) with ⟨e, _⟩ | ⟨i, r, e, hat, _⟩
  · rw [e]; rfl
  · exfalso
    have h2 := hat.2
    rw [subAt_eq] at h2
    have h3 : ((tl t).drop i).take 2 = [46, 46] := eq_of_beq h2
    have c1 : (tl t).count 46 = ((tl t).take i).count 46 + ((tl t).drop i).count 46 := by rw [← List.count_append, List.take_append_drop]
    have c2 : ((tl t).drop i).count 46 = (((tl t).drop i).take 2).count 46 + (((tl t).drop i).drop 2).count 46 := by rw [← List.count_append, List.take_append_drop]
    rw [h3] at c2
    have c3 : ([46, 46] : List Nat).count 46 = 2 := rfl
    omega
/-- a text parted at ".." -/
theorem part_is {t : Str} (h : (!(occurrences t dots 0 t.length 1).isEmpty) = true) : tl t = tl (Txt.partition t dots).1 ++ ([46, 46] ++ tl (Txt.partition t dots).2.2) := by
  rcases occ_head t dots 1 (Nat.le_refl _) with ⟨e, _⟩ | ⟨i, r, e, hat, _⟩
  · rw [e] at h; cases h
  · unfold Txt.partition
    rw [e]
    have h1 := hat.1
    have h2 := hat.2
    rw [subAt_eq] at h2
    have h3 : ((tl t).drop i).take 2 = [46, 46] := eq_of_beq h2
    have h4 : (tl t).length = t.length := tl_len t
    show tl t = tl (strSub t 0 i) ++ ([46, 46] ++ tl (strSub t (i + 2) t.length))
    have a1 : tl (strSub t 0 i) = (tl t).take i := by
      show (strSub t 0 i).cps.toList = _
      rw [strSub_toList]; rfl
    have a2 : tl (strSub t (i + 2) t.length) = (tl t).drop (i + 2) := by
      show (strSub t (i + 2) t.length).cps.toList = _
      rw [strSub_toList]
      exact List.take_of_length_le (by rw [List.length_drop]; show (tl t).length - _ ≤ _; omega)
    rw [a1, a2, ← h3]
    conv => lhs; rw [← List.take_append_drop i (tl t), ← List.take_append_drop 2 ((tl t).drop i)]
    rw [List.drop_drop]
/-- ends without a dot stand on their own -/
theorem ends_uniq {a b c d : List Nat} (h : a ++ ([46, 46] ++ b) = c ++ ([46, 46] ++ d)) (ha : 46 ∉ a) (hb : 46 ∉ b) : a = c ∧ b = d := by
  have hc : (a ++ ([46, 46] ++ b)).count 46 = (c ++ ([46, 46] ++ d)).count 46 := by rw [h]
  rw [List.count_append, List.count_append, List.count_append, List.count_append, List.count_eq_zero.mpr ha, List.count_eq_zero.mpr hb] at hc
  have c0 : 46 ∉ c := List.count_eq_zero.mp (by omega)
  have hl : a.length = c.length := by
    rcases Nat.lt_trichotomy a.length c.length with g | g | g
    · have a1 : (a ++ ([46, 46] ++ b))[a.length]? = some 46 := by simp
      rw [h, List.getElem?_append_left g] at a1
      exact absurd (List.mem_of_getElem? a1) c0
    · exact g
    · have a1 : (c ++ ([46, 46] ++ d))[c.length]? = some 46 := by simp
      rw [← h, List.getElem?_append_left g] at a1
      exact absurd (List.mem_of_getElem? a1) ha
  have e := List.append_inj h hl
  exact ⟨e.1, (List.append_inj e.2 rfl).2⟩
end L2

namespace L2
open PySem PySem.Spec PyProof.Rows
/-! ### a list comprehension whose element may raise -/
section
variable {M : Model} {A : Around} {E : Value → Shared → Prop} {env : Env} {s : Shared}
/-- what the block raises is passed on at the block's own env -/
theorem compX {e : Expr} {scope : Scope} {pos : Pos} {newAcc first : Sem Value} {g : Comprehension} {gs : List Comprehension} {cl : List (Str × Addr)} {Q : Value → Shared → Prop}
    (hcl : clausesOf e = g :: gs) (hs : ∀ x, foldedSetIterable g.iter env x = pure x) (hclos : closureFor scope env = pure cl)
    (hkind : scope.kind = .function) (hnames : ∀ x ∈ scope.names, x.2 = .local → scope.names.lookup x.1 = some .local)
    (h : wpAny M A first (fun x s1 => wpAny M A (pyIter x) (fun it s2 => wpAny M A newAcc (fun acc s3 =>
      wpAny M A (newFunctionEnv scope env.globals cl [] env.qual none .none (some env)) (fun cenv s4 =>
        codeAny M A (.compStart e 0 it acc { cenv with scope := relabel scope env }) (fun r s' => ∃ m, s'.heap.Ns cenv.locals m ∧ ∀ h', Heap.SameBut cenv.locals s'.heap h' →
          match r with | .ok _ => Q acc { s' with heap := h' } | .error x => wpAny M A (passOn "comprehension.variables-let-go" x { cenv with scope := relabel scope env } : Sem Value) (fun _ _ => False) E { s' with heap := h' }) s4) E s3) E s2) E s1) E s) :
    wpAny M A (comprehension e scope env pos newAcc false first) Q E s := by
  unfold comprehension
  rw [hclos, hcl]
  refine wpAny_bind (wpAny_mono h (fun x s1 h1 => wpAny_bind (wpAny_standAt (wpAny_bind (wpAny_of_eq (hs x) (wpAny_bind (wpAny_holding (wpAny_mono h1 (fun it s2 h2 => ?_) fun _ _ z => z))))))) fun _ _ z => z)
  refine wpAny_standIf (wpAny_bind (wpAny_mono h2 (fun acc s3 h3 => wpAny_bind (wpAny_pure (wpAny_bind (wpAny_mono h3 (fun cenv s4 h4 => ?_) fun _ _ z => z)))) fun _ _ z => z))
  dsimp only
  have hv : ∀ x ∈ (scope.names.filter fun x => (x.2 == .local || x.2 == .cell) && x.1 != (".0" : Str)).reverse, x.2 = .local → Env.kindOf { cenv with scope := relabel scope env } x.1 = some .local :=
    fun x hx hl => lookup_relabel_local (hnames x (List.mem_filter.mp (List.mem_reverse.mp hx)).1 hl)
  refine wpAny_holding (wpAny_bind (wpAny_attempt (wpAny_holding (wpAny_run (codeAny_mono h4 fun r s' hr => ?_)))))
  obtain ⟨m, hn, hr⟩ := hr
  cases r with
  | ok f => exact wpAny_bind (wpAny_holding (wpAny_comp_letGo (cenv := { cenv with scope := relabel scope env }) hkind _ s' m hv hn fun h' m' _ hs' => wpAny_pure (hr h' hs')))
  | error x => exact wpAny_bind (wpAny_holding (wpAny_comp_letGo (cenv := { cenv with scope := relabel scope env }) hkind _ s' m hv hn fun h' m' _ hs' => wpAny_mono (hr h' hs') (fun _ _ f => f.elim) fun _ _ y => y))
end
section
variable {prog : Program} {w : World} {A : Around} {R : Result → Shared → Prop} {s : Shared}
theorem comp_turnsX {elt target iter : Expr} {ifs : List Expr} {scope : Scope} {pos : Pos} {it acc : Value} {env : Env} (XX : Value → Shared → Prop) (hx : ∀ ev s', XX ev s' → notedBy (model prog w) A env (fun x s'' => R (.error x) s'') ev s') (J : Nat → Shared → Prop)
    (turn : ∀ n s, J n s → wpAny (model prog w) A (pyNext it) (fun r s1 => match r with
      | none => R (.ok .next) s1
      | some v => wpAny (model prog w) A (letOwnedTupleGo target it v) (fun _ s2 => wpAny (model prog w) A (assign target env v) (fun _ s3 =>
          wpAny (model prog w) A (forIn ifs true fun c r => if r = true then do let ok ← isTrue c env (eval c env); pure (ForInStep.yield ok) else pure (ForInStep.yield r)) (fun ok s4 =>
            if ok = true then wpAny (model prog w) A (eval elt env) (fun y s5 => wpAny (model prog w) A (call (.builtin "list.append") [acc, y]) (fun _ s6 => ∃ m, m < n ∧ J m s6) (fun _ _ => False) s5) XX s4
            else ∃ m, m < n ∧ J m s4) (fun _ _ => False) s3) (fun _ _ => False) s2) (fun _ _ => False) s1) (fun _ _ => False) s)
    (n : Nat) (h : J n s) : codeAny (model prog w) A (.compLoop (.ListComp elt [⟨target, iter, ifs, 0⟩] scope pos) 0 it acc env) R s := by
  refine codeAny_loop rfl J (fun n s hJ => ?_) n h
  show wpAny _ A ((compTurn (.ListComp elt [⟨target, iter, ifs, 0⟩] scope pos) 0 it acc env).onRaise (fun x => do noteFrame x env; theTreesLotGoes x)) _ _ s
  refine wpAny_noted ?_
  rw [compTurn_list]
  refine wpAny_bind (wpAny_standAt (wpAny_bind (wpAny_mono (turn n s hJ) (fun r s1 h1 => ?_) fun _ _ z => z.elim)))
  cases r with
  | none => exact wpAny_pure h1
  | some v =>
    refine wpAny_bind (wpAny_mono h1 (fun _ s2 h2 => ?_) fun _ _ z => z.elim)
    refine wpAny_bind (wpAny_mono h2 (fun _ s3 h3 => wpAny_bind (wpAny_mono h3 (fun ok s4 h4 => ?_) fun _ _ z => z.elim)) fun _ _ z => z.elim)
    cases ok with
    | false => exact wpAny_pure ⟨rfl, h4⟩
    | true => exact wpAny_bind (wpAny_bind (wpAny_mono h4 (fun y s5 h5 => wpAny_bind (wpAny_mono h5 (fun _ s6 h6 => wpAny_pure (wpAny_pure ⟨rfl, h6⟩)) fun _ _ z => z.elim)) fun ev s' z => hx ev s' z))
end
/-- the block's context, the iterator's objects pinned -/
def cmpCxP (X : Cx) (N : List Str) (scope : Scope) (cl : List (Str × Addr)) (fp : List Addr) (C : Addr) (s2 : Shared) (H2 : Hp) (pl : List (Addr × Obj)) : Cx := { cmpCx X N scope cl fp C s2 H2 with pn := pl }
/-- .. and exceptions pass -/
def cmpCxX (X : Cx) (N : List Str) (scope : Scope) (cl : List (Str × Addr)) (L : Addr) (E : XK) (fp : List Addr) (C : Addr) (s2 : Shared) (H2 : Hp) (pl : List (Addr × Obj)) : Cx := (cmpCxP X N scope cl fp C s2 H2 pl).wish (XEof (cmpCxP X N scope cl fp C s2 H2 pl) L E)
def XXof (X : Cx) (N : List Str) (scope : Scope) (cl : List (Str × Addr)) (L : Addr) (E : XK) (fp : List Addr) (C : Addr) (s2 : Shared) (H2 : Hp) : Value → Shared → Prop := fun ev s' => ∃ pl, (∀ b ∈ fp, ∃ o, (b, o) ∈ pl) ∧ XEof (cmpCxP X N scope cl fp C s2 H2 pl) L E ev s'
section
variable {X : Cx} {N : List Str} {scope : Scope} {cl : List (Str × Addr)} {fp : List Addr} {C : Addr} {s2 s : Shared} {H2 H : Hp} {pl : List (Addr × Obj)} {σ : St}
theorem Inv.topn (I : Inv (cmpCx X N scope cl fp C s2 H2) ([] ++ pl) σ H s) : Inv (cmpCxP X N scope cl fp C s2 H2 pl) [] σ H s :=
  ⟨⟨I.ok.mod, I.ok.kind, I.ok.glob, I.ok.blt, I.ok.above, I.ok.inj, I.ok.has, I.ok.cab, I.ok.hd, I.ok.frames, I.ok.stk, I.ok.exf, I.ok.bs, I.ok.bsz, I.ok.noex, I.ok.exfs, I.ok.funs, I.ok.frf⟩, I.os, I.bare, I.base, I.loc, I.cell, I.free, I.freeC, fun p hp => I.pin p (List.mem_append_right _ (List.mem_append_right _ ((List.mem_append.mp hp).elim (fun z => z) fun z => by cases z))), I.hok, I.len⟩
theorem Inv.ofpn (I : Inv (cmpCxP X N scope cl fp C s2 H2 pl) [] σ H s) : Inv (cmpCx X N scope cl fp C s2 H2) ([] ++ pl) σ H s :=
  ⟨⟨I.ok.mod, I.ok.kind, I.ok.glob, I.ok.blt, I.ok.above, I.ok.inj, I.ok.has, I.ok.cab, I.ok.hd, I.ok.frames, I.ok.stk, I.ok.exf, I.ok.bs, I.ok.bsz, I.ok.noex, I.ok.exfs, I.ok.funs, I.ok.frf⟩, I.os, I.bare, I.base, I.loc, I.cell, I.free, I.freeC, fun p hp => I.pin p (List.mem_append_left _ ((List.mem_append.mp hp).elim (fun z => by cases z) fun z => (List.mem_append.mp z).elim (fun z => by cases z) fun z => z)), I.hok, I.len⟩
end
section
variable {X : Cx} {pins : List (Addr × Obj)} {σ : St} {H : Hp} {s s' : Shared}
/-- what isn't there yet is new, where what may change is pinned -/
theorem Inv.newAtP (I : Inv X pins σ H s) (hx : ∀ b ∈ X.ex, ∃ o, (b, o) ∈ X.pn) {b : Addr} (hb : s.heap.get? b = none) : NewAt X pins H b := by
  refine ⟨?_, I.hok.none_of hb, ?_, ?_, ?_⟩
  · cases q : X.s₀.heap.get? b with
    | none => rfl
    | some o =>
      obtain ⟨o', q'⟩ := I.base.there b o q (fun hm => by
        obtain ⟨o2, h2⟩ := hx b hm
        have := (I.pin (b, o2) (List.mem_append_left _ h2)).1
        rw [hb] at this; cases this)
      rw [hb] at q'; cases q'
  · rintro rfl
    obtain ⟨m, ⟨o, _, _, q, _⟩, _⟩ := I.loc
    rw [hb] at q; cases q
  · rintro x c hc rfl
    obtain ⟨v, o, q, _⟩ := I.cell x c hc
    rw [hb] at q; cases q
  · rintro p hp rfl
    obtain ⟨q, _⟩ := I.pin p hp
    rw [hb] at q; cases q
end
section
variable {X : Cx} {N : List Str} {scope : Scope} {cl : List (Str × Addr)} {fp : List Addr} {C : Addr} {s2 : Shared} {H2 : Hp} {pl : List (Addr × Obj)} {L : Addr} {E : XK}
/-- what a callee raises within the block passes on -/
theorem passC (hpl : ∀ b ∈ fp, ∃ o, (b, o) ∈ pl) : Passes (CX1 X.prog X.w) (cmpCxX X N scope cl L E fp C s2 H2 pl) E := fun pins σ H s ev s' I h => by
  obtain ⟨e, T, C', a0, H', rfl, os, bare, un, hok, x, ne, nT, he, hT, q⟩ := h
  have J := (I.unwish).call' (ch := []) os un hok bare fun b z => absurd z (by simp)
  have a := (I.unwish).newAtP hpl ne
  have c := (I.unwish).newAtP hpl nT
  refine ⟨e, C', a0, [T], pins, σ, H', rfl, J, .fly x, fun b hb => ?_, q⟩
  rcases List.mem_cons.mp hb with z | z
  · rw [z]; exact ⟨a.ent, he, a.loc, a.cel, a.pin⟩
  · rw [show b = T by simpa using z]; exact ⟨c.ent, hT, c.loc, c.cel, c.pin⟩
/-- the block's frame is the def's own -/
theorem note_comp {x : Value} {Cl : Addr} : noteFrame x (compEnvC scope cl Cl X.env) = noteFrame x X.env := rfl
end
section
variable {X : Cx} {elt iter tg : Expr} {ifs : List Expr} {pos : Pos} {scope : Scope} {cl : List (Str × Addr)} {N : List Str} {k : Nat} {fr : List Nat} {gt : TG} {tt : TT} {te : TE}
theorem comp_coreGE {pins : List (Addr × Obj)} {σ : St} {s2 : Shared} {H2 : Hp} {it : Addr} {fp : List Addr} {tn : Nat → Heap → Prop} {J : It} {Q : VK} {E : Value → Shared → Prop} {RR : Value → Env → Result → Shared → Prop} {L : Addr} {E2 : XK}
    (O : CmpOkG X N k fr scope cl) (hc : X.calm = true) (I2 : Inv X pins σ H2 s2) (T : Turn X.prog X.w X.K tg J fp it tn) (st2 : tn 0 s2.heap) (f2 : ∀ b ∈ fp, FpOk X pins H2 b)
    (ht : ∀ fp C s H, PIf (cmpCx X N scope cl fp C s H) ifs tt) (he : ∀ fp C s H pl, (∀ b ∈ fp, ∃ o, (b, o) ∈ pl) → PE (cmpCxX X N scope cl L E2 fp C s H pl) elt te)
    (hg : ∀ fp C s H, PG (cmpCx X N scope cl fp C s H) tg gt) (hW : CompAtG J gt k fr tt te σ Q H2)
    (fin : ∀ D C s' H', s2.heap.objs.size ≤ C → H' C = none → (∃ m, s'.heap.Ns C m) → Inv X pins σ H' s' → Q (.ref D) H' → RR (.ref D) (compEnvC scope cl C X.env) (.ok .next) s')
    (finX : ∀ D C ev s', s2.heap.objs.size ≤ C → XXof X N scope cl L E2 fp C s2 H2 ev s' → notedBy (model X.prog X.w) X.A (compEnvC scope cl C X.env) (fun x s'' => RR (.ref D) (compEnvC scope cl C X.env) (.error x) s'') ev s') :
    wpAny (model X.prog X.w) X.A (newList []) (fun acc s3 => wpAny (model X.prog X.w) X.A (newFunctionEnv scope X.env.globals cl [] X.env.qual none .none (some X.env)) (fun cenv s4 =>
      codeAny (model X.prog X.w) X.A (.compStart (.ListComp elt [⟨tg, iter, ifs, 0⟩] scope pos) 0 (.ref it) acc { cenv with scope := relabel scope X.env }) (RR acc { cenv with scope := relabel scope X.env }) s4) E s3) E s2 := by
  refine wpAny_newObj_type (wpAny_newFunctionEnv O.nocell (by intro y hy; simp at hy) (fun h1 hns hsb => ?_) O.kind)
  dsimp only at hns hsb ⊢
  generalize hG : s2.heap.push { cls := .type "list", dict := none, data := .seq ([] : List Value).toArray } = G at hns hsb ⊢
  have hC : G.objs.size = s2.heap.objs.size + 1 := by rw [← hG, Heap.size_push]
  have old : ∀ b o, s2.heap.get? b = some o → h1.get? b = some o := fun b o e => hsb.extBut b o (Nat.ne_of_lt (by rw [hC]; exact Nat.lt_succ_of_lt (Heap.lt_size e))) (Heap.get?_push_of_some _ (hG ▸ Heap.get?_push_of_some _ e))
  have hacc : h1.get? s2.heap.objs.size = some { cls := .type "list", data := .seq ([] : List Value).toArray 0 } := hsb.extBut _ _ (Nat.ne_of_lt (by rw [hC]; exact Nat.lt_succ_self _)) (Heap.get?_push_of_some _ (hG ▸ Heap.get?_push_size _ rfl))
  have hD : H2 s2.heap.objs.size = none := I2.fresh
  have okX : (cmpCx X N scope cl fp G.objs.size s2 H2).Ok := by
    refine ⟨I2.ok.mod, O.kind, I2.ok.glob, I2.ok.blt, by show s2.heap.objs.size ≤ G.objs.size; rw [hC]; exact Nat.le_succ _, fun y z c e1 e2 => I2.ok.inj y z c (O.cells y c e1) (O.cells z c e2), fun y hy => O.has y hy, fun y c z => absurd (show false = true from z) Bool.false_ne_true, I2.ok.hd, I2.ok.frames, .inl rfl,
      fun b hb => ⟨?_, fun y c e => (f2 b hb).2.2.2.2.1 y c (O.cells y c e)⟩, I2.bs, Nat.le_trans I2.ok.bsz I2.sz, fun b o e hb => ?_, fun b hb z => ?_, I2.stack, I2.stkFree⟩
    · obtain ⟨o, e, _⟩ := T.obj _ _ st2 b hb
      show b ≠ G.objs.size
      exact Nat.ne_of_lt (by rw [hC]; exact Nat.lt_succ_of_lt (Heap.lt_size e))
    · rcases (f2 b hb).2.2.2.1 with z | z
      · exact I2.ok.noex b o e z
      · exact absurd (Nat.lt_of_lt_of_le (Heap.lt_size e) (Nat.le_trans I2.ok.bsz z)) (Nat.lt_irrefl _)
    · rcases List.mem_cons.mp (I2.stkSub b z) with z | z
      · exact (f2 b hb).2.1 z
      · exact (f2 b hb).2.2.1 z
  have statX : ∀ {H' : Hp}, (∀ b ∈ fp, H' b = none) → ∀ b ∈ fp, FpOk (cmpCx X N scope cl fp G.objs.size s2 H2) [] H' b := fun hn b hb =>
    ⟨hn b hb, (okX.exf b hb).1, okX.exfs b hb, .inl hb, (okX.exf b hb).2, fun p hp => absurd (show p ∈ ([] : List (Addr × Obj)) from hp) (by simp)⟩
  have I' : Inv (cmpCx X N scope cl fp G.objs.size s2 H2) [] (cmpStG σ fr (List.replicate k none)) (upd H2 s2.heap.objs.size (.lst [])) { s2 with heap := h1, toks := s2.toks + ([] : List (Str × Value)).length } := by
    refine ⟨okX, rfl, I2.bare, Un.laid old (Nat.le_refl _) hD, ⟨_, hns, fun i y v e1 e2 e3 => ?_⟩, fun y c e => ?_, ?_, fun y c e => ?_, fun p hp => absurd (show p ∈ ([] : List (Addr × Obj)) from hp) (by simp), I2.hok.laid old (Nat.le_refl _) ⟨Nat.zero_le _, [], 0, .nil, hacc⟩, ?_⟩
    · by_cases hik : i < k
      · have e2' : (List.replicate k none ++ fr.map fun j => (σ[j]?).join)[i]? = some (some v) := e2
        rw [List.getElem?_append_left (by rw [List.length_replicate]; exact hik), List.getElem?_replicate, if_pos hik] at e2'
        cases e2'
      · obtain ⟨j, q1, q2, q3, q4⟩ := O.sub (i - k) y (by rw [show k + (i - k) = i by omega]; exact e1)
        have e2' : (σ[j]?).join = some v := by
          have : (List.replicate k none ++ fr.map fun j => (σ[j]?).join)[i]? = some (some v) := e2
          rw [List.getElem?_append_right (by rw [List.length_replicate]; omega), List.length_replicate, List.getElem?_map, q1] at this
          exact Option.some.inj this
        have e4 : σ[j]? = some (some v) := by
          cases z : σ[j]? with
          | none => rw [z] at e2'; cases e2'
          | some t => rw [z] at e2'; exact congrArg some e2'
        obtain ⟨m, _, hl⟩ := I2.loc
        have vis : Vis X.env.scope y := .inr q3
        obtain ⟨u, r, l⟩ := hl j y v q2 e4 vis
        refine ⟨u, r, .inr ⟨q4, ?_⟩⟩
        obtain ⟨c', hc'⟩ := O.has y q4
        rcases l with ⟨k, _⟩ | ⟨_, c, ec, ic⟩
        · rcases q3 with z | z
          · rw [z] at k; cases k
          · rw [z] at k; cases k
        · have := O.cells y c' hc'
          have e' : c = c' := Option.some.inj (ec.symm.trans this)
          obtain ⟨o, ho, hd⟩ := ic
          rw [e'] at ho
          exact ⟨c', hc', o, old c' o ho, hd⟩
    · obtain ⟨v, o, ho, hd⟩ := I2.cell y c (O.cells y c e)
      exact ⟨v, o, old c o ho, hd⟩
    · show upd H2 s2.heap.objs.size (.lst []) G.objs.size = none
      rw [upd_ne (Nat.ne_of_gt (by rw [hC]; exact Nat.lt_succ_self _))]
      exact I2.hok.fresh (by rw [hC]; exact Nat.le_succ _)
    · obtain ⟨v, o, ho, hd⟩ := I2.cell y c (O.cells y c e)
      rw [upd_ne (Nat.ne_of_lt (Heap.lt_size ho))]
      exact I2.freeC y c (O.cells y c e)
    · show (cmpStG σ fr (List.replicate k none)).length = N.length
      rw [O.len]; simp [cmpStG]
  have st1 : tn 0 h1 := T.keep _ _ _ st2 fun b hb o e => old b o e
  have loop : ∀ s3 : Shared, s3 = { s2 with heap := h1, toks := s2.toks + ([] : List (Str × Value)).length } →
      codeAny (model X.prog X.w) X.A (.compLoop (.ListComp elt [⟨tg, iter, ifs, 0⟩] scope pos) 0 (.ref it) (.ref s2.heap.objs.size) (compEnvC scope cl G.objs.size X.env)) (RR (.ref s2.heap.objs.size) (compEnvC scope cl G.objs.size X.env)) s3 := by
    rintro s3 rfl
    obtain ⟨W, ⟨m0, w0⟩, turn⟩ := hW _ hD
    refine comp_turnsX (XXof X N scope cl L E2 fp G.objs.size s2 H2) (fun ev s9 z => finX _ _ ev s9 (by rw [hC]; exact Nat.le_succ _) z) (fun n s' => ∃ i ts H', ts.length = k ∧ Inv (cmpCx X N scope cl fp G.objs.size s2 H2) [] (cmpStG σ fr ts) H' s' ∧ tn i s'.heap ∧ (∀ b ∈ fp, H' b = none) ∧ W i n H') ?_ m0
      ⟨0, List.replicate k none, _, List.length_replicate, I', st1, fun b hb => by
        rw [upd_ne (by obtain ⟨o, e, _⟩ := T.obj _ _ st2 b hb; exact Nat.ne_of_lt (Heap.lt_size e))]
        exact (f2 b hb).1, w0⟩
    rintro n s' ⟨i, ts, H', hts, I3, st3, fr3, w3⟩
    rcases turn i n H' w3 with ⟨stop, qn⟩ | ⟨go, step⟩
    · refine thn (T.done (cmpCx X N scope cl fp G.objs.size s2 H2) rfl rfl rfl hc i [] s' _ H' _ I3 (statX fr3) st3 stop) fun r s4 ⟨hr, I4⟩ => ?_
      subst hr
      obtain ⟨m, hm, _⟩ := I4.loc
      refine fin _ _ s4 H' (by rw [hC]; exact Nat.le_succ _) I4.free ⟨m, hm⟩ (I2.call' (ch := fp) I4.os I4.base I4.hok I4.bare fun b hb => ?_) qn
      exact ⟨(f2 b hb).2.2.2.1, (f2 b hb).2.1, (f2 b hb).2.2.2.2.1, (f2 b hb).2.2.2.2.2⟩
    · refine thn (T.item (cmpCx X N scope cl fp G.objs.size s2 H2) rfl rfl rfl hc i [] s' _ H' _ I3 (statX fr3) st3 go) fun r s4 ⟨u, hr, h4⟩ => ?_
      subst hr
      refine thn h4 fun _ s5 ⟨y, H5, I5, r5, y5, st5, fr5⟩ => ?_
      have I5' := I5.pinned (statX fr5) (T.obj _ _ st5)
      refine thn (hg fp G.objs.size s2 H2 _ s5 _ H5 y u _ I5' r5 (step y H5 y5 ts hts)) fun _ s6 ⟨σ6, H6, I6, ⟨ts6, hts6, e6⟩, q6⟩ => ?_
      subst e6
      have again : ∀ {σ7 : St} {H7 : Hp} {s7 : Shared} {m' : Nat}, σ7 = cmpStG σ fr ts6 → Inv (cmpCx X N scope cl fp G.objs.size s2 H2) ([] ++ pinsAt fp s5.heap) σ7 H7 s7 → m' < n → W (i + 1) m' H7 →
          ∃ m, m < n ∧ ∃ i ts H', ts.length = k ∧ Inv (cmpCx X N scope cl fp G.objs.size s2 H2) [] (cmpStG σ fr ts) H' s7 ∧ tn i s7.heap ∧ (∀ b ∈ fp, H' b = none) ∧ W i m H' := fun {σ7 H7 s7 m'} e7 I7 hm w7 => by
        subst e7
        refine ⟨m', hm, i + 1, ts6, H7, hts6, I7.unpinned, T.keep _ _ _ st5 fun b hb o e => (I7.pin (b, o) (List.mem_append_right _ (List.mem_append_right _ (mem_pinsAt hb e)))).1, fun b hb => ?_, w7⟩
        obtain ⟨o, e, d⟩ := T.obj _ _ st5 b hb
        exact (I7.pin (b, o) (List.mem_append_right _ (List.mem_append_right _ (mem_pinsAt hb e)))).2.1
      refine thn (ht fp G.objs.size s2 H2 _ s6 _ H6 _ I6 q6) fun ok s7 ⟨H7, I7, q7⟩ => ?_
      cases ok with
      | false =>
        rw [if_neg Bool.false_ne_true] at q7 ⊢
        obtain ⟨m', hm, w7⟩ := q7
        exact again rfl I7 hm w7
      | true =>
        rw [if_pos rfl] at q7 ⊢
        have hpl : ∀ b ∈ fp, ∃ o, (b, o) ∈ pinsAt fp s5.heap := fun b hb => by
          obtain ⟨o, e, _⟩ := T.obj _ _ st5 b hb
          exact ⟨o, mem_pinsAt hb e⟩
        refine wpAny_mono (he fp G.objs.size s2 H2 (pinsAt fp s5.heap) hpl [] s7 _ H7 _ ((I7.topn).wish _) q7) (fun u8 s8 ⟨v8, H8, I8, r8, ys, hys, hlen, m', hm, w8⟩ => ?_) fun ev s9 z => ⟨pinsAt fp s5.heap, hpl, z⟩
        have I8 := (I8.unwish).ofpn
        refine thn (mt_append (X := cmpCx X N scope cl fp G.objs.size s2 H2) _ s8 _ H8 (.ref s2.heap.objs.size) [v8] _ [u8] (fun _ H9 => W (i + 1) m' H9) I8 rfl (.cons r8 .nil) ⟨_, ys, v8, rfl, rfl, hys, hlen, w8⟩) fun _ s9 ⟨_, H9, I9, _, w9⟩ => ?_
        exact again rfl I9 hm w9
  exact codeAny_compStart_list (loop _ rfl) (T.self _ 0 _ _ _ st1 (loop _ rfl))
/-- what the block has raised, noted, is passed on by the def -/
theorem XX_out {pins : List (Addr × Obj)} {σ : St} {H2 : Hp} {s2 s' : Shared} {fp : List Addr} {C L : Addr} {E : XK} {ev : Value} {RR : Result → Shared → Prop} (hst : X.stack = X.env :: X.outer) (hfr : X.env.frame = some L) (hex : X.ex = []) (hxe : ∀ ev s', XEof X L E ev s' → X.xe ev s')
    (I2 : Inv X pins σ H2 s2) (f2 : ∀ b ∈ fp, FpOk X pins H2 b) (hC : s2.heap.objs.size ≤ C) (z : XXof X N scope cl L E fp C s2 H2 ev s')
    (hR : ∀ x s'', (∃ m, s''.heap.Ns C m ∧ ∀ h', Heap.SameBut C s''.heap h' → wpAny (model X.prog X.w) X.A (passOn "comprehension.variables-let-go" x (compEnvC scope cl C X.env) : Sem Value) (fun _ _ => False) X.xe { s'' with heap := h' }) → RR (.error x) s'') :
    notedBy (model X.prog X.w) X.A (compEnvC scope cl C X.env) (fun x s'' => RR (.error x) s'') ev s' := by
  obtain ⟨pl, hpl, e, Ce, a0, Ts, pz, σz, H', rfl, I, x, ny, q⟩ := z
  have fr1 : X.A.frames = some (X.env :: X.outer) := by rw [← hst]; exact I.ok.frames
  have ff1 : s'.heap.FunFrames X.base (X.env :: X.outer) := by rw [← hst]; exact I.stack
  unfold notedBy
  rw [note_comp]
  refine note fr1 ff1 hfr x fun h2 T st x2 hT => ?_
  rw [← hst] at st
  have I3 := I.excStepY st ny
  have nT : NewAt (cmpCxP X N scope cl fp C s2 H2 pl) pz H' T := by
    rcases hT with z | z
    · exact I.newAtP hpl z
    · exact ny T (List.mem_cons_of_mem e z)
  have ne := ny e List.mem_cons_self
  have I4 : Inv X pins σ H' { s' with heap := h2 } := I2.call' (ch := fp) I3.os I3.base I3.hok I3.bare fun b hb => ⟨(f2 b hb).2.2.2.1, (f2 b hb).2.1, (f2 b hb).2.2.2.2.1, (f2 b hb).2.2.2.2.2⟩
  obtain ⟨m, hm, _⟩ := I3.loc
  refine hR _ _ ⟨m, hm, fun h' hs' => ?_⟩
  have I5 := I2.left I4 hC I3.free hs'
  have neC : e ≠ C := ne.loc
  have nTC : T ≠ C := nT.loc
  obtain ⟨oe, vs, oT, ts, y1, y2, y3, y4, y5, y6, y7, y8⟩ := id x2
  have x3 : ExcF h' e T (.ref Ce) a0 (rawInt L) := ⟨oe, vs, oT, ts, (hs'.2 e neC).trans y1, y2, y3, y4, y5, (hs'.2 T nTC).trans y6, y7, y8⟩
  have nX : ∀ b ∈ [e, T], NewAt X pins H' b := fun b hb => by
    have nb : NewAt (cmpCxP X N scope cl fp C s2 H2 pl) pz H' b := by
      rcases List.mem_cons.mp hb with z | z
      · rw [z]; exact ne
      · rw [show b = T by simpa using z]; exact nT
    have a := I2.newAt hex (b := b) nb.ent
    exact ⟨a.ent, nb.unt, a.loc, a.cel, a.pin⟩
  unfold PySem.passOn
  refine wpAny_bind (wpAny_field (s := { s' with heap := h' }) ((hs'.2 e neC).trans y1) y3 y4 ?_)
  rw [if_neg (show ¬ (Value.ref T == Value.none) = true by simp)]
  show wpAny (model X.prog X.w) X.A (setFlight (.ref e) X.env.frame >>= fun _ => (throw (.ref e) : Sem Value)) _ _ _
  rw [hfr]
  refine wpAny_bind (flyTo (s := { s' with heap := h' }) (l := X.stack) I5.stack x3 fun h3 st3 x4 => ?_)
  exact wpAny_throw (hxe _ _ ⟨e, Ce, a0, [T], pins, σ, H', rfl, I5.excStepY st3 nX, .held x4, nX, q⟩)
/-- [elt for tg in iter if ..], elt may raise -/
theorem pe_compGE {wi : TI} {L : Addr} {E : XK} (hst : X.stack = X.env :: X.outer) (hfr : X.env.frame = some L) (hex : X.ex = []) (hxe : ∀ ev s', XEof X L E ev s' → X.xe ev s') (hi : PI X tg iter wi) (O : CmpOkG X N k fr scope cl) (hc : X.calm = true) (hg : ∀ fp C s H, PG (cmpCx X N scope cl fp C s H) tg gt) (ht : ∀ fp C s H, PIf (cmpCx X N scope cl fp C s H) ifs tt)
    (he : ∀ fp C s H pl, (∀ b ∈ fp, ∃ o, (b, o) ∈ pl) → PE (cmpCxX X N scope cl L E fp C s H pl) elt te)
    (hs : ∀ v, foldedSetIterable iter X.env v = pure v := by intro _; rfl) : PE X (.ListComp elt [⟨tg, iter, ifs, 0⟩] scope pos) (tCompG wi gt k fr tt te) := by
  intro pins s σ H Q I h
  rw [eval_ListComp]
  refine compX rfl hs O.clos O.kind O.names (thn (hi pins s σ H _ I h) fun v s1 h1 => thn h1 fun itv s2 h2 => ?_)
  obtain ⟨it, fp, tn, J, H2, e, I2, T, st2, f2, hW⟩ := h2
  subst e
  refine comp_coreGE (RR := fun acc cenv r s' => ∃ m, s'.heap.Ns cenv.locals m ∧ ∀ h', Heap.SameBut cenv.locals s'.heap h' → match r with | .ok _ => EP X pins σ Q acc { s' with heap := h' } | .error x => wpAny (model X.prog X.w) X.A (passOn "comprehension.variables-let-go" x cenv : Sem Value) (fun _ _ => False) X.xe { s' with heap := h' }) O hc I2 T st2 f2 ht he hg hW (fun D C s' H' hC hn ⟨m, hm⟩ I' q => ?_) fun D C ev s' hC z => ?_
  · exact ⟨m, hm, fun h' hs' => ⟨.ref D, H', I2.left I' hC hn hs', rfl, q⟩⟩
  · exact XX_out (RR := fun r s'' => ∃ m, s''.heap.Ns C m ∧ ∀ h', Heap.SameBut C s''.heap h' → match r with | .ok _ => EP X pins σ Q (.ref D) { s'' with heap := h' } | .error x => wpAny (model X.prog X.w) X.A (passOn "comprehension.variables-let-go" x (compEnvC scope cl C X.env) : Sem Value) (fun _ _ => False) X.xe { s'' with heap := h' }) hst hfr hex hxe I2 f2 hC z fun x s'' h => h
end
section
variable {P : Program} {w : World} {K : PySem.W.Frag} {mg : Str → Option Value} {base : Heap} {N : List Str} {qual : Str} {scope : Scope} {f : Addr} {cd : Value} {A : Around} {outer : List Env} {s0 : Shared} {H0 : Hp} {E : XK}
/-- the def's own wish is met -/
theorem xe_met : ∀ ev s', XEof (cxE P w K mg base N qual scope f cd A outer s0 H0 E) s0.heap.objs.size E ev s' → (cxE P w K mg base N qual scope f cd A outer s0 H0 E).xe ev s' := by
  rintro ev s' ⟨e, C, a0, Ts, pins, σ, H', rfl, I, x, ny, q⟩
  exact ⟨e, C, a0, Ts, pins, σ, H', rfl, I.unwish, x, fun b hb => ⟨(ny b hb).ent, (ny b hb).unt, (ny b hb).loc, (ny b hb).cel, (ny b hb).pin⟩, q⟩
end
end L2

namespace L2
open PySem PySem.Spec PyProof.Rows
/-! ### min and max of a list of ints; a set of ints and how many it has -/
section
variable {X : Cx}
end
/-- a set of ints -/
def SetI (P : Program) (w : World) (a : Addr) (ns : List Int) : HO := .ext fun h => h.SetOf (intKind P w) a (fun z => decide (z ∈ ns)) (cntK ns ns.length)
section
variable {X : Cx}
end
end L2
namespace L2
open PySem PySem.Spec PyProof.Rows
section
variable {X : Cx}
inductive rUpper  (x : V) (vs : List V) (H : Hp) (Q : VK) : Prop
  | mk (z : Str) (_ : x = .str z) (_ : vs = []) (_ : z.length ≤ 1000) (_ : Q (.str (Txt.upper z)) H) : rUpper x vs H Q
end
end L2

namespace L2
open PySem PySem.Spec PyProof.Rows
/-! ### isinstance against an own class or a built-in one, of a tuple of the module too -/
def TyG (K : PySem.W.Frag) (H : Hp) (x : V) (t : Value) : Prop := TyOf K H x t ∨ ∃ a ys, x = .ref a ∧ SqT K H a ys ∧ t = .type "tuple"
inductive ClV : V → Value → Prop where
  | ty (T : String) : ClV (.ty T) (.type T)
  | ref (C : Addr) : ClV (.ref C) (.ref C)
section
variable {X : Cx}
theorem call_isiG : CallR X (.builtin "isinstance") (fun xs H Q => ∃ x c cv t b, xs = [x, c] ∧ ClV c cv ∧ TyG X.K H x t ∧ PySem.W.kitOne X.K t cv = some b ∧ Q (.bl b) H) := by
  intro pins s σ H xs us Q I r h
  obtain ⟨x, c, cv, t, b, rfl, rc, ty, e, q⟩ := h
  cases r with
  | cons rx r2 =>
    cases r2 with
    | @cons _ cu _ _ ry r3 =>
      cases r3
      have ec : cu = cv := by cases rc <;> exact ry
      subst ec
      rcases ty with ty | ⟨a, ys, rfl, hS, rfl⟩
      · exact isinst_ok I rx ty e fun tk => ⟨.bl b, H, I.tok tk, rfl, q⟩
      · cases (show _ = Value.ref a from rx)
        obtain ⟨its, r, ⟨o, h1, h2, _⟩, _⟩ := I.tuple hS
        exact PySem.W.kia_one PySem.W.kitx_tuple I.kIn ⟨o, h1, h2⟩ e (fun z => nomatch z) fun tk => ⟨.bl b, H, I.tok tk, rfl, q⟩
end
/-- what the text must have for isinstance of an instance of C -/
structure InsT (K : PySem.W.Frag) (C : Addr) : Prop where
  cl : Cls K C
  ha : PySem.W.findIn K (.ref C) "__class__" = some (some (.builtin "object.__class__"))
  hn : PySem.W.specialIn K (.builtin "object.__class__") "__get__" = some (some (.builtin "getset_descriptor.__get__"))
  tk : PySem.W.takesIn K (.builtin "object.__class__") = some true
  hm : PySem.W.mroIn K C (.type "object") = some true
theorem InsT.ty {K : PySem.W.Frag} {C : Addr} (h : InsT K C) {H : Hp} {a dx : Addr} {fs : List (Str × V)} (e : H a = some (.ins C dx fs)) : TyG K H (.ref a) (.ref C) := .inl (.ins e h.cl h.ha h.hn h.tk h.hm)
/-! ### a method of one of several classes -/
def PolM (CX : CXT) (P : Program) (w : World) (K : PySem.W.Frag) (mg : Str → Option Value) (base : Heap) (k : Nat) (m : Str) (ps : List Str) (cs : List (Addr × Sp)) : Prop :=
  ∀ p ∈ cs, MCallee CX P w K mg base k p.1 m ps p.2 ∧ Cls K p.1
section
variable {CX : CXT} {P : Program} {w : World} {K : PySem.W.Frag} {mg : Str → Option Value} {base : Heap} {k : Nat} {C : Addr} {m : Str} {ps : List Str} {sp : Sp} {cs : List (Addr × Sp)}
end
inductive tMtPq (cs : List (Addr × Sp)) (m : Str) (t : TA) (σ : St) (Q : VK) (x : V) (H1 : Hp) : Prop
  | mk (a p dx fs : _) (_ : x = .ref a) (_ : p ∈ cs) (_ : H1 a = some (.ins p.1 dx fs)) (_ : fs.lookup m = none) (_ : t σ H1 fun vs H2 => p.2 (x :: vs) H2 Q E0) : tMtPq cs m t σ Q x H1
def tMtP (cs : List (Addr × Sp)) (m : Str) (ta : TE) (t : TA) : TE := fun σ H Q => ta σ H fun x H1 => tMtPq cs m t σ Q x H1
section
variable {X : Cx} {CX : CXT} {k : Nat} {f C : Addr} {fd : FuncData} {ps : List Str} {sp : Sp} {x m : Str} {p np pos apos : Pos} {e o : Expr} {es : List Expr} {ta : TE} {t : TA} {cs : List (Addr × Sp)}
end
/-! ### a tuple of the module -/
def ModT (K : PySem.W.Frag) (a : Addr) (xs : List V) : Prop := ∃ (o : Obj) (its : Array Value) (n : Nat), K.lookup a = some o ∧ o.cls = .type "tuple" ∧ o.data = .seq its n ∧ its.size ≤ sizeLine ∧ Vals xs its.toList
end L2
namespace L2
open PySem PySem.Spec PyProof.Rows
theorem iteTS {c A B : Prop} [Decidable c] (hc : c) (h : A) : if decide c = true then A else B := by rw [if_pos (decide_eq_true hc)]; exact h
theorem iteFS {c A B : Prop} [Decidable c] (hc : ¬ c) (h : B) : if decide c = true then A else B := by rw [if_neg (by rw [decide_eq_false hc]; decide)]; exact h
end L2

namespace L2
open PySem PySem.Spec PyProof.Rows
inductive tMtPEq (cs : List (Addr × Sp)) (m : Str) (E : XK) (t : TA) (σ : St) (Q : VK) (x : V) (H1 : Hp) : Prop
  | mk (a p dx fs : _) (_ : x = .ref a) (_ : p ∈ cs) (_ : H1 a = some (.ins p.1 dx fs)) (_ : fs.lookup m = none) (_ : t σ H1 fun vs H2 => p.2 (x :: vs) H2 Q E) : tMtPEq cs m E t σ Q x H1
def tMtPE (cs : List (Addr × Sp)) (m : Str) (E : XK) (ta : TE) (t : TA) : TE := fun σ H Q => ta σ H fun x H1 => tMtPEq cs m E t σ Q x H1
section
variable {X : Cx} {CX : CXT} {k : Nat} {ps : List Str} {m : Str} {pos apos : Pos} {e o : Expr} {es : List Expr} {ta : TE} {t : TA} {cs : List (Addr × Sp)} {E : XK}
end
end L2

namespace L2
open PySem PySem.Spec PyProof.Rows
/-! ### for a, b in zip(xs, ys), of two lists that stay -/
section
variable {X : Cx} {pins : List (Addr × Obj)} {σ : St} {H : Hp} {s : Shared} {h' : Heap}
end
/-- the walk of zip over the lists at a and b -/
def Itz (K : PySem.W.Frag) (a b : Addr) : It :=
  ⟨fun i H => ∃ xs ys x y, SqL K H a xs ∧ SqL K H b ys ∧ xs[i]? = some x ∧ ys[i]? = some y,
   fun i H v H' => ∃ T, H T = none ∧ v = .ref T ∧ ∀ xs ys x y, SqL K H a xs → SqL K H b ys → xs[i]? = some x → ys[i]? = some y → H' = upd H T (.tup [x, y]),
   fun i H => ∃ xs ys, SqL K H a xs ∧ SqL K H b ys ∧ (xs.length ≤ i ∨ ys.length ≤ i)⟩
/-- the iterator's records -/
def ZipSt (z TI TO i1 i2 a b : Addr) (i : Nat) (h : Heap) : Prop := IsZip h z TI TO .none ∧ IsPair h TI (.ref i1) (.ref i2) ∧ (∃ p q, IsPair h TO p q) ∧ h.IsListIter i1 a i ∧ h.IsListIter i2 b i
inductive iZipq (K : PySem.W.Frag) (R : It → Hp → Prop) (vs : List V) (H1 : Hp) : Prop
  | mk (a b : _) (_ : vs = [.ref a, .ref b]) (_ : (∃ xs, SqL K H1 a xs)) (_ : (∃ ys, SqL K H1 b ys)) (_ : R (Itz K a b) H1) : iZipq K R vs H1
def iZip (K : PySem.W.Frag) (ta : TA) : TI := fun σ H R => ta σ H fun vs H1 => iZipq K R vs H1
section
variable {X : Cx}
end
end L2
namespace L2
open PySem PySem.Spec PyProof.Rows
section
variable {X : Cx}
end
end L2
namespace L2
open PySem PySem.Spec PyProof.Rows
end L2

namespace L2
open PySem PySem.Spec PyProof.Rows
/-! ### for k, x in enumerate(xs), of a list that stays; all(..) of a list of bools; a block with a tuple target that sees names of the def -/
/-- the walk of enumerate over the list at a -/
def Ite (K : PySem.W.Frag) (a : Addr) : It :=
  ⟨fun i H => ∃ xs x, SqL K H a xs ∧ xs[i]? = some x,
   fun i H v H' => ∃ T, H T = none ∧ v = .ref T ∧ ∀ xs x, SqL K H a xs → xs[i]? = some x → H' = upd H T (.tup [.int i, x]),
   fun i H => ∃ xs, SqL K H a xs ∧ xs.length ≤ i⟩
def EnumSt (e it a : Addr) (i : Nat) (h : Heap) : Prop := (∃ old, IsEnum h e it i old) ∧ h.IsListIter it a i
inductive iEnumq (K : PySem.W.Frag) (R : It → Hp → Prop) (vs : List V) (H1 : Hp) : Prop
  | mk (a : _) (_ : vs = [.ref a]) (_ : (∃ xs, SqL K H1 a xs)) (_ : R (Ite K a) H1) : iEnumq K R vs H1
def iEnum (K : PySem.W.Frag) (ta : TA) : TI := fun σ H R => ta σ H fun vs H1 => iEnumq K R vs H1
section
variable {X : Cx}
end
section
variable {gt : TG} {k : Nat} {fr : List Nat} {tt : TT} {te : TE}
end
theorem cmpOkG_free {X : Cx} {N : List Str} {k : Nat} {fr : List Nat} {scope : Scope} {cl : List (Str × Addr)} (clos : closureFor scope X.env = pure cl) (kind : scope.kind = .function) (nocell : ∀ y ∈ scope.names, y.2 ≠ .cell)
    (names : ∀ y ∈ scope.names, y.2 = .local → scope.names.lookup y.1 = some .local) (len : N.length = k + fr.length)
    (sub : ((List.range fr.length).all fun i => match N[k + i]?, fr[i]? with | some y, some j => (X.N[j]? == some y) && ((X.env.kindOf y == some .cell) && ((relabel scope X.env).names.lookup y == some .cell)) | _, _ => false) = true)
    (cells : ∀ p ∈ cl, X.env.cells.lookup p.1 = some p.2) (has : ((relabel scope X.env).names.all fun p => (p.2 != .cell && p.2 != .free) || (cl.lookup p.1).isSome) = true) : CmpOkG X N k fr scope cl := by
  refine ⟨clos, kind, nocell, names, len, fun i y e => ?_, fun y c e => cells _ (PySem.mem_of_lookup e), fun y h => ?_⟩
  · have hi : i < fr.length := by have := (List.getElem?_eq_some_iff.mp e).1; omega
    have z := List.all_eq_true.mp sub i (List.mem_range.mpr hi)
    rw [e, List.getElem?_eq_getElem hi] at z
    simp only [Bool.and_eq_true, beq_iff_eq] at z
    exact ⟨_, List.getElem?_eq_getElem hi, z.1, .inl z.2.1, .inl z.2.2⟩
  · have look : ∀ k, (relabel scope X.env).names.lookup y = some k → (k = .cell ∨ k = .free) → ∃ c, cl.lookup y = some c := fun k e hk => by
      have z := List.all_eq_true.mp has _ (PySem.mem_of_lookup e)
      rcases hk with rfl | rfl
      · exact Option.isSome_iff_exists.mp (by simpa using z)
      · exact Option.isSome_iff_exists.mp (by simpa using z)
    rcases h with h | h
    · exact look _ h (.inl rfl)
    · exact look _ h (.inr rfl)
section
variable {X : Cx}
end
section
variable {X : Cx} {elt iter tg : Expr} {ifs : List Expr} {pos : Pos} {scope : Scope} {cl : List (Str × Addr)} {N : List Str} {k : Nat} {fr : List Nat} {gt : TG} {tt : TT} {te : TE}
end
end L2

namespace L2
open PySem PySem.Spec PyProof.Rows
section
variable {fr : List Nat} {tt : TT} {te : TE}
end
end L2

namespace L2
open PySem
set_option maxRecDepth 100000
section
variable {prog : Program} {w : World} {A : Around} {E : Value → Shared → Prop} {s : Shared}
end
section
variable {X : Cx}
/-- list(reversed(xs)) -/
inductive tLRq (K : PySem.W.Frag) (Q : VK) (vs : List V) (H1 : Hp) : Prop
  | mk (a xs : _) (_ : vs = [.ref a]) (_ : SqL K H1 a xs) (_ : ∀ p, H1 p = none → Q (.ref p) (upd H1 p (.lst xs.reverse))) : tLRq K Q vs H1
def tLR (K : PySem.W.Frag) (ta : TA) : TE := fun σ H Q => ta σ H fun vs H1 => tLRq K Q vs H1
end
end L2
namespace L2
open PySem
end L2

namespace L2
open PySem
section
variable {prog : Program} {w : World} {A : Around} {E : Value → Shared → Prop} {s : Shared}
end
end L2
namespace L2
open PySem
section
variable {X : Cx}
/-- n - 1, .., 1, 0 -/
def dwn (n : Nat) : List V := (List.range n).map fun j : Nat => V.int ((n : Int) - 1 - (j : Int))
/-- list(reversed(range(n))) -/
inductive tLRRq  (Q : VK) (vs : List V) (H1 : Hp) : Prop
  | mk (n : Nat) (_ : vs = [.int (n : Int)]) (_ : n ≤ 1000) (_ : ∀ p, H1 p = none → Q (.ref p) (upd H1 p (.lst (dwn n)))) : tLRRq Q vs H1
def tLRR (ta : TA) : TE := fun σ H Q => ta σ H fun vs H1 => tLRRq Q vs H1
end
end L2
namespace L2
open PySem
end L2

namespace L2
open PySem PySem.Spec PyProof.Rows
/-! ### a list comprehension whose own names are seen by a block within it: they are cells of its frame -/
def cmpEnvN (scope : Scope) (cl : List (Str × Addr)) (C : Addr) (env : Env) : Env :=
  { scope := relabel scope env, locals := C, globals := env.globals, cells := cellsFrom (C + 1) scope.names cl, qual := env.qual, func := none, code := env.code, frame := env.frame, builtins := env.builtins }
def cmpCxN (X : Cx) (N : List Str) (scope : Scope) (cl : List (Str × Addr)) (fp : List Addr) (C : Addr) (s2 : Shared) (H2 : Hp) : Cx :=
  { prog := X.prog, w := X.w, K := X.K, mg := X.mg, base := X.base, A := X.A, N := N, s₀ := s2, H₀ := H2, env := cmpEnvN scope cl C X.env, outer := X.stack, stack := X.stack, ex := fp, fn := fun y => scope.names.lookup y == some .cell, calm := X.calm, pn := [], xe := fun _ _ => False }
structure CmpOkN (X : Cx) (N : List Str) (k : Nat) (fr : List Nat) (scope : Scope) (cl : List (Str × Addr)) : Prop where
  clos : closureFor scope X.env = pure cl
  kind : scope.kind = .function
  names : ∀ y ∈ scope.names, y.2 = .local → scope.names.lookup y.1 = some .local
  len : N.length = k + fr.length
  sub : ∀ (i : Nat) (y : Str), N[k + i]? = some y → ∃ j, fr[i]? = some j ∧ X.N[j]? = some y ∧ (X.env.kindOf y = some .cell ∨ X.env.kindOf y = some .free) ∧ ((relabel scope X.env).names.lookup y = some .cell ∨ (relabel scope X.env).names.lookup y = some .free) ∧ ∃ c, cl.lookup y = some c ∧ ∀ C : Addr, (cellsFrom (C + 1) scope.names cl).lookup y = some c
  cells : ∀ y c, cl.lookup y = some c → X.env.cells.lookup y = some c
  has : ∀ (C : Addr) (y : Str), ((relabel scope X.env).names.lookup y = some .cell ∨ (relabel scope X.env).names.lookup y = some .free) → ∃ c, (cellsFrom (C + 1) scope.names cl).lookup y = some c
section
variable {X : Cx} {elt iter tg : Expr} {ifs : List Expr} {pos : Pos} {scope : Scope} {cl : List (Str × Addr)} {N : List Str} {k : Nat} {fr : List Nat} {gt : TG} {tt : TT} {te : TE}
end
/-- the names of the def that the block sees, one by one -/
def SubN (X : Cx) (N : List Str) (scope : Scope) (cl : List (Str × Addr)) : List Nat → Nat → Prop
  | [], _ => True
  | j :: fr, i => (∃ (y : Str) (c : Addr), N[i]? = some y ∧ X.N[j]? = some y ∧ X.env.kindOf y = some .cell ∧ (relabel scope X.env).names.lookup y = some .cell ∧ cl.lookup y = some c ∧ ∀ C : Addr, (cellsFrom (C + 1) scope.names cl).lookup y = some c) ∧ SubN X N scope cl fr (i + 1)
/-! list.insert -/
inductive rInsert  (x : V) (vs : List V) (H : Hp) (Q : VK) : Prop
  | mk (l : Addr) (xs : List V) (i : Int) (k : Nat) (y : V) (_ : x = .ref l) (_ : vs = [.int i, y]) (_ : i = (k : Int)) (_ : H l = some (.lst xs)) (_ : k ≤ xs.length) (_ : xs.length < sizeLine) (_ : Q .non (upd H l (.lst (xs.take k ++ y :: xs.drop k)))) : rInsert x vs H Q
theorem mt_insert {X : Cx} : MtM X "list.insert" rInsert := by
  intro pins s σ H x vs v us Q I rx rv h
  obtain ⟨l, xs, i, k, y, rfl, rfl, hik, hH, hk, hz, q⟩ := h
  cases rx
  obtain ⟨u1, us, rfl, r1, rv2⟩ : ∃ u1 us', us = u1 :: us' ∧ RelV (.int i) u1 ∧ Vals [y] us' := by
    match us, rv with
    | u1 :: us', .cons a b => exact ⟨u1, us', rfl, a, b⟩
  obtain ⟨u, rfl, ru⟩ := rv2.one
  obtain ⟨t, rfl⟩ := r1
  obtain ⟨z, its, n, r, hl, e⟩ := I.lstM hH
  have h62 : sizeLine ≤ 2 ^ 61 := by decide
  have hfit : Builtin.List.listFitsIndex i = true := fitsIndex_both (by omega) (by omega)
  have hc0 : ¬ (!Builtin.List.listFitsIndex i) = true := by rw [hfit]; decide
  have hsz : its.toArray.size ≤ sizeLine := by rw [List.size_toArray]; omega
  refine call_meets F.slot_list_insert ⟨_, e, rfl⟩ F.entry_list_insert (F.args_list_insert_3 _ _ _) (PySem.AutoSeq1.list_insert_list_int_val_1 l its.toArray n i t u hc0 hsz) ⟨e, ?_⟩
  refine ⟨.non, _, I.lset (its' := its.take k ++ u :: its.drop k) hH e ?_ ((r.take k).append (.cons ru (r.drop k))) ?_, rfl, q⟩
  · have hk2 : ¬ (i < 0) := by omega
    have hk3 : min i.toNat its.length = k := by omega
    simp only [if_neg hk2, List.size_toArray, hk3]
    apply Array.ext'
    simp
    rw [← List.length_drop, List.take_length]
  · simp; omega
end L2

namespace L2
open PySem PySem.Spec PyProof.Rows
/-! ### list.remove of a list of ints -/
inductive rRemove (x : V) (vs : List V) (H : Hp) (Q : VK) : Prop
  | mk (l : Addr) (ks : List Int) (n : Int) (j : Nat) (_ : x = .ref l) (_ : vs = [.int n]) (_ : H l = some (.lst (ks.map V.int))) (_ : ks[j]? = some n) (_ : ∀ m, m < j → ks[m]? ≠ some n) (_ : Q .non (upd H l (.lst ((ks.eraseIdx j).map V.int)))) : rRemove x vs H Q
def eI (n : Int) : Value → Bool
  | .int a _ => a == n
  | _ => false
/-! ### for over reversed(list) -/
/-- the list at a from its end on; it has n items when the walk begins -/
def Itv (K : PySem.W.Frag) (a : Addr) (n : Nat) : It :=
  ⟨fun i H => i < n ∧ ∃ xs, SqL K H a xs ∧ xs.length = n, fun i H x H' => H' = H ∧ ∀ xs, SqL K H a xs → xs[n - 1 - i]? = some x, fun i _ => n ≤ i⟩
section
variable {X : Cx} {tg : Expr}
inductive iRevq (K : PySem.W.Frag) (R : It → Hp → Prop) (vs : List V) (H1 : Hp) : Prop
  | mk (a : Addr) (xs : List V) (_ : vs = [.ref a]) (_ : SqL K H1 a xs) (_ : R (Itv K a xs.length) H1) : iRevq K R vs H1
def iRev (K : PySem.W.Frag) (ta : TA) : TI := fun σ H R => ta σ H fun vs H1 => iRevq K R vs H1
end
/-! ### list(range(n)) -/
def upn (n : Nat) : List V := (List.range n).map fun j : Nat => V.int (j : Int)
inductive tLRgq (Q : VK) (vs : List V) (H1 : Hp) : Prop
  | mk (n : Nat) (_ : vs = [.int (n : Int)]) (_ : n ≤ 1000) (_ : ∀ p, H1 p = none → Q (.ref p) (upd H1 p (.lst (upn n)))) : tLRgq Q vs H1
def tLRg (ta : TA) : TE := fun σ H Q => ta σ H fun vs H1 => tLRgq Q vs H1
end L2

set_option Elab.async false
set_option maxRecDepth 100000
set_option maxHeartbeats 4000000
set_option linter.all false
namespace My
open PySem L2
def top (i : Nat) : Stmt := PySem.Challenge.pw_rowjudge_k17_fields_of_numbers.main.body.getD i (.Pass ⟨0, 0, 0, 0⟩)
abbrev s_all_among : Stmt := top 13
abbrev s_is_number : Stmt := top 15
abbrev s_number_of : Stmt := top 16
abbrev s_is_whole : Stmt := top 17
abbrev s_tidy : Stmt := top 22
abbrev s_both : Stmt := top 23
abbrev s_without : Stmt := top 24
abbrev s_gaps : Stmt := top 25
abbrev s_read_cell : Stmt := top 30
abbrev s_read_set : Stmt := top 31
abbrev s_read_part : Stmt := top 32
abbrev s_read_range : Stmt := top 33
abbrev s_code_in_cell : Stmt := top 34
abbrev s_read_value : Stmt := top 35
abbrev s_law_cell_at : Stmt := top 37
abbrev s_law_low : Stmt := top 38
abbrev s_law_high : Stmt := top 39
abbrev s_law_pair : Stmt := top 40
abbrev s_law_part : Stmt := top 41
abbrev s_law_odd : Stmt := top 42
abbrev s_law_merged : Stmt := top 43
abbrev s_law_others : Stmt := top 44
abbrev s_law_alike : Stmt := top 45
abbrev s_law_refused : Stmt := top 46
abbrev s_Numbers___init___Numbers : Stmt := inClass (top 19) 0
abbrev s_Domain___init___Numbers : Stmt := inClass (top 18) 0
abbrev s_Domain_whole_Numbers : Stmt := inClass (top 18) 9
abbrev s_Domain_code_Numbers : Stmt := inClass (top 18) 6
abbrev s_Numbers_borne_code_Numbers : Stmt := inClass (top 19) 2
abbrev s_Numbers_bears_Numbers : Stmt := inClass (top 19) 1
abbrev s_Domain_has_code_Numbers : Stmt := inClass (top 18) 5
abbrev s_law : Stmt := top 47
theorem sc_all_among : FnScope ["text", "signs", "sign"] ["text", "signs"] (defScope s_all_among) := ⟨rfl, rfl, rfl, by decide +kernel, rfl, by decide +kernel, by decide +kernel⟩
theorem sc_is_number : FnScope ["text", "figures"] ["text"] (defScope s_is_number) := ⟨rfl, rfl, rfl, by decide +kernel, rfl, by decide +kernel, by decide +kernel⟩
theorem sc_number_of : FnScope ["text"] ["text"] (defScope s_number_of) := ⟨rfl, rfl, rfl, by decide +kernel, rfl, by decide +kernel, by decide +kernel⟩
theorem sc_is_whole : FnScope ["value"] ["value"] (defScope s_is_whole) := ⟨rfl, rfl, rfl, by decide +kernel, rfl, by decide +kernel, by decide +kernel⟩
theorem sc_tidy : FnScope ["pairs", "spans", "low", "high"] ["pairs"] (defScope s_tidy) := ⟨rfl, rfl, rfl, by decide +kernel, rfl, by decide +kernel, by decide +kernel⟩
theorem sc_both : FnScope ["ones", "others", "shared", "at_one", "at_other", "one", "other", "low", "high"] ["ones", "others"] (defScope s_both) := ⟨rfl, rfl, rfl, by decide +kernel, rfl, by decide +kernel, by decide +kernel⟩
theorem sc_without : FnScope ["ones", "others"] ["ones", "others"] (defScope s_without) := ⟨rfl, rfl, rfl, by decide +kernel, rfl, by decide +kernel, by decide +kernel⟩
theorem sc_gaps : FnScope ["spans", "low", "high", "free", "start", "first", "last", "end"] ["spans", "low", "high"] (defScope s_gaps) := ⟨rfl, rfl, rfl, by decide +kernel, rfl, by decide +kernel, by decide +kernel⟩
theorem sc_read_cell : FnScope ["domain", "text"] ["domain", "text"] (defScope s_read_cell) := ⟨rfl, rfl, rfl, by decide +kernel, rfl, by decide +kernel, by decide +kernel⟩
theorem sc_read_set : FnScope ["domain", "text"] ["domain", "text"] (defScope s_read_set) := ⟨rfl, rfl, rfl, by decide +kernel, rfl, by decide +kernel, by decide +kernel⟩
theorem sc_read_part : FnScope ["domain", "part", "code"] ["domain", "part"] (defScope s_read_part) := ⟨rfl, rfl, rfl, by decide +kernel, rfl, by decide +kernel, by decide +kernel⟩
theorem sc_read_range : FnScope ["domain", "part", "ends", "low", "high"] ["domain", "part"] (defScope s_read_range) := ⟨rfl, rfl, rfl, by decide +kernel, rfl, by decide +kernel, by decide +kernel⟩
theorem sc_code_in_cell : FnScope ["domain", "text"] ["domain", "text"] (defScope s_code_in_cell) := ⟨rfl, rfl, rfl, by decide +kernel, rfl, by decide +kernel, by decide +kernel⟩
theorem sc_read_value : FnScope ["domain", "text"] ["domain", "text"] (defScope s_read_value) := ⟨rfl, rfl, rfl, by decide +kernel, rfl, by decide +kernel, by decide +kernel⟩
theorem sc_law_cell_at : FnScope ["script", "k"] ["script", "k"] (defScope s_law_cell_at) := ⟨rfl, rfl, rfl, by decide +kernel, rfl, by decide +kernel, by decide +kernel⟩
theorem sc_law_low : FnScope ["cell"] ["cell"] (defScope s_law_low) := ⟨rfl, rfl, rfl, by decide +kernel, rfl, by decide +kernel, by decide +kernel⟩
theorem sc_law_high : FnScope ["low", "cell", "way", "more"] ["low", "cell"] (defScope s_law_high) := ⟨rfl, rfl, rfl, by decide +kernel, rfl, by decide +kernel, by decide +kernel⟩
theorem sc_law_pair : FnScope ["cell", "low", "high", "one", "two", "way"] ["cell", "low", "high"] (defScope s_law_pair) := ⟨rfl, rfl, rfl, by decide +kernel, rfl, by decide +kernel, by decide +kernel⟩
theorem sc_law_part : FnScope ["cell", "low", "high", "pair", "way"] ["cell", "low", "high"] (defScope s_law_part) := ⟨rfl, rfl, rfl, by decide +kernel, rfl, by decide +kernel, by decide +kernel⟩
theorem sc_law_odd : FnScope ["head", "low", "high", "opposite", "single", "first", "some"] ["head", "low", "high", "opposite", "single", "first"] (defScope s_law_odd) := ⟨rfl, rfl, rfl, by decide +kernel, rfl, by decide +kernel, by decide +kernel⟩
theorem sc_law_merged : FnScope ["pairs", "told", "pair"] ["pairs"] (defScope s_law_merged) := ⟨rfl, rfl, rfl, by decide +kernel, rfl, by decide +kernel, by decide +kernel⟩
theorem sc_law_others : FnScope ["spans", "low", "high", "told", "at", "pair"] ["spans", "low", "high"] (defScope s_law_others) := ⟨rfl, rfl, rfl, by decide +kernel, rfl, by decide +kernel, by decide +kernel⟩
theorem sc_law_alike : FnScope ["found", "due", "k", "number"] ["found", "due"] (defScope s_law_alike) := ⟨rfl, rfl, rfl, by decide +kernel, rfl, by decide +kernel, by decide +kernel⟩
theorem sc_law_refused : FnScope ["domain", "text", "refused", "e"] ["domain", "text"] (defScope s_law_refused) := ⟨rfl, rfl, rfl, by decide +kernel, rfl, by decide +kernel, by decide +kernel⟩
theorem sc_Numbers___init___Numbers : FnScope ["self", "low", "high"] ["self", "low", "high"] (defScope s_Numbers___init___Numbers) := ⟨rfl, rfl, rfl, by decide +kernel, rfl, by decide +kernel, by decide +kernel⟩
theorem sc_Domain___init___Numbers : FnScope ["self", "low", "high"] ["self", "low", "high"] (defScope s_Domain___init___Numbers) := ⟨rfl, rfl, rfl, by decide +kernel, rfl, by decide +kernel, by decide +kernel⟩
theorem sc_Domain_whole_Numbers : FnScope ["self"] ["self"] (defScope s_Domain_whole_Numbers) := ⟨rfl, rfl, rfl, by decide +kernel, rfl, by decide +kernel, by decide +kernel⟩
theorem sc_Domain_code_Numbers : FnScope ["self", "value"] ["self", "value"] (defScope s_Domain_code_Numbers) := ⟨rfl, rfl, rfl, by decide +kernel, rfl, by decide +kernel, by decide +kernel⟩
theorem sc_Numbers_borne_code_Numbers : FnScope ["self", "value"] ["self", "value"] (defScope s_Numbers_borne_code_Numbers) := ⟨rfl, rfl, rfl, by decide +kernel, rfl, by decide +kernel, by decide +kernel⟩
theorem sc_Numbers_bears_Numbers : FnScope ["self", "value"] ["self", "value"] (defScope s_Numbers_bears_Numbers) := ⟨rfl, rfl, rfl, by decide +kernel, rfl, by decide +kernel, by decide +kernel⟩
theorem sc_Domain_has_code_Numbers : FnScope ["self", "value"] ["self", "value"] (defScope s_Domain_has_code_Numbers) := ⟨rfl, rfl, rfl, by decide +kernel, rfl, by decide +kernel, by decide +kernel⟩
theorem sc_law : FnScope ["script", "low", "high", "head", "domain", "parts", "due", "opposite", "spoiled", "at", "text", "found"] ["script"] (defScope s_law) := ⟨rfl, rfl, rfl, by decide +kernel, rfl, by decide +kernel, by decide +kernel⟩
structure Bl (K : PySem.W.Frag) (mg : Str → Option Value) (cTableError cBadNumber cBadDomain cBadCell cOutside cDomain cNumbers cWords : Addr) : Prop where
  TableError_ : mg "TableError" = some (.ref cTableError)
  n_TableError : PySem.W.nsIn K mainGlobals "TableError" = some (some (.ref cTableError))
  BadNumber_ : mg "BadNumber" = some (.ref cBadNumber)
  n_BadNumber : PySem.W.nsIn K mainGlobals "BadNumber" = some (some (.ref cBadNumber))
  BadDomain_ : mg "BadDomain" = some (.ref cBadDomain)
  n_BadDomain : PySem.W.nsIn K mainGlobals "BadDomain" = some (some (.ref cBadDomain))
  BadCell_ : mg "BadCell" = some (.ref cBadCell)
  n_BadCell : PySem.W.nsIn K mainGlobals "BadCell" = some (some (.ref cBadCell))
  Outside_ : mg "Outside" = some (.ref cOutside)
  n_Outside : PySem.W.nsIn K mainGlobals "Outside" = some (some (.ref cOutside))
  Domain_ : mg "Domain" = some (.ref cDomain)
  n_Domain : PySem.W.nsIn K mainGlobals "Domain" = some (some (.ref cDomain))
  Numbers_ : mg "Numbers" = some (.ref cNumbers)
  n_Numbers : PySem.W.nsIn K mainGlobals "Numbers" = some (some (.ref cNumbers))
  Words_ : mg "Words" = some (.ref cWords)
  n_Words : PySem.W.nsIn K mainGlobals "Words" = some (some (.ref cWords))
  x_BadNumber : ExcCls K cBadNumber
  l_BadNumber : ExcLook K cBadNumber
  x_BadDomain : ExcCls K cBadDomain
  l_BadDomain : ExcLook K cBadDomain
  x_BadCell : ExcCls K cBadCell
  l_BadCell : ExcLook K cBadCell
  x_Outside : ExcCls K cOutside
  l_Outside : ExcLook K cOutside
  k_Numbers : Cls K cNumbers
  t_Numbers : InsT K cNumbers
  na_Numbers_low : NoAttr K cNumbers "low"
  na_Numbers_high : NoAttr K cNumbers "high"
  f_nw : PySem.W.kitOne K (.ref cNumbers) (.ref cWords) = some false
  f_x1 : PySem.W.exmAny K (.ref cBadNumber) [.ref cBadNumber, .ref cOutside] = some true
  f_x2 : PySem.W.exmAny K (.ref cOutside) [.ref cBadNumber, .ref cOutside] = some true
  f_c0 : PySem.W.exmOne K (.ref cBadCell) (.ref cTableError) = some true
  f_c1 : PySem.W.kitOne K (.ref cBadCell) (.ref cBadCell) = some true
  f_c2 : PySem.W.kitOne K (.ref cBadCell) (.type "ValueError") = some true
  f_c3 : PySem.W.kitAny K (.ref cBadCell) [.ref cBadNumber, .ref cOutside] = some false
  len_ : mg "len" = none
  int_ : mg "int" = none
  isinstance_ : mg "isinstance" = none
  bool_ : mg "bool" = none
  sorted_ : mg "sorted" = none
  max_ : mg "max" = none
  min_ : mg "min" = none
  str_ : mg "str" = none
  abs_ : mg "abs" = none
  range_ : mg "range" = none
  list_ : mg "list" = none
  tuple_ : mg "tuple" = none
  ValueError_ : mg "ValueError" = none
  MOST_FIGURES_ : ∃ u, mg "MOST_FIGURES" = some u ∧ RelV (V.int 60) u
  FIGURES_ : ∃ u, mg "FIGURES" = some u ∧ RelV (V.str "0123456789") u
  NOT_ : ∃ u, mg "NOT" = some u ∧ RelV (V.str "not ") u
  ALL_ : ∃ u, mg "ALL" = some u ∧ RelV (V.str "-") u
  UP_TO_ : ∃ u, mg "UP_TO" = some u ∧ RelV (V.str "..") u
theorem getI {xs : List V} {i : Nat} {x : V} (e : xs[i]? = some x) : atI xs (0 + (i : Int)) = some x := by
  rw [Int.zero_add]; exact atI_nat e
theorem z0 (a b : Int) : atI [V.int a, V.int b] 0 = some (V.int a) := rfl
theorem z1 (a b : Int) : atI [V.int a, V.int b] 1 = some (V.int b) := rfl
theorem ret_r1 {H : Hp} {r : Addr} {o : HO} {b : Addr} {u : HO} (h : H r = some u) (n : H b = none) : upd H b o r = some u := by rw [upd_ne (ne_of_none h n)]; exact h
theorem ixN_last {n : Nat} (h : 0 < n) : ixN n (-1) = some (n - 1) := by
  unfold ixN
  rw [if_neg (by decide), if_pos (by omega)]
  congr 1
  omega
theorem set_last {α : Type} (l : List α) (x y : α) : (l ++ [x]).set ((l ++ [x]).length - 1) y = l ++ [y] := by
  have e : (l ++ [x]).length - 1 = l.length := by simp
  rw [e, List.set_append_right _ _ (Nat.le_refl _), Nat.sub_self]
  rfl
theorem take_snoc {α : Type} {l : List α} {i : Nat} {x : α} (e : l[i]? = some x) : l.take (i + 1) = l.take i ++ [x] := by rw [List.take_add_one, e]; rfl
/-- the pairs ahead of place i are not above it -/
theorem sorted_le {qs : List (Int × Int)} (h : qs.Pairwise fun p q => ltP q p = false) {i : Nat} {p : Int × Int} (e : qs[i]? = some p) : ∀ q ∈ qs.take i, q.1 ≤ p.1 := fun q hq => by
  obtain ⟨hi, rfl⟩ := List.getElem?_eq_some_iff.mp e
  obtain ⟨j, hj, rfl⟩ := List.mem_take_iff_getElem.mp hq
  have z := List.pairwise_iff_getElem.mp h j i (by omega) hi (by omega)
  simp only [ltP, Bool.or_eq_false_iff, decide_eq_false_iff_not] at z
  omega
theorem of_map {ns : List Int} {i : Nat} {x : V} (e : (ns.map V.int)[i]? = some x) : ∃ c, x = .int c ∧ ns[i]? = some c := by
  rw [List.getElem?_map] at e
  cases q : ns[i]? with
  | none => rw [q] at e; cases e
  | some c => rw [q] at e; cases e; exact ⟨c, rfl, rfl⟩
def lets : Str := "abcdefghijklmnopqrstuvwxyz"
def isw (z : Str) : Bool := decide ((1 : Int) ≤ ((z.length : Nat) : Int)) && (decide (((z.length : Nat) : Int) ≤ 12) && (!decide (V.str z = V.str "not") && allIn z lets))
theorem all_no {l : List Nat} {i : Nat} {c : Nat} {p : Nat → Bool} (e : l[i]? = some c) (h : p c = false) : l.all p = false := by
  cases q : l.all p with
  | false => rfl
  | true => rw [List.all_eq_true.mp q c (List.mem_of_getElem? e)] at h; cases h
theorem all_succ {l : List Nat} {i : Nat} {c : Nat} {p : Nat → Bool} (e : l[i]? = some c) (h : p c = true) (ha : (l.take i).all p = true) : (l.take (i + 1)).all p = true := by
  rw [take_snoc e, List.all_append, ha]; simp [h]
theorem all_done {z g : Str} (h : (z.cps.toList.take z.cps.size).all (sg g) = true) : allIn z g = true := by
  have e : z.cps.toList.take z.cps.size = z.cps.toList := by rw [← Array.length_toList]; exact List.take_length
  rw [e] at h; exact h
theorem not_sg {g : Str} {c : Nat} (h : (!(!(Builtin.Str.occurrences g ⟨#[c]⟩ 0 g.length 1).isEmpty)) = true) : sg g c = false := by unfold sg; simpa using h
theorem is_sg {g : Str} {c : Nat} (h : ¬ (!(!(Builtin.Str.occurrences g ⟨#[c]⟩ 0 g.length 1).isEmpty)) = true) : sg g c = true := by unfold sg; simpa using h
theorem big {n : Nat} (h : n ≤ 1000) : n ≤ sizeLine := Nat.le_of_lt (small1000 h)
/-- texts of few, small signs -/
structure Sm (n : Nat) (z : Str) : Prop where
  len : z.length ≤ n
  low : ∀ c ∈ z.cps.toList, c < 16 ^ 8
theorem low_of (s : String) : ∀ c ∈ (Str.ofString s).cps.toList, c < 16 ^ 8 := fun c hc => by
  rw [Str.ofString_eq_toList] at hc
  simp only [List.mem_map] at hc
  obtain ⟨ch, _, rfl⟩ := hc
  exact ch.val.toNat_lt
theorem Sm.of (s : String) {n : Nat} (h : (Str.ofString s).length ≤ n) : Sm n (Str.ofString s) := ⟨h, low_of s⟩
def Pl : V → Prop
  | .non => True
  | .bl _ => True
  | .int _ => True
  | .str _ => True
  | _ => False
theorem shw_pl {v : V} (h : Shw v) : Pl v := by cases h <;> trivial
def isI : V → Bool
  | .int _ => true
  | _ => false
def bnd (i : Int) : Prop := i.natAbs < 10 ^ 60
theorem Tn : ((10 : Int) ^ (60 : Int).toNat) = ((10 ^ 60 : Nat) : Int) := by decide +kernel
theorem len_num {i : Int} (h : bnd i) : (Str.ofString (toString i)).length ≤ 61 := by
  have e : (Str.ofString (toString i)).length = (toString i).length := by
    rw [Str.ofString_eq_toList]
    show (List.map Char.toNat (toString i).toList).toArray.size = _
    rw [List.size_toArray, List.length_map]
    exact String.length_toList
  rw [e]
  exact int_text_length_le10 (by decide) h
/-- the new instance -/
def mkd (C : Addr) (H : Hp) (x dx : Addr) (lo hi : Int) : Hp := upd (upd H x (.ins C dx [("low", .int lo)])) x (.ins C dx [("low", .int lo), ("high", .int hi)])
theorem mkd_same {C : Addr} {H : Hp} {x dx : Addr} (lo hi : Int) (hx : H x = none) (hd : H dx = none) (hne : dx ≠ x) : Same H (mkd C (upd (upd H dx (.own x)) x (.ins C dx [])) x dx lo hi) := by
  unfold mkd
  exact ((((same_new hd _).upd hx).upd hx).upd hx)
theorem put2 (v u : V) : putF (Str.ofString "high") u [(Str.ofString "low", v)] = [(Str.ofString "low", v), (Str.ofString "high", u)] := by
  unfold putF putF
  rw [if_neg (by decide)]
def hiW (zs : List Str) : Int := ((zs.length : Nat) : Int) - 1
def Wrd (C : Addr) (H : Hp) (a : Addr) (zs : List Str) : Prop := ∃ dx l, H a = some (.ins C dx [("low", .int 0), ("high", .int (hiW zs)), ("words", .ref l)]) ∧ H l = some (.lst (zs.map V.str))
structure Good (zs : List Str) : Prop where
  some_ : 1 ≤ zs.length
  few : zs.length ≤ 40
  words : ∀ z ∈ zs, isw z = true
  once : zs.Nodup
def inW (zs : List Str) : V → Bool
  | .str z => decide (z ∈ zs)
  | _ => false
theorem get_strs {zs : List Str} {i : Nat} {x : V} (e : (zs.map V.str)[i]? = some x) : ∃ z, x = .str z ∧ zs[i]? = some z := by
  rw [List.getElem?_map] at e
  cases q : zs[i]? with
  | none => rw [q] at e; cases e
  | some z => rw [q] at e; cases e; exact ⟨z, rfl, rfl⟩
theorem put_strs {zs : List Str} {i : Nat} {z : Str} (e : zs[i]? = some z) : (zs.map V.str)[i]? = some (.str z) := by rw [List.getElem?_map, e]; rfl
def inB (lo hi : Int) : V → Bool
  | .int i => decide (lo ≤ i) && decide (i ≤ hi)
  | _ => false
def First (zs : List Str) (z : Str) (j : Nat) : Prop := zs[j]? = some z ∧ ∀ (m : Nat) (u : Str), m < j → zs[m]? = some u → u ≠ z
theorem pos6' : (0 : Int) < 10 ^ (60 : Int).toNat := by rw [Tn]; decide
theorem at_strs {zs : List Str} {k : Int} (h0 : 0 ≤ k) (h1 : k < ((zs.length : Nat) : Int)) : ∃ z, z ∈ zs ∧ atI (zs.map V.str) k = some (.str z) := by
  have hk : k.toNat < zs.length := by omega
  refine ⟨zs[k.toNat], List.getElem_mem hk, ?_⟩
  have z := atI_nat (put_strs (List.getElem?_eq_getElem hk))
  rw [show ((k.toNat : Nat) : Int) = k by omega] at z
  exact z
def yn : List Str := [Str.ofString "yes", Str.ofString "no"]
def Num (C : Addr) (H : Hp) (a : Addr) (lo hi : Int) : Prop := ∃ dx, H a = some (.ins C dx [("low", .int lo), ("high", .int hi)])
theorem Num.same {C : Addr} {H H' : Hp} {a : Addr} {lo hi : Int} (h : Num C H a lo hi) (s : Same H H') : Num C H' a lo hi := by obtain ⟨dx, e⟩ := h; exact ⟨dx, s _ _ e⟩
theorem key6 (x : Int) : bnd (x % (2 * 10 ^ (60 : Int).toNat - 1) - 10 ^ (60 : Int).toNat + 1) := by
  unfold bnd
  rw [Tn]
  have e0 : (0 : Int) < 2 * ((10 ^ 60 : Nat) : Int) - 1 := by decide
  have h0 := Int.emod_nonneg x (Int.ne_of_gt e0)
  have h1 := Int.emod_lt_of_pos x e0
  generalize (10 ^ 60 : Nat) = T at e0 h0 h1 ⊢
  omega
theorem pos6 : (0 : Int) < 2 * 10 ^ (60 : Int).toNat - 1 := by rw [Tn]; decide
theorem mkd_num (C : Addr) (H : Hp) (x dx : Addr) (lo hi : Int) : Num C (mkd C H x dx lo hi) x lo hi := ⟨dx, upd_same⟩
/-- two domains, as the law keeps them -/
structure Two (C : Addr) (H : Hp) (e d : Addr) (t0 t1 x0 x1 : Addr) (p0 p1 : Int × Int) : Prop where
  ends : H e = some (.lst [.ref t0, .ref t1])
  doms : H d = some (.lst [.ref x0, .ref x1])
  e0 : H t0 = some (.tup [.int p0.1, .int p0.2])
  e1 : H t1 = some (.tup [.int p1.1, .int p1.2])
  d0 : Num C H x0 p0.1 p0.2
  d1 : Num C H x1 p1.1 p1.2
structure Gd (p : Int × Int) : Prop where
  le : p.1 ≤ p.2
  lo : bnd p.1
  hi : bnd p.2
def ten : Str := "0123456789"
def figz (z : Str) : Str := if Txt.startswith z "-" = true then Txt.slice z (some 1) none else z
def isn (z : Str) : Bool := decide (V.str z = V.str "0") || (decide ((1 : Int) ≤ (((figz z).length : Nat) : Int)) && (decide ((((figz z).length : Nat) : Int) ≤ 60) && (!decide (V.str ⟨#[(figz z).cps.toList.headD 0]⟩ = V.str "0") && allIn (figz z) ten)))
theorem figz_len (z : Str) : (figz z).length ≤ z.length := by
  unfold figz
  by_cases h : Txt.startswith z "-" = true
  · rw [if_pos h]; exact Txt.slice_le _ _ _
  · rw [if_neg h]; exact Nat.le_refl _
theorem head_at {z : Str} (h : 1 ≤ z.length) : atI z.cps.toList 0 = some (z.cps.toList.headD 0) := by
  have e : z.cps.toList.length = z.length := by simp [Str.length]
  cases hc : z.cps.toList with
  | nil => rw [hc] at e; simp at e; omega
  | cons c r => exact atI_nat (j := 0) (show (c :: r)[0]? = some c from rfl)
theorem sg_ten {c : Nat} (h : 48 ≤ c ∧ c ≤ 57) : sg ten c = true := by
  have : c = 48 ∨ c = 49 ∨ c = 50 ∨ c = 51 ∨ c = 52 ∨ c = 53 ∨ c = 54 ∨ c = 55 ∨ c = 56 ∨ c = 57 := by omega
  rcases this with rfl | rfl | rfl | rfl | rfl | rfl | rfl | rfl | rfl | rfl <;> decide +kernel
theorem slice1 {c : Nat} {cs : List Nat} : Txt.slice ⟨(c :: cs).toArray⟩ (some 1) none = ⟨cs.toArray⟩ := by
  have h := StrLaws.sliceText_from (x := ⟨(c :: cs).toArray⟩) (i := 1) ⟨by decide, by simp; omega⟩
  have e : Txt.slice ⟨(c :: cs).toArray⟩ (some 1) none = StrLaws.sliceText ⟨(c :: cs).toArray⟩ (some 1) none := rfl
  rw [e, h]
  simp
theorem starts_minus {c : Nat} {cs : List Nat} : Txt.startswith ⟨(c :: cs).toArray⟩ "-" = (c == 45) := by
  have e : (Str.ofString "-") = ⟨#[45]⟩ := by decide +kernel
  show Txt.startswith ⟨(c :: cs).toArray⟩ (Str.ofString "-") = _
  rw [e]
  unfold Txt.startswith Builtin.Str.subAt
  simp [Str.length, List.extract_toArray]

/-- the number that a text writes -/
def valz (z : Str) : Int := if Txt.startswith z "-" = true then -((PySem.NumText.digitsVal (figz z).cps.toList : Nat) : Int) else ((PySem.NumText.digitsVal (figz z).cps.toList : Nat) : Int)
def dueV (z : Str) : V := if isn z = true then .int (valz z) else .non
theorem ten_mem {c : Nat} : sg ten c = decide (48 ≤ c ∧ c ≤ 57) := by
  unfold sg
  rw [PySem.StrLaws.found_one]
  have e : ten.cps.toList = [48, 49, 50, 51, 52, 53, 54, 55, 56, 57] := by decide +kernel
  rw [e]
  apply decide_eq_decide.mpr
  simp only [List.mem_cons, List.not_mem_nil, or_false]
  omega
theorem allIn_ten {z : Str} (h : allIn z ten = true) : PySem.NumText.AllDigits z.cps.toList := fun c hc => by
  have := List.all_eq_true.mp h c hc
  rw [ten_mem] at this
  exact of_decide_eq_true this
theorem z_cs (z : Str) : z = ⟨z.cps.toList.toArray⟩ := by simp
theorem isn_law (z : Str) : isn z = (decide ((1 : Int) ≤ (((figz z).length : Nat) : Int)) && (decide ((((figz z).length : Nat) : Int) ≤ 60) && (!(decide (V.str ⟨#[(figz z).cps.toList.headD 0]⟩ = V.str "0") && !decide (V.str z = V.str "0")) && allIn (figz z) ten))) := by
  unfold isn
  by_cases h : V.str z = V.str (Str.ofString "0")
  · have hz : z = Str.ofString "0" := by injection h
    subst hz
    decide +kernel
  · rw [decide_eq_false h]; simp
/-- what int(..) reads of it -/
theorem read_z {z : Str} (h : isn z = true) (hl : z.length ≤ 600) : PySem.intText? z = some (valz z) := by
  rw [isn_law] at h
  simp only [Bool.and_eq_true, decide_eq_true_eq] at h
  obtain ⟨h1, h2, h3, h4⟩ := h
  have ad := allIn_ten h4
  have ne : (figz z).cps.toList ≠ [] := fun e => by
    have : (figz z).cps.toList.length = (figz z).length := by simp [Str.length]
    rw [e] at this; simp at this; omega
  unfold valz
  by_cases hm : Txt.startswith z "-" = true
  · rw [if_pos hm]
    have ez : z.cps.toList = 45 :: (figz z).cps.toList := by
      have key : ∀ cs : List Nat, Txt.startswith ⟨cs.toArray⟩ "-" = true → cs = 45 :: (figz ⟨cs.toArray⟩).cps.toList := fun cs hc => by
        cases cs with
        | nil => exact absurd hc (by decide +kernel)
        | cons c r =>
          unfold figz
          rw [if_pos hc, slice1]
          rw [starts_minus] at hc
          have : c = 45 := by simpa using hc
          rw [this]
      have := key z.cps.toList (by rw [← z_cs]; exact hm)
      rw [← z_cs] at this
      exact this
    exact intText_neg ez ad ne (by omega)
  · rw [if_neg hm]
    have ef : figz z = z := by unfold figz; rw [if_neg hm]
    rw [ef] at ad ne ⊢
    exact intText_digits ad ne (by omega)
def tx1 : List Str := [Str.ofString "0", "-0", "", "-", "00", "-01", "7", "-7", "+7", " 7", "7 ", "--1", "1-", Str.ofString "1" ++ Txt.mul (Str.ofString "0") 59]
def tx2 : List Str := [Str.ofString "1" ++ Txt.mul (Str.ofString "0") 60, Str.ofString "-" ++ Txt.mul (Str.ofString "9") 60, "1_0", "7\n", "\n7"]
theorem isn_num {n : Int} {cs : List Nat} (F : Figs cs) (hv : PySem.NumText.digitsVal cs = n.natAbs) (hl : cs.length ≤ 60) : isn ⟨(numCs n cs).toArray⟩ = true := by
  obtain ⟨c, r, rfl⟩ : ∃ c r, cs = c :: r := by
    cases cs with
    | nil => exact absurd rfl F.ne
    | cons c r => exact ⟨c, r, rfl⟩
  have hc := F.all c List.mem_cons_self
  have hall : allIn ⟨(c :: r).toArray⟩ ten = true := by
    unfold allIn
    rw [List.all_eq_true]
    intro x hx
    exact sg_ten (F.all x (by simpa using hx))
  have core : ∀ (g1 : figz ⟨(numCs n (c :: r)).toArray⟩ = ⟨(c :: r).toArray⟩), 49 ≤ c → isn ⟨(numCs n (c :: r)).toArray⟩ = true := fun g1 h49 => by
    unfold isn
    rw [g1, hall]
    have l1 : ((⟨(c :: r).toArray⟩ : Str).length : Int) = ((r.length + 1 : Nat) : Int) := by simp [Str.length]
    rw [l1]
    have e0 : (Str.ofString "0") = ⟨#[48]⟩ := by decide +kernel
    have n0 : ¬ (V.str ⟨#[c]⟩ = V.str (Str.ofString "0")) := by
      rw [e0]; intro z; injection z with z; injection z with z; injection z with z; injection z with z; omega
    have l2 : r.length + 1 ≤ 60 := by simpa using hl
    rw [decide_eq_true (show (1 : Int) ≤ ((r.length + 1 : Nat) : Int) by omega), decide_eq_true (show ((r.length + 1 : Nat) : Int) ≤ 60 by omega)]
    show (_ || (true && (true && (!decide (V.str ⟨#[c]⟩ = V.str (Str.ofString "0")) && true)))) = true
    rw [decide_eq_false n0]; simp
  by_cases hn : n < 0
  · have e : numCs n (c :: r) = 45 :: c :: r := by unfold numCs; rw [if_pos hn]
    have g1 : figz ⟨(numCs n (c :: r)).toArray⟩ = ⟨(c :: r).toArray⟩ := by
      unfold figz
      rw [e, starts_minus, if_pos (by decide), slice1]
    refine core g1 ?_
    rcases F.one with h1 | ⟨c', r', h1, h2⟩
    · have hr : r = [] := by simpa using h1
      subst hr
      rw [dv_cons] at hv
      simp [PySem.NumText.digitsVal] at hv
      omega
    · cases h1; exact h2
  · have e : numCs n (c :: r) = c :: r := by unfold numCs; rw [if_neg hn]
    rcases F.one with h1 | ⟨c', r', h1, h2⟩
    · have hr : r = [] := by simpa using h1
      subst hr
      by_cases h48 : c = 48
      · subst h48
        have e0 : (Str.ofString "0") = ⟨#[48]⟩ := by decide +kernel
        unfold isn
        rw [e]
        rw [decide_eq_true (show V.str ⟨[48].toArray⟩ = V.str (Str.ofString "0") by rw [e0])]
        rfl
      · refine core ?_ (by omega)
        unfold figz
        rw [e, starts_minus, if_neg (by simp; omega)]
    · cases h1
      refine core ?_ h2
      unfold figz
      rw [e, starts_minus, if_neg (by simp; omega)]
def nums0 : List Int := [0, 1, -1, 10, -100, 10 ^ (60 : Int).toNat - 1, 1 - 10 ^ (60 : Int).toNat]
theorem figs_of (m : Nat) : ∃ cs : List Nat, Figs cs ∧ PySem.NumText.digitsVal cs = m := by
  induction m using Nat.strongRecOn with
  | _ m ih =>
    by_cases h : m < 10
    · refine ⟨[48 + m], ⟨fun c hc => ?_, .inl rfl⟩, ?_⟩
      · rw [show c = 48 + m by simpa using hc]; omega
      · rw [dv_cons]; simp [PySem.NumText.digitsVal]
    · obtain ⟨cs, F, hv⟩ := ih (m / 10) (by omega)
      refine ⟨cs ++ [48 + m % 10], ⟨fun c hc => ?_, .inr ?_⟩, ?_⟩
      · rcases List.mem_append.mp hc with hc | hc
        · exact F.all c hc
        · rw [show c = 48 + m % 10 by simpa using hc]; omega
      · rcases F.one with e | ⟨c, r, rfl, hc⟩
        · match cs, e with
          | [c], _ =>
            refine ⟨c, [48 + m % 10], rfl, ?_⟩
            rw [dv_cons] at hv
            simp [PySem.NumText.digitsVal] at hv
            omega
        · exact ⟨c, r ++ [48 + m % 10], rfl, hc⟩
      · unfold PySem.NumText.digitsVal at hv ⊢
        rw [List.foldl_append, hv]
        simp
        omega
theorem num_txt {n : Int} (h : bnd n) : isn (Str.ofString (toString n)) = true ∧ valz (Str.ofString (toString n)) = n := by
  obtain ⟨cs, F, hv⟩ := figs_of n.natAbs
  have hl := F.short (k := 60) (by decide) (by rw [hv]; exact h)
  have et := text_of F hv
  have hi : isn (Str.ofString (toString n)) = true := by rw [et]; exact isn_num F hv hl
  refine ⟨hi, ?_⟩
  have h1 := read_z hi (Nat.le_trans (len_num h) (by decide))
  have h2 : PySem.intText? (Str.ofString (toString n)) = some n := by rw [et]; exact read_of F hv hl
  rw [h1] at h2
  exact Option.some.inj h2
theorem dv_lt : ∀ {cs : List Nat}, PySem.NumText.AllDigits cs → PySem.NumText.digitsVal cs < 10 ^ cs.length
  | [], _ => by decide
  | c :: r, h => by
    have h1 := h c (by simp)
    have h2 := dv_lt (cs := r) fun x hx => h x (List.mem_cons_of_mem _ hx)
    rw [dv_cons, List.length_cons, Nat.pow_succ]
    have h3 : (c - 48) * 10 ^ r.length ≤ 9 * 10 ^ r.length := Nat.mul_le_mul_right _ (by omega)
    omega
theorem isn_zero {cs : List Nat} (h : cs ≠ []) : isn ⟨(48 :: cs).toArray⟩ = false := by
  have f : figz ⟨(48 :: cs).toArray⟩ = ⟨(48 :: cs).toArray⟩ := by
    unfold figz
    rw [starts_minus, if_neg (by decide)]
  have e0 : Str.ofString "0" = ⟨#[48]⟩ := by decide +kernel
  have e1 : decide (V.str ⟨(48 :: cs).toArray⟩ = V.str "0") = false := decide_eq_false fun e => by
    have e : V.str ⟨(48 :: cs).toArray⟩ = V.str (Str.ofString "0") := e
    rw [e0] at e
    injection e with e
    injection e with e
    have e : 48 :: cs = [48] := by simpa using congrArg Array.toList e
    injection e with _ e
    exact h e
  have e2 : decide (V.str ⟨#[(⟨(48 :: cs).toArray⟩ : Str).cps.toList.headD 0]⟩ = V.str "0") = true := decide_eq_true (by
    show V.str ⟨#[48]⟩ = V.str (Str.ofString "0")
    rw [e0])
  unfold isn
  rw [f, e1, e2]
  simp
theorem log_sm1 {n : Int} (h : n.natAbs ≤ 10 ^ 60) : n.natAbs.log2 < 1920 := by
  by_cases z : n.natAbs = 0
  · rw [z]; decide
  · have := (Nat.log2_lt (k := 200) z).mpr (Nat.lt_of_le_of_lt h (by decide))
    omega
theorem isn_parts {z : Str} (h : isn z = true) : Figs (figz z).cps.toList ∧ (figz z).cps.toList.length ≤ 60 ∧ tl z = numCs (valz z) (figz z).cps.toList ∧ PySem.NumText.digitsVal (figz z).cps.toList = (valz z).natAbs := by
  have h0 := h
  rw [isn_law] at h
  simp only [Bool.and_eq_true, decide_eq_true_eq, Bool.not_eq_true', Bool.and_eq_false_iff, Bool.not_eq_false'] at h
  obtain ⟨h1, h2, h3, h4⟩ := h
  have ad := allIn_ten h4
  have hlen : (figz z).cps.toList.length = (figz z).length := by simp [Str.length]
  obtain ⟨c, r, ecr⟩ : ∃ c r, (figz z).cps.toList = c :: r := by
    cases hh : (figz z).cps.toList with
    | nil => rw [hh] at hlen; simp at hlen; omega
    | cons c r => exact ⟨c, r, rfl⟩
  have hc := ad c (by rw [ecr]; simp)
  have hz0 : z ≠ Str.ofString "0" → c ≠ 48 := fun hz e => by
    rcases h3 with h3 | h3
    · have : V.str ⟨#[(figz z).cps.toList.headD 0]⟩ = V.str (Str.ofString "0") := by
        rw [ecr, e]
        rfl
      exact absurd this (of_decide_eq_false h3)
    · have := h3
      exact hz (by injection this)
  have F : Figs (figz z).cps.toList := by
    refine ⟨ad, ?_⟩
    by_cases hz : z = Str.ofString "0"
    · left
      subst hz
      decide +kernel
    · right
      exact ⟨c, r, ecr, by have := hz0 hz; omega⟩
  have hv0 : Txt.startswith z "-" = true → 0 < PySem.NumText.digitsVal (figz z).cps.toList := fun hm => by
    have hz : z ≠ Str.ofString "0" := fun e => by rw [e] at hm; exact absurd hm (by decide +kernel)
    have := hz0 hz
    rw [ecr, dv_cons]
    have h5 : 1 * 10 ^ r.length ≤ (c - 48) * 10 ^ r.length := Nat.mul_le_mul_right _ (by omega)
    have h6 : 0 < 10 ^ r.length := Nat.pow_pos (by decide)
    omega
  refine ⟨F, by omega, ?_, ?_⟩
  · by_cases hm : Txt.startswith z "-" = true
    · have key : ∀ cs : List Nat, Txt.startswith ⟨cs.toArray⟩ "-" = true → cs = 45 :: (figz ⟨cs.toArray⟩).cps.toList := fun cs hc => by
        cases cs with
        | nil => exact absurd hc (by decide +kernel)
        | cons c r =>
          unfold figz
          rw [if_pos hc, slice1]
          rw [starts_minus] at hc
          have : c = 45 := by simpa using hc
          rw [this]
      have ez := key z.cps.toList (by rw [← z_cs]; exact hm)
      rw [← z_cs] at ez
      have hneg : valz z < 0 := by
        unfold valz
        rw [if_pos hm]
        have := hv0 hm
        omega
      unfold numCs
      rw [if_pos hneg]
      exact ez
    · have ef : figz z = z := by unfold figz; rw [if_neg hm]
      have hnn : ¬ valz z < 0 := by
        unfold valz
        rw [if_neg hm]
        omega
      unfold numCs
      rw [if_neg hnn, ef]
      rfl
  · unfold valz
    split <;> omega
theorem isn_nodot {z : Str} (h : isn z = true) : 46 ∉ tl z := fun m => by
  obtain ⟨F, _, e, _⟩ := isn_parts h
  rw [e] at m
  unfold numCs at m
  have no : ∀ c ∈ (figz z).cps.toList, c ≠ 46 := fun c hc z => by have := F.all c hc; omega
  split at m
  · rcases List.mem_cons.mp m with m | m
    · exact absurd m (by decide)
    · exact no _ m rfl
  · exact no _ m rfl
theorem isn_bnd {z : Str} (h : isn z = true) : bnd (valz z) := by
  obtain ⟨F, l, _, d⟩ := isn_parts h
  unfold bnd
  rw [← d]
  exact Nat.lt_of_lt_of_le (dv_lt F.all) (Nat.pow_le_pow_right (by decide) l)
theorem len_join (m : Str) (k : Nat) : ∀ {P : List Str}, (∀ p ∈ P, (tl p).length ≤ k) → (tl (Str.join m P)).length ≤ P.length * (k + (tl m).length)
  | [], _ => Nat.zero_le _
  | [x], h => by
    have := h x (by simp)
    show (tl x).length ≤ 1 * _
    omega
  | x :: y :: r, h => by
    have h1 := h x (by simp)
    have h2 := len_join m k (P := y :: r) fun p hp => h p (List.mem_cons_of_mem _ hp)
    rw [tl_join, List.length_append, List.length_append, List.length_cons, Nat.succ_mul]
    omega
def inD (z : Str) : Bool := !(Builtin.Str.occurrences z dots 0 z.length 1).isEmpty
theorem part_sm {n : Nat} {z : Str} (h : Sm n z) (hd : inD z = true) : Sm n (Txt.partition z dots).1 ∧ Sm n (Txt.partition z dots).2.2 := by
  have e := part_is hd
  have hl := h.len
  rw [← tl_len, e, List.length_append, List.length_append] at hl
  refine ⟨⟨by rw [← tl_len]; omega, fun c hc => h.low c ?_⟩, ⟨by rw [← tl_len]; omega, fun c hc => h.low c ?_⟩⟩
  · show c ∈ tl z
    rw [e]; exact List.mem_append_left _ hc
  · show c ∈ tl z
    rw [e]; exact List.mem_append_right _ (List.mem_append_right _ hc)
abbrev Dm := Sum (Int × Int) (List Str)
def DmOf (cN cW : Addr) (H : Hp) (a : Addr) : Dm → Prop
  | .inl p => Num cN H a p.1 p.2
  | .inr zs => Wrd cW H a zs
def cutS (zs : List Str) (lo hi : Option Int) : List Str := (zs.drop (HT.sIx zs.length 0 lo)).take (HT.sIx zs.length zs.length hi - HT.sIx zs.length 0 lo)
theorem sum_le {zs : List Str} {m : Nat} (h : ∀ z ∈ zs, z.length ≤ m) : (zs.map (·.length)).sum ≤ zs.length * m := by
  induction zs with
  | nil => simp
  | cons z zs ih =>
    have h1 := h z (by simp)
    have h2 := ih fun y hy => h y (List.mem_cons_of_mem _ hy)
    rw [List.map_cons, List.sum_cons, List.length_cons, Nat.succ_mul]
    omega
theorem join_ok {zs : List Str} {m n : Nat} (h : ∀ z ∈ zs, z.length ≤ m) (hl : zs.length ≤ n) (hm : n * m + n * 64 ≤ 16777216) : (zs.map (·.length)).sum + zs.length * 64 ≤ 16777216 := by
  have h1 := sum_le h
  have h2 : zs.length * m ≤ n * m := Nat.mul_le_mul_right m hl
  have h3 : zs.length * 64 ≤ n * 64 := Nat.mul_le_mul_right 64 hl
  omega
def pairEq (p q : Pr) : Bool := eqV (.int p.1) (.int q.1) && eqV (.int p.2) (.int q.2)
def shN (lo hi : Int) (p : Pr) : Str := if p.1 = p.2 then Str.ofString (toString p.1) else if p.1 = lo then Str.ofString ".." ++ Str.ofString (toString p.2) else if p.2 = hi then Str.ofString (toString p.1) ++ Str.ofString ".." else Str.ofString (toString p.1) ++ Str.ofString ".." ++ Str.ofString (toString p.2)
theorem dots2 : (Str.ofString "..").length = 2 := by decide +kernel
theorem len_ap (a b : Str) : (a ++ b).length = a.length + b.length := by
  show (Str.append a b).length = _
  unfold Str.append Str.length
  simp
abbrev Prs := List (Int × Int)
def lohi : Dm → Int × Int
  | .inl p => p
  | .inr zs => (0, hiW zs)
def fstW : List Str → Str → Option Nat
  | [], _ => none
  | y :: ys, z => if y = z then some 0 else (fstW ys z).map (· + 1)
def codeOf : Dm → Str → Option Int
  | .inl p, z => if isn z = true ∧ p.1 ≤ valz z ∧ valz z ≤ p.2 then some (valz z) else none
  | .inr zs, z => (fstW zs z).map fun j => (j : Int)
def endOf (p : Int × Int) (c : Int) (z : Str) : Option Int := if ((z.length : Int) != 0) = true then codeOf (.inl p) z else some c
def rangeOf (p : Int × Int) (z : Str) : Option (Int × Int) := if z = dots then none else
  match endOf p p.1 (Txt.partition z dots).1, endOf p p.2 (Txt.partition z dots).2.2 with
  | some l, some h => if l > h then none else some (l, h)
  | _, _ => none
def partOf : Dm → Str → Option (Int × Int)
  | .inl p, z => if inD z = true then rangeOf p z else (codeOf (.inl p) z).map fun c => (c, c)
  | .inr zs, z => (codeOf (.inr zs) z).map fun c => (c, c)
def allP (f : Str → Option (Int × Int)) : List Str → Option Prs
  | [] => some []
  | z :: r => match f z, allP f r with
    | some p, some ps => some (p :: ps)
    | _, _ => none
def partsOf (d : Dm) (z : Str) : Option Prs := if z = Str.ofString "-" then some [lohi d] else allP (partOf d) (Txt.split z mk2)
theorem inB_iff {lo hi v : Int} : inB lo hi (.int v) = true ↔ lo ≤ v ∧ v ≤ hi := by
  show (decide (lo ≤ v) && decide (v ≤ hi)) = true ↔ _
  simp
theorem code_in {p : Int × Int} {z : Str} (h1 : isn z = true) (h2 : inB p.1 p.2 (.int (valz z)) = true) : codeOf (.inl p) z = some (valz z) := if_pos ⟨h1, inB_iff.mp h2⟩
theorem code_out {p : Int × Int} {z : Str} (h : ¬ (isn z = true ∧ inB p.1 p.2 (.int (valz z)) = true)) : codeOf (.inl p) z = none := if_neg fun g => h ⟨g.1, inB_iff.mpr g.2⟩
theorem range_none {p : Int × Int} {z : Str} (h : endOf p p.1 (Txt.partition z dots).1 = none ∨ endOf p p.2 (Txt.partition z dots).2.2 = none) : rangeOf p z = none := by
  unfold rangeOf
  split
  · rfl
  · rcases h with h | h
    · rw [h]
    · rw [h]
      cases endOf p p.1 (Txt.partition z dots).1 <;> rfl
theorem range_some {p : Int × Int} {z : Str} {l h : Int} (hz : z ≠ dots) (h1 : endOf p p.1 (Txt.partition z dots).1 = some l) (h2 : endOf p p.2 (Txt.partition z dots).2.2 = some h) : rangeOf p z = if l > h then none else some (l, h) := by
  unfold rangeOf
  rw [if_neg hz, h1, h2]
theorem end_empty {p : Int × Int} {c : Int} {z : Str} (h : ¬ ((z.length : Int) != 0) = true) : endOf p c z = some c := if_neg h
theorem end_text {p : Int × Int} {c : Int} {z : Str} (h : ((z.length : Int) != 0) = true) : endOf p c z = codeOf (.inl p) z := if_pos h
theorem allP_none {f : Str → Option (Int × Int)} : ∀ {zs : List Str} {i : Nat} {z : Str}, zs[i]? = some z → f z = none → allP f zs = none
  | [], i, z, e, h => by cases e
  | y :: ys, 0, z, e, h => by
    have : y = z := by simpa using e
    subst this
    unfold allP
    rw [h]
  | y :: ys, i + 1, z, e, h => by
    unfold allP
    rw [allP_none (zs := ys) (i := i) (by simpa using e) h]
    cases f y <;> rfl
theorem allP_snoc {f : Str → Option (Int × Int)} : ∀ {zs : List Str} {ps : Prs} {z : Str} {p : Int × Int}, allP f zs = some ps → f z = some p → allP f (zs ++ [z]) = some (ps ++ [p])
  | [], ps, z, p, h, e => by
    cases h
    simp [allP, e]
  | y :: ys, ps, z, p, h, e => by
    unfold allP at h
    cases h1 : f y with
    | none => rw [h1] at h; cases h
    | some q =>
      cases h2 : allP f ys with
      | none => rw [h1, h2] at h; cases h
      | some qs =>
        rw [h1, h2] at h
        cases h
        have := allP_snoc (zs := ys) (z := z) h2 e
        show allP f (y :: (ys ++ [z])) = _
        unfold allP
        rw [h1, this]
        rfl
theorem len3 (z : Str) (h : Sm 600 z) : z.length ≤ sizeLine := big (by have := h.len; omega)
theorem nz_bool (z : Str) : (((z.length : Nat) : Int) != 0) = true ∨ (((z.length : Nat) : Int) != 0) = false := by
  cases h : (((z.length : Nat) : Int) != 0)
  · exact .inr rfl
  · exact .inl rfl
theorem part_range {p : Int × Int} {z : Str} (h : inD z = true) : partOf (.inl p) z = rangeOf p z := by unfold partOf; exact if_pos h
theorem part_code {p : Int × Int} {z : Str} (h : ¬ inD z = true) : partOf (.inl p) z = (codeOf (.inl p) z).map fun c => (c, c) := by unfold partOf; exact if_neg h
theorem ap_one {p : Int × Int} (h : p.1 ≤ p.2) : Apart [p] := Apart.nil.snoc h fun r hr => by cases hr
theorem whole_fin {H : Hp} {t l : Addr} {x y : V} (ht : H t = none) (hl : upd H t (.tup [x, y]) l = none) : upd (upd H t (.tup [x, y])) l (.lst [.ref t]) t = some (.tup [x, y]) := (upd_ne (ne_of_none upd_same hl)).trans upd_same
/-- a text without the mark in it -/
def Cln (z : Str) : Prop := ∀ j, (tl z)[j]? = some 44 → (tl z)[j + 1]? ≠ some 32
theorem mark_le {p w a b : List Nat} (hp : ∀ j, p[j]? = some 44 → p[j + 1]? ≠ some 32) (h : p ++ ([44, 32] ++ a) = w ++ ([44, 32] ++ b)) : p.length ≤ w.length := by
  rcases Nat.lt_or_ge w.length p.length with g | g
  · exfalso
    have a1 : (w ++ ([44, 32] ++ b))[w.length]? = some 44 := by simp
    have a2 : (w ++ ([44, 32] ++ b))[w.length + 1]? = some 32 := by
      rw [List.getElem?_append_right (by omega), show w.length + 1 - w.length = 1 by omega]
      rfl
    rw [← h] at a1 a2
    rw [List.getElem?_append_left g] at a1
    rcases Nat.lt_or_ge (w.length + 1) p.length with g2 | g2
    · rw [List.getElem?_append_left g2] at a2
      exact hp _ a1 a2
    · rw [List.getElem?_append_right g2, show w.length + 1 - p.length = 0 by omega] at a2
      cases a2
  · exact g
theorem join_uniq2 : ∀ {W P : List Str}, W ≠ [] → P ≠ [] → (∀ w ∈ W, Cln w) → (∀ p ∈ P, Cln p) → tl (Str.join mk2 P) = tl (Str.join mk2 W) → P = W
  | [], _, h, _, _, _, _ => absurd rfl h
  | _, [], _, h, _, _, _ => absurd rfl h
  | [w], [p], _, _, _, _, e => by
    have e : tl p = tl w := e
    rw [tl_inj e]
  | [w], p :: p2 :: P, _, _, hw, _, e => by
    have e : tl (Str.join mk2 (p :: p2 :: P)) = tl w := e
    rw [tl_join, tl_mk2] at e
    have a1 : (tl w)[(tl p).length]? = some 44 := by rw [← e]; simp
    have a2 : (tl w)[(tl p).length + 1]? = some 32 := by
      rw [← e, List.getElem?_append_right (by omega), show (tl p).length + 1 - (tl p).length = 1 by omega]
      rfl
    exact absurd a2 (hw w (by simp) _ a1)
  | w :: w2 :: W, [p], _, _, _, hp, e => by
    have e : tl p = tl (Str.join mk2 (w :: w2 :: W)) := e
    rw [tl_join, tl_mk2] at e
    have a1 : (tl p)[(tl w).length]? = some 44 := by rw [e]; simp
    have a2 : (tl p)[(tl w).length + 1]? = some 32 := by
      rw [e, List.getElem?_append_right (by omega), show (tl w).length + 1 - (tl w).length = 1 by omega]
      rfl
    exact absurd a2 (hp p (by simp) _ a1)
  | w :: w2 :: W, p :: p2 :: P, _, _, hw, hp, e => by
    rw [tl_join, tl_join, tl_mk2] at e
    have l1 := mark_le (hp p (by simp)) e
    have l2 := mark_le (hw w (by simp)) e.symm
    obtain ⟨e1, e2⟩ := List.append_inj e (Nat.le_antisymm l1 l2)
    have e3 := List.append_cancel_left e2
    have := join_uniq2 (W := w2 :: W) (P := p2 :: P) (by simp) (by simp) (fun x hx => hw x (List.mem_cons_of_mem _ hx)) (fun x hx => hp x (List.mem_cons_of_mem _ hx)) e3
    rw [tl_inj e1, this]
theorem split_join2 {W : List Str} (h : W ≠ []) (hw : ∀ w ∈ W, Cln w) : Txt.split (Txt.join mk2 W) mk2 = W := by
  refine join_uniq2 h (split_ne _) hw (split_parts _) ?_
  rw [StrLaws.join_split, join_is]
theorem Cln.of_no {z : Str} (h : 44 ∉ tl z) : Cln z := fun j e => absurd (List.mem_of_getElem? e) h
def bar1 : Str := Str.ofString "-"
theorem parts_join {d : Dm} {W : List Str} (h : W ≠ []) (hw : ∀ w ∈ W, Cln w) (hb : W ≠ [bar1]) : partsOf d (Txt.join mk2 W) = allP (partOf d) W := by
  unfold partsOf
  rw [if_neg, split_join2 h hw]
  intro e
  have e1 := split_join2 h hw
  rw [e] at e1
  refine hb (e1.symm.trans ?_)
  exact split_join2 (W := [bar1]) (by simp) (fun w hw => by rw [show w = bar1 by simpa using hw]; exact Cln.of_no (by decide +kernel))
theorem parts_bar {d : Dm} : partsOf d bar1 = some [lohi d] := by unfold partsOf; exact if_pos rfl
/-! texts that begin with `not ` -/
def nott : Str := Str.ofString "not "
theorem tl_nott : tl nott = [110, 111, 116, 32] := by decide +kernel
theorem starts_take (z y : Str) : Txt.startswith z y = true ↔ (tl z).take (tl y).length = tl y := by
  unfold Txt.startswith
  rw [StrLaws.subAt_eq, Bool.and_eq_true, decide_eq_true_iff, beq_iff_eq, List.drop_zero, tl_len]
  constructor
  · exact fun h => h.2
  · intro h
    refine ⟨?_, h⟩
    have := congrArg List.length h
    rw [List.length_take, tl_len, tl_len] at this
    omega
theorem starts_nott (y : Str) : Txt.startswith (nott ++ y) nott = true := by
  rw [starts_take, tl_app, List.take_left]
theorem take_join {p : Str} {r : List Str} (h : (tl p).take 4 ≠ tl nott) : Txt.startswith (Txt.join mk2 (p :: r)) nott = false := by
  rw [Bool.eq_false_iff]
  intro g
  rw [starts_take, join_is] at g
  have e4 : (tl nott).length = 4 := by decide +kernel
  rw [e4] at g
  match r with
  | [] => exact h g
  | q :: r =>
    rw [tl_join, tl_mk2] at g
    by_cases hl : 4 ≤ (tl p).length
    · rw [List.take_append_of_le_length hl] at g
      exact h g
    · have a1 : (List.take 4 (tl p ++ ([44, 32] ++ tl (Str.join mk2 (q :: r)))))[(tl p).length]? = some 44 := by
        rw [List.getElem?_take_of_lt (by omega)]
        simp
      rw [g] at a1
      have : ∀ i, i < 4 → (tl nott)[i]? ≠ some 44 := by decide +kernel
      exact this _ (by omega) a1
theorem slice4 (y : Str) : Txt.slice (nott ++ y) (some 4) none = y := by
  have e0 : (nott ++ y).cps.toList = tl nott ++ tl y := tl_app _ _
  have e4 : (tl nott).length = 4 := by decide +kernel
  have h := StrLaws.sliceText_from (x := nott ++ y) (i := 4) ⟨by decide, by rw [e0, List.length_append, e4]; omega⟩
  have e : Txt.slice (nott ++ y) (some 4) none = StrLaws.sliceText (nott ++ y) (some 4) none := rfl
  rw [e, h, e0]
  refine tl_inj ?_
  show (((tl nott ++ tl y).drop 4).take _).toArray.toList = tl y
  rw [show (4 : Nat) = (tl nott).length from e4.symm, List.drop_left, List.length_append, e4]
  exact List.take_of_length_le (by omega)
abbrev numT (n : Int) : Str := Str.ofString (toString n)
theorem num_chars {n : Int} (h : bnd n) : (∀ c ∈ tl (numT n), c = 45 ∨ (48 ≤ c ∧ c ≤ 57)) ∧ tl (numT n) ≠ [] := by
  obtain ⟨F, l, e, d⟩ := isn_parts (num_txt h).1
  have fne := F.ne
  refine ⟨fun c hc => ?_, fun z => ?_⟩
  · rw [e] at hc
    unfold numCs at hc
    split at hc
    · rcases List.mem_cons.mp hc with hc | hc
      · exact .inl hc
      · exact .inr (F.all c hc)
    · exact .inr (F.all c hc)
  · rw [e] at z
    unfold numCs at z
    split at z
    · cases z
    · exact fne z
theorem part_ends {e0 e1 : Str} (h0 : 46 ∉ tl e0) (h1 : 46 ∉ tl e1) : (Txt.partition (e0 ++ dots ++ e1) dots).1 = e0 ∧ (Txt.partition (e0 ++ dots ++ e1) dots).2.2 = e1 := by
  have e := part_is (t := e0 ++ dots ++ e1) dots_in
  have e' : tl (e0 ++ dots ++ e1) = tl e0 ++ ([46, 46] ++ tl e1) := by rw [tl_app, tl_app, tl_dots, List.append_assoc]
  rw [e'] at e
  obtain ⟨a, b⟩ := ends_uniq e h0 h1
  exact ⟨(tl_inj a).symm, (tl_inj b).symm⟩
theorem nz_iff {z : Str} : ((z.length : Int) != 0) = true ↔ tl z ≠ [] := by
  rw [bne_iff_ne]
  have := tl_len z
  constructor
  · intro h e; rw [e] at this; simp at this; omega
  · intro h e
    exact h (List.length_eq_zero_iff.mp (by omega))
theorem end_num {p : Int × Int} {c n : Int} (hb : bnd n) (h1 : p.1 ≤ n) (h2 : n ≤ p.2) : endOf p c (numT n) = some n := by
  obtain ⟨a, b⟩ := num_txt hb
  rw [end_text (nz_iff.mpr (num_chars hb).2), code_in a (by rw [b]; exact inB_iff.mpr ⟨h1, h2⟩), b]
theorem code_num {p : Int × Int} {n : Int} (hb : bnd n) (h1 : p.1 ≤ n) (h2 : n ≤ p.2) : codeOf (.inl p) (numT n) = some n := by
  obtain ⟨a, b⟩ := num_txt hb
  rw [code_in a (by rw [b]; exact inB_iff.mpr ⟨h1, h2⟩), b]
def emp : Str := Str.ofString ""
theorem tl_emp : tl emp = [] := by decide +kernel
theorem end_emp {p : Int × Int} {c : Int} : endOf p c emp = some c := by
  refine end_empty fun h => ?_
  exact (nz_iff.mp h) tl_emp
theorem range_ends {p : Int × Int} {e0 e1 : Str} {l h : Int} (h0 : 46 ∉ tl e0) (h1 : 46 ∉ tl e1) (hne : tl e0 ≠ [] ∨ tl e1 ≠ []) (E0 : endOf p p.1 e0 = some l) (E1 : endOf p p.2 e1 = some h) : rangeOf p (e0 ++ dots ++ e1) = if l > h then none else some (l, h) := by
  obtain ⟨a, b⟩ := part_ends h0 h1
  refine range_some (fun e => ?_) (by rw [a]; exact E0) (by rw [b]; exact E1)
  have := congrArg (fun z => (tl z).length) e
  simp only [tl_app, tl_dots, List.length_append, List.length_cons, List.length_nil] at this
  rcases hne with z | z
  · exact z (List.length_eq_zero_iff.mp (by omega))
  · exact z (List.length_eq_zero_iff.mp (by omega))
theorem num_nodot {n : Int} (h : bnd n) : 46 ∉ tl (numT n) := isn_nodot (num_txt h).1
theorem emp_nodot : 46 ∉ tl emp := by rw [tl_emp]; simp
theorem emp_app (z : Str) : emp ++ z = z := tl_inj (by rw [tl_app, tl_emp]; rfl)
theorem app_emp (z : Str) : z ++ emp = z := tl_inj (by rw [tl_app, tl_emp, List.append_nil])
theorem dot_yes {e0 e1 : Str} : inD (e0 ++ dots ++ e1) = true := dots_in
theorem dot_no {n : Int} (h : bnd n) : ¬ inD (numT n) = true := by
  have := dots_out (t := numT n) (by rw [List.count_eq_zero.mpr (num_nodot h)]; decide)
  unfold inD
  rw [this]
  decide
theorem take_no {z : Str} (h : 110 ∉ tl z) : (tl z).take 4 ≠ tl nott := fun e => h (List.mem_of_mem_take (i := 4) (by rw [e, tl_nott]; simp))
theorem part_bar {p : Int × Int} : partOf (.inl p) bar1 = none := by
  rw [part_code (by decide +kernel), code_out fun g => absurd g.1 (by decide +kernel)]
  rfl
theorem allP_map {α : Type} {F : Str → Option (Int × Int)} {f : α → Str} {g : α → Int × Int} : ∀ {l : List α}, (∀ x ∈ l, F (f x) = some (g x)) → allP F (l.map f) = some (l.map g)
  | [], _ => rfl
  | x :: l, h => by
    rw [List.map_cons]
    unfold allP
    rw [h x (by simp), allP_map fun y hy => h y (List.mem_cons_of_mem _ hy)]
    rfl
/-! words -/
def idxW (zs : List Str) (w : Str) : Int := (((fstW zs w).getD 0 : Nat) : Int)
def cutW (zs : List Str) (p : Int × Int) : List Str := cutS zs (some p.1) (some (p.2 + 1))
/-- spans that are told: ascending, apart, of codes of the domain -/
structure COk (d : Dm) (ps : Prs) : Prop where
  ap : Apart ps
  inn : ∀ p ∈ ps, (lohi d).1 ≤ p.1 ∧ p.2 ≤ (lohi d).2
  few : ps.length ≤ 62
/-- the domain's own bounds -/
structure DOk (d : Dm) : Prop where
  le : (lohi d).1 ≤ (lohi d).2
  b1 : bnd (lohi d).1
  b2 : bnd (lohi d).2
  gd : ∀ zs, d = .inr zs → Good zs
def textsOf : Dm → Prs → List Str
  | .inl p, ps => ps.map (shN p.1 p.2)
  | .inr zs, ps => (ps.map (cutW zs)).flatten
def showT (d : Dm) (ps : Prs) : Str := if ps = [] then Str.ofString "not -" else if ps = [lohi d] then bar1 else Txt.join mk2 (textsOf d ps)
theorem jsum {zs : List Str} {n : Nat} (h : ∀ z ∈ zs, z.length ≤ 600) (hl : zs.length ≤ n) (hn : n ≤ 1000) : (zs.map (·.length)).sum + zs.length * 64 ≤ 16777216 :=
  join_ok (m := 600) (n := 1000) h (by omega) (by decide)
/-- what is shown of spans that are not empty is read to the same codes -/
structure Rd (d : Dm) (ps : Prs) (t : Str) : Prop where
  st : Txt.startswith t nott = false
  len : t.length ≤ 100000
  sm : ∀ u ∈ Txt.split t mk2, Sm 600 u
  few : (Txt.split t mk2).length < 64
  rd : ∃ qs, partsOf d t = some qs ∧ ∀ n, inP qs n = inP ps n
theorem inP_tk {R : Prs} {i : Nat} {p : Int × Int} (e : R[i]? = some p) (n : Int) : inP (R.take (i + 1)) n = (inP (R.take i) n || inR n p) := by rw [take_snoc e, inP_snoc]
theorem ap_lt {R : Prs} (h : Apart R) {i j : Nat} {p q : Int × Int} (e1 : R[i]? = some p) (e2 : R[j]? = some q) (hij : i < j) : p.2 + 2 ≤ q.1 := by
  obtain ⟨h1, rfl⟩ := List.getElem?_eq_some_iff.mp e1
  obtain ⟨h2, rfl⟩ := List.getElem?_eq_some_iff.mp e2
  exact List.pairwise_iff_getElem.mp h.gap i j h1 h2 hij
/-- the codes between, on the way -/
structure Oth (R S : Prs) (lo at_ : Int) (i : Nat) : Prop where
  ap : Apart S
  le : lo ≤ at_
  low : ∀ s ∈ S, s.2 + 2 ≤ at_
  ahead : ∀ j p, i ≤ j → R[j]? = some p → at_ ≤ p.1
  gone : ∀ q ∈ R.take i, q.2 < at_
  mem : ∀ n, inP S n = true ↔ lo ≤ n ∧ n < at_ ∧ inP (R.take i) n = false
theorem inR_iff {n : Int} {p : Int × Int} : inR n p = true ↔ p.1 ≤ n ∧ n ≤ p.2 := by unfold inR; simp
theorem inP_gone {R : Prs} {a n : Int} (h : ∀ q ∈ R, q.2 < a) (hn : a ≤ n) : inP R n = false := by
  rw [Bool.eq_false_iff]
  intro g
  obtain ⟨q, hq, z⟩ := List.any_eq_true.mp g
  have := h q hq
  rw [inR_iff] at z
  omega
theorem Oth.step {R S : Prs} {lo at_ : Int} {i : Nat} {p : Int × Int} (h : Oth R S lo at_ i) (aR : Apart R) (e : R[i]? = some p) :
    Oth R (if at_ < p.1 then S ++ [(at_, p.1 - 1)] else S) lo (p.2 + 1) (i + 1) := by
  have le := aR.le p (List.mem_of_getElem? e)
  have ap := h.ahead i p (Nat.le_refl _) e
  have hl := h.le
  have gone : ∀ q ∈ R.take (i + 1), q.2 < p.2 + 1 := fun q hq => by
    rw [take_snoc e] at hq
    rcases List.mem_append.mp hq with hq | hq
    · have := h.gone q hq; omega
    · rw [show q = p by simpa using hq]; omega
  have ahead : ∀ j q, i + 1 ≤ j → R[j]? = some q → p.2 + 1 ≤ q.1 := fun j q hj eq => by have := ap_lt aR e eq (by omega); omega
  by_cases g : at_ < p.1
  · rw [if_pos g]
    refine ⟨h.ap.snoc (by show at_ ≤ p.1 - 1; omega) h.low, by omega, fun s hs => ?_, ahead, gone, fun n => ?_⟩
    · rcases List.mem_append.mp hs with hs | hs
      · have := h.low s hs; omega
      · rw [show s = (at_, p.1 - 1) by simpa using hs]
        show p.1 - 1 + 2 ≤ p.2 + 1
        omega
    · rw [inP_snoc, inP_tk e, Bool.or_eq_true, h.mem, inR_iff, Bool.or_eq_false_iff]
      have z1 : inR n p = false ↔ ¬ (p.1 ≤ n ∧ n ≤ p.2) := by rw [← inR_iff, Bool.not_eq_true]
      rw [z1]
      show _ ∨ (at_ ≤ n ∧ n ≤ p.1 - 1) ↔ _
      constructor
      · rintro (⟨a, b, c⟩ | ⟨a, b⟩)
        · exact ⟨a, by omega, c, by omega⟩
        · exact ⟨by omega, by omega, inP_gone h.gone a, by omega⟩
      · rintro ⟨a, b, c, d⟩
        by_cases z : n < at_
        · exact .inl ⟨a, z, c⟩
        · exact .inr (by omega)
  · rw [if_neg g]
    refine ⟨h.ap, by omega, fun s hs => by have := h.low s hs; omega, ahead, gone, fun n => ?_⟩
    rw [inP_tk e, h.mem, Bool.or_eq_false_iff]
    have z1 : inR n p = false ↔ ¬ (p.1 ≤ n ∧ n ≤ p.2) := by rw [← inR_iff, Bool.not_eq_true]
    rw [z1]
    constructor
    · rintro ⟨a, b, c⟩
      exact ⟨a, by omega, c, by omega⟩
    · rintro ⟨a, b, c, d⟩
      exact ⟨a, by omega, c⟩
theorem Oth.last {R S : Prs} {lo hi at_ : Int} (h : Oth R S lo at_ R.length) (hhi : at_ ≤ hi + 1) :
    Apart (if at_ ≤ hi then S ++ [(at_, hi)] else S) ∧ ∀ n, inP (if at_ ≤ hi then S ++ [(at_, hi)] else S) n = (inR n (lo, hi) && !inP R n) := by
  have hl := h.le
  have m := h.mem
  rw [List.take_length] at m
  have g0 := h.gone
  rw [List.take_length] at g0
  have key : ∀ n, (inR n (lo, hi) && !inP R n) = true ↔ (lo ≤ n ∧ n ≤ hi) ∧ inP R n = false := fun n => by rw [Bool.and_eq_true, inR_iff, Bool.not_eq_true']
  by_cases g : at_ ≤ hi
  · rw [if_pos g]
    refine ⟨h.ap.snoc g h.low, fun n => ?_⟩
    rw [Bool.eq_iff_iff, key, inP_snoc, Bool.or_eq_true, m, inR_iff]
    show _ ∨ (at_ ≤ n ∧ n ≤ hi) ↔ _
    constructor
    · rintro (⟨a, b, c⟩ | ⟨a, b⟩)
      · exact ⟨⟨a, by omega⟩, c⟩
      · exact ⟨⟨by omega, b⟩, inP_gone g0 a⟩
    · rintro ⟨⟨a, b⟩, c⟩
      by_cases z : n < at_
      · exact .inl ⟨a, z, c⟩
      · exact .inr (by omega)
  · rw [if_neg g]
    refine ⟨h.ap, fun n => ?_⟩
    rw [Bool.eq_iff_iff, key, m]
    constructor
    · rintro ⟨a, b, c⟩
      exact ⟨⟨a, by omega⟩, c⟩
    · rintro ⟨⟨a, b⟩, c⟩
      exact ⟨a, by omega, c⟩
theorem neT_pair {K : PySem.W.Frag} {H : Hp} {Q : VK} {t u : Addr} {x y : Int} (h1 : H t = some (.tup [.int x, .int y])) (h2 : H u = some (.tup [.int x, .int y])) (q : Q (.bl false) H) : rEqT K true (.ref t) (.ref u) H Q := by
  refine ⟨t, u, _, _, rfl, rfl, SqT.of h1, SqT.of h2, fun _ => true, fun j a b e1 e2 => ?_, q⟩
  rw [e1] at e2; cases e2
  have fl : flatV a = true := by
    rcases List.mem_cons.mp (List.mem_of_getElem? e1) with z | z
    · rw [z]; rfl
    · rw [show a = V.int y by simpa using z]; rfl
  have := EqI.flat (K := K) (H := H) fl fl
  rw [show eqV a a = true by cases a <;> simp_all [eqV, flatV]] at this
  exact this
theorem pl_get2 {H : Hp} {ys : List V} {R : Prs} (h : PL H ys R) {i : Nat} {p : Int × Int} (e : R[i]? = some p) : ∃ t, ys[i]? = some (.ref t) ∧ H t = some (.tup [.int p.1, .int p.2]) := by
  have hl := h.length
  have : i < ys.length := by rw [hl]; exact (List.getElem?_eq_some_iff.mp e).1
  obtain ⟨q, t, e1, e2, e3⟩ := h.get (List.getElem?_eq_getElem this)
  rw [e] at e1; cases e1
  exact ⟨t, by rw [List.getElem?_eq_getElem this, e2], e3⟩
/-- spans of the places that are held, on the way -/
structure Hld (bs : List Bool) (R : Prs) (i : Nat) : Prop where
  ap : Apart R
  inn : ∀ p ∈ R, 0 ≤ p.1 ∧ p.2 < (i : Int)
  len : R.length ≤ i
  mem : ∀ n, inP R n = true ↔ 0 ≤ n ∧ n < (i : Int) ∧ bs[n.toNat]? = some true
def way17 (c : Int) : Int := c % 10037 * 619 % 10037 % 8
def one17 (lo hi c : Int) : Int := lo + c * 48271 ^ (12 : Int).toNat % (hi - lo + 1)
def two17 (lo hi c : Int) : Int := lo + c * 69621 ^ (12 : Int).toNat % (hi - lo + 1)
def far17 (hi c o : Int) : Int := if o + 1 + c % 1009 % 5 < hi then o + 1 + c % 1009 % 5 else hi
def pr17 (lo hi c : Int) : Int × Int :=
  if way17 c = 0 then (lo, one17 lo hi c) else if way17 c = 1 then (one17 lo hi c, hi) else if way17 c = 2 then (if two17 lo hi c < one17 lo hi c then two17 lo hi c else one17 lo hi c, if two17 lo hi c > one17 lo hi c then two17 lo hi c else one17 lo hi c) else if way17 c = 3 then (one17 lo hi c, far17 hi c (one17 lo hi c)) else (one17 lo hi c, one17 lo hi c)
theorem in17 {lo hi x : Int} (h : lo ≤ hi) : lo ≤ lo + x % (hi - lo + 1) ∧ lo + x % (hi - lo + 1) ≤ hi := by
  have h1 := Int.emod_nonneg x (show hi - lo + 1 ≠ 0 by omega)
  have h2 := Int.emod_lt_of_pos x (show 0 < hi - lo + 1 by omega)
  omega
theorem pr17_in {lo hi : Int} (c : Int) (h : lo ≤ hi) : lo ≤ (pr17 lo hi c).1 ∧ (pr17 lo hi c).1 ≤ (pr17 lo hi c).2 ∧ (pr17 lo hi c).2 ≤ hi := by
  have h1 := in17 (x := c * 48271 ^ (12 : Int).toNat) h
  have h2 := in17 (x := c * 69621 ^ (12 : Int).toNat) h
  have e1 : one17 lo hi c = lo + c * 48271 ^ (12 : Int).toNat % (hi - lo + 1) := rfl
  have e2 : two17 lo hi c = lo + c * 69621 ^ (12 : Int).toNat % (hi - lo + 1) := rfl
  rw [← e1] at h1
  rw [← e2] at h2
  have h3 := Int.emod_nonneg (c % 1009) (show (5 : Int) ≠ 0 by decide)
  unfold pr17 far17
  generalize one17 lo hi c = x at h1 ⊢
  generalize two17 lo hi c = y at h2 ⊢
  generalize c % 1009 % 5 = k at h3 ⊢
  split
  · exact ⟨Int.le_refl _, h1.1, h1.2⟩
  · split
    · exact ⟨h1.1, h1.2, Int.le_refl _⟩
    · split
      · show lo ≤ (if y < x then y else x) ∧ (if y < x then y else x) ≤ (if y > x then y else x) ∧ (if y > x then y else x) ≤ hi
        by_cases g1 : y < x
        · rw [if_pos g1, if_neg (by omega)]; omega
        · rw [if_neg g1]
          by_cases g2 : y > x
          · rw [if_pos g2]; omega
          · rw [if_neg g2]; omega
      · split
        · show lo ≤ x ∧ x ≤ (if x + 1 + k < hi then x + 1 + k else hi) ∧ (if x + 1 + k < hi then x + 1 + k else hi) ≤ hi
          split <;> omega
        · show lo ≤ x ∧ x ≤ x ∧ x ≤ hi
          omega
/-- the part that is written -/
def part17 (lo hi c : Int) : Str := if way17 c = 0 then Str.ofString ".." ++ numT (pr17 lo hi c).2 else if way17 c = 1 then numT (pr17 lo hi c).1 ++ Str.ofString ".." else if way17 c < 5 then numT (pr17 lo hi c).1 ++ Str.ofString ".." ++ numT (pr17 lo hi c).2 else numT (pr17 lo hi c).1
theorem bnd_in {lo hi n : Int} (b1 : bnd lo) (b2 : bnd hi) (h1 : lo ≤ n) (h2 : n ≤ hi) : bnd n := by
  unfold bnd at *
  omega
theorem part17_rd {lo hi : Int} (c : Int) (h : lo ≤ hi) (b1 : bnd lo) (b2 : bnd hi) : partOf (.inl (lo, hi)) (part17 lo hi c) = some (pr17 lo hi c) := by
  obtain ⟨i1, i2, i3⟩ := pr17_in c h
  have hw : 0 ≤ way17 c := Int.emod_nonneg _ (by decide)
  have w0 : way17 c = 0 → (pr17 lo hi c).1 = lo := fun e => by unfold pr17; rw [if_pos e]
  have w1 : way17 c = 1 → (pr17 lo hi c).2 = hi := fun e => by unfold pr17; rw [if_neg (by omega), if_pos e]
  have w5 : ¬ way17 c < 5 → (pr17 lo hi c).1 = (pr17 lo hi c).2 := fun e => by unfold pr17; rw [if_neg (by omega), if_neg (by omega), if_neg (by omega), if_neg (by omega)]
  unfold part17
  generalize pr17 lo hi c = r at i1 i2 i3 w0 w1 w5 ⊢
  have p1 : bnd r.1 := bnd_in b1 b2 i1 (by omega)
  have p2 : bnd r.2 := bnd_in b1 b2 (by omega) i3
  have fin : (if r.1 > r.2 then none else some (r.1, r.2)) = some r := if_neg (by omega)
  split
  · rename_i e
    have ez : Str.ofString ".." ++ numT r.2 = emp ++ dots ++ numT r.2 := by rw [emp_app]; rfl
    have e0 : endOf (lo, hi) (lo, hi).1 emp = some r.1 := by rw [end_emp, w0 e]
    rw [ez, part_range dot_yes, range_ends emp_nodot (num_nodot p2) (.inr (num_chars p2).2) e0 (end_num p2 (by show lo ≤ r.2; omega) i3)]
    exact fin
  · split
    · rename_i e
      have ez : numT r.1 ++ Str.ofString ".." = numT r.1 ++ dots ++ emp := by rw [app_emp]; rfl
      have e0 : endOf (lo, hi) (lo, hi).2 emp = some r.2 := by rw [end_emp, w1 e]
      rw [ez, part_range dot_yes, range_ends (num_nodot p1) emp_nodot (.inl (num_chars p1).2) (end_num p1 i1 (by show r.1 ≤ hi; omega)) e0]
      exact fin
    · split
      · have ez : numT r.1 ++ Str.ofString ".." ++ numT r.2 = numT r.1 ++ dots ++ numT r.2 := rfl
        rw [ez, part_range dot_yes, range_ends (num_nodot p1) (num_nodot p2) (.inl (num_chars p1).2) (end_num p1 i1 (by show r.1 ≤ hi; omega)) (end_num p2 (by show lo ≤ r.2; omega) i3)]
        exact fin
      · rename_i e
        rw [part_code (dot_no p1), code_num p1 i1 (by show r.1 ≤ hi; omega)]
        show some (r.1, r.1) = some r
        rw [show (r.1, r.1) = r from Prod.ext rfl (w5 e)]
theorem part17_chars {lo hi : Int} (c : Int) (h : lo ≤ hi) (b1 : bnd lo) (b2 : bnd hi) : (∀ x ∈ tl (part17 lo hi c), x = 45 ∨ x = 46 ∨ (48 ≤ x ∧ x ≤ 57)) ∧ (part17 lo hi c).length ≤ 200 := by
  obtain ⟨i1, i2, i3⟩ := pr17_in c h
  unfold part17
  generalize pr17 lo hi c = r at i1 i2 i3 ⊢
  have p1 : bnd r.1 := bnd_in b1 b2 i1 (by omega)
  have p2 : bnd r.2 := bnd_in b1 b2 (by omega) i3
  have l1 : (numT r.1).length ≤ 61 := len_num p1
  have l2 : (numT r.2).length ≤ 61 := len_num p2
  have k : ∀ n : Int, bnd n → ∀ x ∈ tl (numT n), x = 45 ∨ x = 46 ∨ (48 ≤ x ∧ x ≤ 57) := fun n h x hx => by
    rcases (num_chars h).1 x hx with z | z
    · exact .inl z
    · exact .inr (.inr z)
  have d : ∀ x ∈ tl (Str.ofString ".."), x = 45 ∨ x = 46 ∨ (48 ≤ x ∧ x ≤ 57) := by decide +kernel
  split
  · refine ⟨fun x hx => ?_, by rw [len_ap, dots2]; omega⟩
    rw [tl_app] at hx
    exact (List.mem_append.mp hx).elim (d x) (k _ p2 x)
  · split
    · refine ⟨fun x hx => ?_, by rw [len_ap, dots2]; omega⟩
      rw [tl_app] at hx
      exact (List.mem_append.mp hx).elim (k _ p1 x) (d x)
    · split
      · refine ⟨fun x hx => ?_, by rw [len_ap, len_ap, dots2]; omega⟩
        rw [tl_app, tl_app] at hx
        rcases List.mem_append.mp hx with hx | hx
        · exact (List.mem_append.mp hx).elim (k _ p1 x) (d x)
        · exact k _ p2 x hx
      · exact ⟨k _ p1, by omega⟩
theorem nt_parts (n : Int) : ∃ cs : List Nat, Figs cs ∧ PySem.NumText.digitsVal cs = n.natAbs ∧ tl (numT n) = numCs n cs := by
  obtain ⟨cs, F, hv⟩ := figs_of n.natAbs
  refine ⟨cs, F, hv, ?_⟩
  show tl (Str.ofString (toString n)) = _
  rw [text_of F hv]
  rfl
theorem nt_chars (n : Int) : (∀ c ∈ tl (numT n), c = 45 ∨ (48 ≤ c ∧ c ≤ 57)) ∧ ∃ c ∈ tl (numT n), 48 ≤ c := by
  obtain ⟨cs, F, hv, e⟩ := nt_parts n
  rw [e]
  unfold numCs
  have ne := F.ne
  obtain ⟨d, hd⟩ : ∃ d, d ∈ cs := by
    cases cs with
    | nil => exact absurd rfl ne
    | cons d r => exact ⟨d, by simp⟩
  split
  · refine ⟨fun c hc => ?_, d, by simp [hd], (F.all d hd).1⟩
    rcases List.mem_cons.mp hc with hc | hc
    · exact .inl hc
    · exact .inr (F.all c hc)
  · exact ⟨fun c hc => .inr (F.all c hc), d, hd, (F.all d hd).1⟩
theorem val_num {n : Int} (h : isn (numT n) = true) : valz (numT n) = n := by
  obtain ⟨cs, F, hv, e⟩ := nt_parts n
  obtain ⟨F2, _, e2, d2⟩ := isn_parts h
  rw [e] at e2
  unfold numCs at e2
  have nd : ∀ l : List Nat, (∀ c ∈ l, 48 ≤ c ∧ c ≤ 57) → (45 : Nat) ∉ l := fun l hl m => by have := hl _ m; omega
  split at e2
  · split at e2
    · have := (List.cons.inj e2).2
      rw [this] at hv
      omega
    · exact absurd (show (45 : Nat) ∈ (figz (numT n)).cps.toList by rw [← e2]; simp) (nd _ F2.all)
  · split at e2
    · exact absurd (show (45 : Nat) ∈ cs by rw [e2]; simp) (nd _ F.all)
    · rw [e2] at hv
      omega
theorem code_far {p : Int × Int} {n : Int} (h : n < p.1 ∨ p.2 < n) : codeOf (.inl p) (numT n) = none := code_out fun g => by
  have g2 := g.2
  rw [val_num g.1, inB_iff] at g2
  omega
theorem isn_chars {z : Str} (h : isn z = true) : ∀ c ∈ tl z, c = 45 ∨ (48 ≤ c ∧ c ≤ 57) := fun c hc => by
  obtain ⟨F, _, e, _⟩ := isn_parts h
  rw [e] at hc
  unfold numCs at hc
  split at hc
  · rcases List.mem_cons.mp hc with hc | hc
    · exact .inl hc
    · exact .inr (F.all c hc)
  · exact .inr (F.all c hc)
theorem code_odd {p : Int × Int} {z : Str} {c : Nat} (hc : c ∈ tl z) (h : ¬ (c = 45 ∨ (48 ≤ c ∧ c ≤ 57))) : codeOf (.inl p) z = none := code_out fun g => h (isn_chars g.1 c hc)
theorem code_no {p : Int × Int} {z : Str} (h : isn z = false) : codeOf (.inl p) z = none := code_out fun g => by rw [h] at g; cases g.1
theorem part_nodots {p : Int × Int} {z : Str} (h : 46 ∉ tl z) (hc : codeOf (.inl p) z = none) : partOf (.inl p) z = none := by
  rw [part_code, hc]
  · rfl
  · have := dots_out (t := z) (by rw [List.count_eq_zero.mpr h]; decide)
    unfold inD
    rw [this]
    decide
theorem part_dots {p : Int × Int} {e0 e1 : Str} (h0 : 46 ∉ tl e0) (h1 : 46 ∉ tl e1) (h : endOf p p.1 e0 = none ∨ endOf p p.2 e1 = none) : partOf (.inl p) (e0 ++ dots ++ e1) = none := by
  rw [part_range dot_yes]
  obtain ⟨a, b⟩ := part_ends h0 h1
  exact range_none (by rw [a, b]; exact h)
theorem end_no {p : Int × Int} {c : Int} {z : Str} (hz : tl z ≠ []) (h : codeOf (.inl p) z = none) : endOf p c z = none := by rw [end_text (nz_iff.mpr hz), h]
/-- a part that writes nothing there -/
structure Odd7 (p : Int × Int) (op sg ft : Bool) (y : Str) : Prop where
  out : partOf (.inl p) y = none
  cln : Cln y
  sm : Sm 600 y
  st : op = false → ft = true → (tl y).take 4 ≠ tl nott
  bar : ft = true → sg = true → y ≠ bar1
theorem ne_bar {y : Str} {c : Nat} (hc : c ∈ tl y) (h : c ≠ 45) : y ≠ bar1 := fun e => by
  rw [e] at hc
  have : tl bar1 = [45] := by decide +kernel
  rw [this] at hc
  simp at hc
  exact h hc
/-- signs of a number, and others below the letter n but no comma -/
def Lw (y : Str) : Prop := ∀ c ∈ tl y, c < 110 ∧ c ≠ 44
theorem Lw.app {x y : Str} (h : Lw x) (k : Lw y) : Lw (x ++ y) := fun c hc => by
  rw [tl_app] at hc
  exact (List.mem_append.mp hc).elim (h c) (k c)
theorem Lw.num (n : Int) : Lw (numT n) := fun c hc => by
  rcases (nt_chars n).1 c hc with z | z <;> omega
theorem odd7 {p : Int × Int} (op sg ft : Bool) {y : Str} {c : Nat} (out : partOf (.inl p) y = none) (l : Lw y) (hl : y.length ≤ 600) (hc : c ∈ tl y) (h : c ≠ 45) : Odd7 p op sg ft y :=
  ⟨out, Cln.of_no fun m => (l _ m).2 rfl, ⟨hl, fun c hc => Nat.lt_of_lt_of_le (l c hc).1 (by decide)⟩, fun _ _ => take_no fun m => absurd (l _ m).1 (by decide), fun _ _ => ne_bar hc h⟩
theorem nlen {n : Int} (h : n.natAbs ≤ 10 ^ 60) : (numT n).length ≤ 100 := by
  obtain ⟨cs, F, hv, e⟩ := nt_parts n
  have hl := F.short (k := 61) (by decide) (by rw [hv]; exact Nat.lt_of_le_of_lt h (by decide))
  rw [← tl_len, e]
  unfold numCs
  split
  · simp; omega
  · omega
theorem nt_nodot (n : Int) : 46 ∉ tl (numT n) := fun m => by rcases (nt_chars n).1 _ m with z | z <;> omega
theorem nt_ne (n : Int) : tl (numT n) ≠ [] := fun e => by
  obtain ⟨c, hc, _⟩ := (nt_chars n).2
  rw [e] at hc
  cases hc
def absI (n : Int) : Int := if n < 0 then -n else n
def o1 (lo hi : Int) : List Str := [Str.ofString "", Str.ofString "..", numT lo ++ Str.ofString " ", Str.ofString "+" ++ numT hi, Str.ofString "00", Str.ofString "1...2", Str.ofString "1..2..3", Str.ofString "a", numT lo ++ Str.ofString "," ++ numT lo, Str.ofString "not"]
def o2 (lo hi : Int) : List Str := [numT (hi + 1), numT (lo - 1) ++ Str.ofString "..", numT (hi + 1) ++ Str.ofString "..", Str.ofString ".." ++ numT (hi + 1), Str.ofString ".." ++ numT (lo - 1)]
def o3 (lo hi : Int) : List Str := [numT lo ++ Str.ofString ".." ++ numT (hi + 1), numT (lo - 1) ++ Str.ofString ".." ++ numT hi, numT lo ++ Str.ofString "..0" ++ numT (absI hi)]
def o4 (lo hi : Int) : List Str := [numT lo ++ Str.ofString " .." ++ numT hi, numT lo ++ Str.ofString ".. " ++ numT hi, numT lo ++ Str.ofString "..a", Str.ofString "1_0"]
def o5 (lo : Int) : List Str := [Str.ofString " " ++ numT lo, Str.ofString " -", Str.ofString "Not " ++ numT lo]
theorem lw_c {s : String} (h : ∀ c ∈ tl (Str.ofString s), c < 110 ∧ c ≠ 44) : Lw (Str.ofString s) := h
theorem app_ne {x : Str} {c : Nat} (h : c ∈ tl x) (y : Str) : c ∈ tl (x ++ y) := by rw [tl_app]; exact List.mem_append_left _ h
theorem ne_app {y : Str} {c : Nat} (h : c ∈ tl y) (x : Str) : c ∈ tl (x ++ y) := by rw [tl_app]; exact List.mem_append_right _ h
theorem nodot_app {x y : Str} (h : 46 ∉ tl x) (k : 46 ∉ tl y) : 46 ∉ tl (x ++ y) := fun m => by
  rw [tl_app] at m
  exact (List.mem_append.mp m).elim h k
theorem zero_no {z : Str} (h : tl z ≠ []) : isn (Str.ofString "0" ++ z) = false := by
  have e : Str.ofString "0" ++ z = ⟨(48 :: tl z).toArray⟩ := tl_inj (by rw [tl_app]; rfl)
  rw [e]
  exact isn_zero h
theorem bnd1 {n : Int} (h : bnd n) : n.natAbs ≤ 10 ^ 60 ∧ (n + 1).natAbs ≤ 10 ^ 60 ∧ (n - 1).natAbs ≤ 10 ^ 60 ∧ (absI n).natAbs ≤ 10 ^ 60 := by
  unfold bnd at h
  unfold absI
  refine ⟨by omega, by omega, by omega, by split <;> omega⟩
theorem odd_o1 {lo hi : Int} (op sg ft : Bool) (b1 : bnd lo) (b2 : bnd hi) : ∀ y ∈ o1 lo hi, Odd7 (lo, hi) op sg ft y := by
  have l1 := nlen (bnd1 b1).1
  have l2 := nlen (bnd1 b2).1
  obtain ⟨d, hd, d48⟩ := (nt_chars lo).2
  obtain ⟨e, he, e48⟩ := (nt_chars hi).2
  have ch := nt_chars lo
  intro y hy
  simp only [o1, List.mem_cons, List.not_mem_nil, or_false] at hy
  rcases hy with rfl | rfl | rfl | rfl | rfl | rfl | rfl | rfl | rfl | rfl
  · exact ⟨part_nodots (by decide +kernel) (code_no (by decide +kernel)), Cln.of_no (by decide +kernel), Sm.of _ (by decide), fun _ _ => take_no (by decide +kernel), fun _ _ => by decide +kernel⟩
  · refine odd7 op sg ft (c := 46) ?_ (lw_c (by decide +kernel)) (by decide) (by decide +kernel) (by decide)
    rw [part_range (by decide +kernel)]
    exact if_pos rfl
  · exact odd7 op sg ft (c := 32) (part_nodots (nodot_app (nt_nodot _) (by decide +kernel)) (code_odd (c := 32) (ne_app (by decide +kernel) _) (by decide))) ((Lw.num _).app (lw_c (by decide +kernel))) (by rw [len_ap]; show _ + 1 ≤ 600; omega) (ne_app (by decide +kernel) _) (by decide)
  · exact odd7 op sg ft (c := 43) (part_nodots (nodot_app (by decide +kernel) (nt_nodot _)) (code_odd (c := 43) (app_ne (by decide +kernel) _) (by decide))) ((lw_c (by decide +kernel)).app (Lw.num _)) (by rw [len_ap]; show 1 + _ ≤ 600; omega) (app_ne (by decide +kernel) _) (by decide)
  · exact odd7 op sg ft (c := 48) (part_nodots (by decide +kernel) (code_no (by decide +kernel))) (lw_c (by decide +kernel)) (by decide) (by decide +kernel) (by decide)
  · refine odd7 op sg ft (c := 46) ?_ (lw_c (by decide +kernel)) (by decide) (by decide +kernel) (by decide)
    rw [part_range (by decide +kernel)]
    exact range_none (.inr (by rw [show (Txt.partition (Str.ofString "1...2") dots).2.2 = Str.ofString ".2" by decide +kernel]; exact end_no (by decide +kernel) (code_no (by decide +kernel))))
  · refine odd7 op sg ft (c := 46) ?_ (lw_c (by decide +kernel)) (by decide) (by decide +kernel) (by decide)
    rw [part_range (by decide +kernel)]
    exact range_none (.inr (by rw [show (Txt.partition (Str.ofString "1..2..3") dots).2.2 = Str.ofString "2..3" by decide +kernel]; exact end_no (by decide +kernel) (code_no (by decide +kernel))))
  · exact odd7 op sg ft (c := 97) (part_nodots (by decide +kernel) (code_no (by decide +kernel))) (lw_c (by decide +kernel)) (by decide) (by decide +kernel) (by decide)
  · have et : tl (numT lo ++ Str.ofString "," ++ numT lo) = tl (numT lo) ++ 44 :: tl (numT lo) := by rw [tl_app, tl_app, List.append_assoc]; rfl
    have m44 : (44 : Nat) ∈ tl (numT lo ++ Str.ofString "," ++ numT lo) := by rw [et]; simp
    refine ⟨part_nodots (nodot_app (nodot_app (nt_nodot _) (by decide +kernel)) (nt_nodot _)) (code_odd m44 (by decide)), fun j hj h32 => ?_, ⟨by rw [len_ap, len_ap]; show _ + 1 + _ ≤ 600; omega, fun c hc => ?_⟩, fun _ _ => take_no fun m => ?_, fun _ _ => ne_bar m44 (by decide)⟩
    · rw [et] at h32
      have := List.mem_of_getElem? h32
      rcases List.mem_append.mp this with m | m
      · rcases ch.1 _ m with z | z <;> omega
      · rcases List.mem_cons.mp m with m | m
        · cases m
        · rcases ch.1 _ m with z | z <;> omega
    · have hc : c ∈ tl (numT lo ++ Str.ofString "," ++ numT lo) := hc
      rw [et] at hc
      have : c < 100 := by
        rcases List.mem_append.mp hc with m | m
        · rcases ch.1 _ m with z | z <;> omega
        · rcases List.mem_cons.mp m with m | m
          · omega
          · rcases ch.1 _ m with z | z <;> omega
      exact Nat.lt_of_lt_of_le this (by decide)
    · rw [et] at m
      rcases List.mem_append.mp m with m | m
      · rcases ch.1 _ m with z | z <;> omega
      · rcases List.mem_cons.mp m with m | m
        · cases m
        · rcases ch.1 _ m with z | z <;> omega
  · exact ⟨part_nodots (by decide +kernel) (code_no (by decide +kernel)), Cln.of_no (by decide +kernel), Sm.of _ (by decide), fun _ _ => by decide +kernel, fun _ _ => by decide +kernel⟩
theorem odd_o2 {lo hi : Int} (op sg ft : Bool) (h : lo ≤ hi) (b1 : bnd lo) (b2 : bnd hi) : ∀ y ∈ o2 lo hi, Odd7 (lo, hi) op sg ft y := by
  have l1 := nlen (bnd1 b1).2.2.1
  have l2 := nlen (bnd1 b2).2.1
  have f1 : codeOf (.inl (lo, hi)) (numT (hi + 1)) = none := code_far (.inr (by show hi < hi + 1; omega))
  have f2 : codeOf (.inl (lo, hi)) (numT (lo - 1)) = none := code_far (.inl (by show lo - 1 < lo; omega))
  have dl : (Str.ofString "..").length = 2 := dots2
  have d46 : (46 : Nat) ∈ tl (Str.ofString "..") := by decide +kernel
  have lw : Lw (Str.ofString "..") := lw_c (by decide +kernel)
  obtain ⟨d, hd, d48⟩ := (nt_chars (hi + 1)).2
  intro y hy
  simp only [o2, List.mem_cons, List.not_mem_nil, or_false] at hy
  rcases hy with rfl | rfl | rfl | rfl | rfl
  · exact odd7 op sg ft (c := d) (part_nodots (nt_nodot _) f1) (Lw.num _) (by omega) hd (by omega)
  · refine odd7 op sg ft (c := 46) ?_ ((Lw.num _).app lw) (by rw [len_ap]; omega) (ne_app d46 _) (by decide)
    have ez : numT (lo - 1) ++ Str.ofString ".." = numT (lo - 1) ++ dots ++ emp := by rw [app_emp]; rfl
    rw [ez]
    exact part_dots (nt_nodot _) emp_nodot (.inl (end_no (nt_ne _) f2))
  · refine odd7 op sg ft (c := 46) ?_ ((Lw.num _).app lw) (by rw [len_ap]; omega) (ne_app d46 _) (by decide)
    have ez : numT (hi + 1) ++ Str.ofString ".." = numT (hi + 1) ++ dots ++ emp := by rw [app_emp]; rfl
    rw [ez]
    exact part_dots (nt_nodot _) emp_nodot (.inl (end_no (nt_ne _) f1))
  · refine odd7 op sg ft (c := 46) ?_ (lw.app (Lw.num _)) (by rw [len_ap]; omega) (app_ne d46 _) (by decide)
    have ez : Str.ofString ".." ++ numT (hi + 1) = emp ++ dots ++ numT (hi + 1) := by rw [emp_app]; rfl
    rw [ez]
    exact part_dots emp_nodot (nt_nodot _) (.inr (end_no (nt_ne _) f1))
  · refine odd7 op sg ft (c := 46) ?_ (lw.app (Lw.num _)) (by rw [len_ap]; omega) (app_ne d46 _) (by decide)
    have ez : Str.ofString ".." ++ numT (lo - 1) = emp ++ dots ++ numT (lo - 1) := by rw [emp_app]; rfl
    rw [ez]
    exact part_dots emp_nodot (nt_nodot _) (.inr (end_no (nt_ne _) f2))
theorem odd_o3 {lo hi : Int} (op sg ft : Bool) (b1 : bnd lo) (b2 : bnd hi) : ∀ y ∈ o3 lo hi, Odd7 (lo, hi) op sg ft y := by
  have l0 := nlen (bnd1 b1).1
  have l1 := nlen (bnd1 b1).2.2.1
  have l2 := nlen (bnd1 b2).2.1
  have l3 := nlen (bnd1 b2).2.2.2
  have l4 := nlen (bnd1 b2).1
  have f1 : codeOf (.inl (lo, hi)) (numT (hi + 1)) = none := code_far (.inr (by show hi < hi + 1; omega))
  have f2 : codeOf (.inl (lo, hi)) (numT (lo - 1)) = none := code_far (.inl (by show lo - 1 < lo; omega))
  have dl : (Str.ofString "..").length = 2 := dots2
  have d46 : (46 : Nat) ∈ tl (Str.ofString "..") := by decide +kernel
  have lw : Lw (Str.ofString "..") := lw_c (by decide +kernel)
  intro y hy
  simp only [o3, List.mem_cons, List.not_mem_nil, or_false] at hy
  rcases hy with rfl | rfl | rfl
  · exact odd7 op sg ft (c := 46) (part_dots (nt_nodot _) (nt_nodot _) (.inr (end_no (nt_ne _) f1))) (((Lw.num _).app lw).app (Lw.num _)) (by rw [len_ap, len_ap]; omega) (app_ne (ne_app d46 _) _) (by decide)
  · exact odd7 op sg ft (c := 46) (part_dots (nt_nodot _) (nt_nodot _) (.inl (end_no (nt_ne _) f2))) (((Lw.num _).app lw).app (Lw.num _)) (by rw [len_ap, len_ap]; omega) (app_ne (ne_app d46 _) _) (by decide)
  · have dl3 : (Str.ofString "..0").length = 3 := by decide +kernel
    refine odd7 op sg ft (c := 46) ?_ (((Lw.num _).app (lw_c (by decide +kernel))).app (Lw.num _)) (by rw [len_ap, len_ap]; omega) (app_ne (ne_app (by decide +kernel) _) _) (by decide)
    have ez : numT lo ++ Str.ofString "..0" ++ numT (absI hi) = numT lo ++ dots ++ (Str.ofString "0" ++ numT (absI hi)) := tl_inj (by rw [tl_app, tl_app, tl_app, tl_app, tl_app, tl_dots, show tl (Str.ofString "..0") = [46, 46] ++ tl (Str.ofString "0") by decide +kernel]; simp)
    rw [ez]
    refine part_dots (nt_nodot _) (nodot_app (by decide +kernel) (nt_nodot _)) (.inr (end_no ?_ (code_no (zero_no (nt_ne _)))))
    rw [tl_app]
    exact fun e => nt_ne _ (List.append_eq_nil_iff.mp e).2
theorem odd_o4 {lo hi : Int} (op sg ft : Bool) (b1 : bnd lo) (b2 : bnd hi) : ∀ y ∈ o4 lo hi, Odd7 (lo, hi) op sg ft y := by
  have l0 := nlen (bnd1 b1).1
  have l4 := nlen (bnd1 b2).1
  intro y hy
  simp only [o4, List.mem_cons, List.not_mem_nil, or_false] at hy
  rcases hy with rfl | rfl | rfl | rfl
  · have dl3 : (Str.ofString " ..").length = 3 := by decide +kernel
    refine odd7 op sg ft (c := 46) ?_ (((Lw.num _).app (lw_c (by decide +kernel))).app (Lw.num _)) (by rw [len_ap, len_ap]; omega) (app_ne (ne_app (by decide +kernel) _) _) (by decide)
    have ez : numT lo ++ Str.ofString " .." ++ numT hi = (numT lo ++ Str.ofString " ") ++ dots ++ numT hi := tl_inj (by rw [tl_app, tl_app, tl_app, tl_app, tl_app, tl_dots, show tl (Str.ofString " ..") = tl (Str.ofString " ") ++ [46, 46] by decide +kernel]; simp)
    rw [ez]
    refine part_dots (nodot_app (nt_nodot _) (by decide +kernel)) (nt_nodot _) (.inl (end_no ?_ (code_odd (c := 32) (ne_app (by decide +kernel) _) (by decide))))
    rw [tl_app]
    exact fun e => nt_ne _ (List.append_eq_nil_iff.mp e).1
  · have dl3 : (Str.ofString ".. ").length = 3 := by decide +kernel
    refine odd7 op sg ft (c := 46) ?_ (((Lw.num _).app (lw_c (by decide +kernel))).app (Lw.num _)) (by rw [len_ap, len_ap]; omega) (app_ne (ne_app (by decide +kernel) _) _) (by decide)
    have ez : numT lo ++ Str.ofString ".. " ++ numT hi = numT lo ++ dots ++ (Str.ofString " " ++ numT hi) := tl_inj (by rw [tl_app, tl_app, tl_app, tl_app, tl_app, tl_dots, show tl (Str.ofString ".. ") = [46, 46] ++ tl (Str.ofString " ") by decide +kernel]; simp)
    rw [ez]
    refine part_dots (nt_nodot _) (nodot_app (by decide +kernel) (nt_nodot _)) (.inr (end_no ?_ (code_odd (c := 32) (app_ne (by decide +kernel) _) (by decide))))
    rw [tl_app]
    exact fun e => nt_ne _ (List.append_eq_nil_iff.mp e).2
  · have dl3 : (Str.ofString "..a").length = 3 := by decide +kernel
    refine odd7 op sg ft (c := 46) ?_ ((Lw.num _).app (lw_c (by decide +kernel))) (by rw [len_ap]; omega) (ne_app (by decide +kernel) _) (by decide)
    have ez : numT lo ++ Str.ofString "..a" = numT lo ++ dots ++ Str.ofString "a" := tl_inj (by rw [tl_app, tl_app, tl_app, tl_dots, show tl (Str.ofString "..a") = [46, 46] ++ tl (Str.ofString "a") by decide +kernel]; simp)
    rw [ez]
    exact part_dots (nt_nodot _) (by decide +kernel) (.inr (end_no (by decide +kernel) (code_no (by decide +kernel))))
  · exact odd7 op sg ft (c := 95) (part_nodots (by decide +kernel) (code_no (by decide +kernel))) (lw_c (by decide +kernel)) (by decide) (by decide +kernel) (by decide)
theorem odd_o5 {lo hi : Int} (op sg ft : Bool) (b1 : bnd lo) : ∀ y ∈ o5 lo, Odd7 (lo, hi) op sg ft y := by
  have l0 := nlen (bnd1 b1).1
  have ch := nt_chars lo
  intro y hy
  simp only [o5, List.mem_cons, List.not_mem_nil, or_false] at hy
  rcases hy with rfl | rfl | rfl
  · exact odd7 op sg ft (c := 32) (part_nodots (nodot_app (by decide +kernel) (nt_nodot _)) (code_odd (c := 32) (app_ne (by decide +kernel) _) (by decide))) ((lw_c (by decide +kernel)).app (Lw.num _)) (by rw [len_ap]; show 1 + _ ≤ 600; omega) (app_ne (by decide +kernel) _) (by decide)
  · exact odd7 op sg ft (c := 32) (part_nodots (by decide +kernel) (code_no (by decide +kernel))) (lw_c (by decide +kernel)) (by decide) (by decide +kernel) (by decide)
  · have et : tl (Str.ofString "Not " ++ numT lo) = [78, 111, 116, 32] ++ tl (numT lo) := by rw [tl_app, show tl (Str.ofString "Not ") = [78, 111, 116, 32] by decide +kernel]
    have all : ∀ c ∈ tl (Str.ofString "Not " ++ numT lo), c < 117 ∧ c ≠ 44 ∧ c ≠ 110 := fun c hc => by
      rw [et] at hc
      rcases List.mem_append.mp hc with m | m
      · simp at m; omega
      · rcases ch.1 _ m with z | z <;> omega
    have m32 : (32 : Nat) ∈ tl (Str.ofString "Not " ++ numT lo) := by rw [et]; simp
    exact ⟨part_nodots (nodot_app (by decide +kernel) (nt_nodot _)) (code_odd m32 (by decide)), Cln.of_no fun m => (all _ m).2.1 rfl, ⟨by rw [len_ap]; show 4 + _ ≤ 600; omega, fun c hc => Nat.lt_of_lt_of_le (all c hc).1 (by decide)⟩, fun _ _ => take_no fun m => (all _ m).2.2 rfl, fun _ _ => ne_bar m32 (by decide)⟩
theorem odd_turn {lo hi : Int} (op sg ft : Bool) (h : lo < hi) (b1 : bnd lo) (b2 : bnd hi) : Odd7 (lo, hi) op sg ft (numT hi ++ Str.ofString ".." ++ numT lo) := by
  have l0 := nlen (bnd1 b1).1
  have l4 := nlen (bnd1 b2).1
  have dl : (Str.ofString "..").length = 2 := dots2
  refine odd7 op sg ft (c := 46) ?_ (((Lw.num _).app (lw_c (by decide +kernel))).app (Lw.num _)) (by rw [len_ap, len_ap]; omega) (app_ne (ne_app (by decide +kernel) _) _) (by decide)
  have ez : numT hi ++ Str.ofString ".." ++ numT lo = numT hi ++ dots ++ numT lo := rfl
  rw [ez, part_range dot_yes, range_ends (nt_nodot _) (nt_nodot _) (.inl (nt_ne _)) (end_num b2 (by show lo ≤ hi; omega) (Int.le_refl _)) (end_num b1 (Int.le_refl _) (by show lo ≤ hi; omega))]
  exact if_pos h
theorem odd_not7 {lo hi : Int} {op sg ft : Bool} (hc : op = true ∨ ft = false) (b1 : bnd lo) : ∀ y ∈ [Str.ofString "not " ++ numT lo, Str.ofString "not -"], Odd7 (lo, hi) op sg ft y := by
  have l0 := nlen (bnd1 b1).1
  have ch := nt_chars lo
  have no : op = false → ft = true → False := fun a b => by rcases hc with c | c <;> simp_all
  intro y hy
  simp only [List.mem_cons, List.not_mem_nil, or_false] at hy
  rcases hy with rfl | rfl
  · have et : tl (Str.ofString "not " ++ numT lo) = [110, 111, 116, 32] ++ tl (numT lo) := by rw [tl_app, show tl (Str.ofString "not ") = [110, 111, 116, 32] by decide +kernel]
    have all : ∀ c ∈ tl (Str.ofString "not " ++ numT lo), c < 117 ∧ c ≠ 44 := fun c hc => by
      rw [et] at hc
      rcases List.mem_append.mp hc with m | m
      · simp at m; omega
      · rcases ch.1 _ m with z | z <;> omega
    have m32 : (32 : Nat) ∈ tl (Str.ofString "not " ++ numT lo) := by rw [et]; simp
    exact ⟨part_nodots (nodot_app (by decide +kernel) (nt_nodot _)) (code_odd m32 (by decide)), Cln.of_no fun m => (all _ m).2 rfl, ⟨by rw [len_ap]; show 4 + _ ≤ 600; omega, fun c hc => Nat.lt_of_lt_of_le (all c hc).1 (by decide)⟩, fun a b => (no a b).elim, fun _ _ => ne_bar m32 (by decide)⟩
  · exact ⟨part_nodots (by decide +kernel) (code_no (by decide +kernel)), Cln.of_no (by decide +kernel), Sm.of _ (by decide), fun a b => (no a b).elim, fun _ _ => by decide +kernel⟩
theorem odd_bar7 {p : Int × Int} {op sg ft : Bool} (hc : ft = false ∨ sg = false) : Odd7 p op sg ft (Str.ofString "-") :=
  ⟨part_bar, Cln.of_no (by decide +kernel), Sm.of _ (by decide), fun _ _ => take_no (by decide +kernel), fun a b => by rcases hc with c | c <;> simp_all⟩
theorem lnum {n : Int} (h : n.natAbs ≤ 10 ^ 60) : (Str.ofString (toString n)).length ≤ 100 := nlen h
theorem len7 {x y : Str} (h1 : x.length ≤ 300) (h2 : y.length ≤ 300) : x.length + y.length ≤ sizeLine := big (by omega)
/-- the text of the parts -/
structure Tx7 (p : Int × Int) (ps : Prs) (sp op : Bool) (t : Str) : Prop where
  st : op = false → Txt.startswith t nott = false
  len : t.length ≤ 100000
  sm : ∀ u ∈ Txt.split t mk2, Sm 600 u
  few : (Txt.split t mk2).length < 64
  ok : sp = false → ∃ qs, partsOf (.inl p) t = some qs ∧ ∀ n, inP qs n = inP ps n
  no : sp = true → partsOf (.inl p) t = none
/-- the parts, and what they write -/
structure Pt7 (p : Int × Int) (W : List Str) (ps : Prs) : Prop where
  ne : W ≠ []
  few : W.length ≤ 60
  ok : ∀ w ∈ W, 44 ∉ tl w ∧ Sm 600 w ∧ (tl w).take 4 ≠ tl nott
  rd : (W = [bar1] ∧ ps = [p]) ∨ (W ≠ [bar1] ∧ allP (partOf (.inl p)) W = some ps)
theorem text_len7 {W : List Str} (few : W.length ≤ 60) (sm : ∀ w ∈ W, Sm 600 w) : (Txt.join mk2 W).length ≤ 100000 := by
  rw [join_is, ← tl_len]
  have h1 := len_join mk2 600 (P := W) fun p hp => by rw [tl_len]; exact (sm p hp).len
  exact Nat.le_trans h1 (Nat.le_trans (Nat.mul_le_mul_right _ few) (by decide))
theorem start7 {W : List Str} (h : ∀ p, W[0]? = some p → (tl p).take 4 ≠ tl nott) (hne : W ≠ []) : Txt.startswith (Txt.join mk2 W) nott = false := by
  cases W with
  | nil => exact absurd rfl hne
  | cons p r => exact take_join (h p rfl)
theorem tx7_good {p : Int × Int} {W : List Str} {ps : Prs} (h : Pt7 p W ps) (op : Bool) : Tx7 p ps false op (Txt.join mk2 W) := by
  have cl : ∀ w ∈ W, Cln w := fun w hw => Cln.of_no (h.ok w hw).1
  have es := split_join2 h.ne cl
  have hf := h.few
  refine ⟨fun _ => start7 (fun q e => (h.ok q (List.mem_of_getElem? e)).2.2) h.ne, text_len7 h.few fun w hw => (h.ok w hw).2.1, by rw [es]; exact fun u hu => (h.ok u hu).2.1, by rw [es]; omega, fun _ => ?_, nofun⟩
  rcases h.rd with ⟨e, e2⟩ | ⟨nb, e⟩
  · refine ⟨[p], ?_, fun _ => by rw [e2]⟩
    rw [e]
    exact parts_bar
  · exact ⟨ps, by rw [parts_join h.ne cl nb]; exact e, fun _ => rfl⟩
theorem tx7_odd {p : Int × Int} {W : List Str} {ps : Prs} {op : Bool} {a : Nat} {y : Str} (h : Pt7 p W ps) (ha : a < W.length) (o : Odd7 p op (decide (W.length = 1)) (decide (a = 0)) y) : Tx7 p ps true op (Txt.join mk2 (W.set a y)) := by
  have ok2 : ∀ w ∈ W.set a y, Cln w ∧ Sm 600 w := fun w hw => by
    rcases List.mem_or_eq_of_mem_set hw with z | z
    · exact ⟨Cln.of_no (h.ok w z).1, (h.ok w z).2.1⟩
    · rw [z]; exact ⟨o.cln, o.sm⟩
  have ne : W.set a y ≠ [] := fun e => by
    have := congrArg List.length e
    rw [List.length_set] at this
    simp at this
    exact h.ne this
  have es := split_join2 ne fun w hw => (ok2 w hw).1
  have hf := h.few
  have at_ : (W.set a y)[a]? = some y := by rw [List.getElem?_set_self ha]
  refine ⟨fun ho => start7 (fun q e => ?_) ne, text_len7 (by rw [List.length_set]; exact h.few) fun w hw => (ok2 w hw).2, by rw [es]; exact fun u hu => (ok2 u hu).2, by rw [es, List.length_set]; omega, nofun, fun _ => ?_⟩
  · by_cases a0 : a = 0
    · rw [a0] at e at_
      rw [at_] at e
      cases e
      exact o.st ho (decide_eq_true a0)
    · rw [List.getElem?_set_ne (by omega)] at e
      exact (h.ok q (List.mem_of_getElem? e)).2.2
  · rw [parts_join ne (fun w hw => (ok2 w hw).1) fun e => ?_]
    · exact allP_none at_ o.out
    · have hl := congrArg List.length e
      rw [List.length_set] at hl
      have hl : W.length = 1 := hl
      have a0 : a = 0 := by omega
      rw [e, a0] at at_
      have : bar1 = y := by simpa using at_
      exact o.bar (decide_eq_true a0) (decide_eq_true hl) this.symm
theorem cut100 (ns : List Int) (h : ns.length ≤ 63) : ∃ ms : List Int, cutV (ns.map V.int) (some 3) (some 103) = ms.map V.int ∧ ms.length ≤ 60 ∧ ∀ m ∈ ms, m ∈ ns := by
  unfold cutV
  refine ⟨(ns.drop (HT.sIx (ns.map V.int).length 0 (some 3))).take (HT.sIx (ns.map V.int).length (ns.map V.int).length (some 103) - HT.sIx (ns.map V.int).length 0 (some 3)), ?_, ?_, fun m hm => List.mem_of_mem_drop (List.mem_of_mem_take hm)⟩
  · rw [List.map_take, List.map_drop]
  · have e0 : HT.sIx (ns.map V.int).length 0 (some 3) = min 3 (ns.map V.int).length := HT.sIx_nat _ _ 3
    rw [e0, List.length_take, List.length_drop, List.length_map]
    omega
theorem len100 {n : Nat} (h : n ≤ 100010) : n ≤ sizeLine := Nat.le_trans h (by decide)
theorem sub_in {lo hi : Int} {R ps : Prs} (ti : TidI R ps) (h : ∀ p ∈ ps, lo ≤ p.1 ∧ p.2 ≤ hi) : ∀ r ∈ R, lo ≤ r.1 ∧ r.2 ≤ hi := fun r hr => by
  have le := ti.ap.le r hr
  have m1 : inP R r.1 = true := List.any_eq_true.mpr ⟨r, hr, by rw [inR_iff]; omega⟩
  have m2 : inP R r.2 = true := List.any_eq_true.mpr ⟨r, hr, by rw [inR_iff]; omega⟩
  rw [ti.mem] at m1 m2
  obtain ⟨q1, h1, k1⟩ := List.any_eq_true.mp m1
  obtain ⟨q2, h2, k2⟩ := List.any_eq_true.mp m2
  rw [inR_iff] at k1 k2
  have := h q1 h1
  have := h q2 h2
  omega
def sp_all_among (K : PySem.W.Frag) (cTableError cBadNumber cBadDomain cBadCell cOutside cDomain cNumbers cWords : Addr) : Sp := fun vs H Q _ => ∃ (z g : Str), vs = [.str z, .str g] ∧ Q (.bl (allIn z g)) H
def sp_is_whole (K : PySem.W.Frag) (cTableError cBadNumber cBadDomain cBadCell cOutside cDomain cNumbers cWords : Addr) : Sp := fun vs H Q _ => ∃ v : V, vs = [v] ∧ Pl v ∧ Q (.bl (isI v)) H
def sp_tidy (K : PySem.W.Frag) (cTableError cBadNumber cBadDomain cBadCell cOutside cDomain cNumbers cWords : Addr) : Sp := fun vs H Q _ => ∃ (a : Addr) (xs : List V) (ps : List (Int × Int)), vs = [.ref a] ∧ SqL K H a xs ∧ PL H xs ps ∧ xs.length < 64 ∧
  ∀ (r : Addr) (H' : Hp) (ys : List V) (R : List (Int × Int)), Same H H' → H r = none → H' r = some (.lst ys) → PL H' ys R → TidI R ps → ys.length ≤ xs.length → Q (.ref r) H'
def sp_both (K : PySem.W.Frag) (cTableError cBadNumber cBadDomain cBadCell cOutside cDomain cNumbers cWords : Addr) : Sp := fun vs H Q _ => ∃ (a b : Addr) (xs ys : List V) (A B : List (Int × Int)), vs = [.ref a, .ref b] ∧ SqL K H a xs ∧ SqL K H b ys ∧ PL H xs A ∧ PL H ys B ∧ Apart A ∧ Apart B ∧ xs.length + ys.length ≤ 900 ∧
  ∀ (r : Addr) (H' : Hp) (zs : List V) (R : List (Int × Int)), Same H H' → H r = none → H' r = some (.lst zs) → PL H' zs R → Apart R → (∀ n, inP R n = (inP A n && inP B n)) → zs.length ≤ xs.length + ys.length → Q (.ref r) H'
def sp_gaps (K : PySem.W.Frag) (cTableError cBadNumber cBadDomain cBadCell cOutside cDomain cNumbers cWords : Addr) : Sp := fun vs H Q _ => ∃ (a : Addr) (xs : List V) (T : List (Int × Int)) (lo hi : Int), vs = [.ref a, .int lo, .int hi] ∧ SqL K H a xs ∧ PL H xs T ∧ Apart T ∧ xs.length ≤ 450 ∧
  ∀ (r : Addr) (H' : Hp) (zs : List V) (F : List (Int × Int)), Same H H' → H r = none → H' r = some (.lst zs) → PL H' zs F → Apart F → (∀ n, inP F n = (decide (lo ≤ n) && decide (n ≤ hi) && !inP T n)) → zs.length ≤ xs.length + 1 → Q (.ref r) H'
def sp_law_cell_at (K : PySem.W.Frag) (cTableError cBadNumber cBadDomain cBadCell cOutside cDomain cNumbers cWords : Addr) : Sp := fun vs H Q _ => ∃ (a : Addr) (ns : List Int) (k : Int), vs = [.ref a, .int k] ∧ SqL K H a (ns.map V.int) ∧ (∀ m ∈ ns, Builtin.Int.intBits m ≤ 2 ^ 20) ∧ 0 ≤ k ∧ ∀ r : Int, Builtin.Int.intBits r ≤ 2 ^ 20 → Q (.int r) H
def sp_law_low (K : PySem.W.Frag) (cTableError cBadNumber cBadDomain cBadCell cOutside cDomain cNumbers cWords : Addr) : Sp := fun vs H Q _ => ∃ c : Int, vs = [.int c] ∧ Builtin.Int.intBits c ≤ 2 ^ 20 ∧ ∀ r : Int, bnd r → Q (.int r) H
def sp_law_high (K : PySem.W.Frag) (cTableError cBadNumber cBadDomain cBadCell cOutside cDomain cNumbers cWords : Addr) : Sp := fun vs H Q _ => ∃ lo c : Int, vs = [.int lo, .int c] ∧ bnd lo ∧ Builtin.Int.intBits c ≤ 2 ^ 20 ∧ ∀ (r : Int) (H' : Hp), Same H H' → lo ≤ r → bnd r → Q (.int r) H'
def sp_law_pair (K : PySem.W.Frag) (cTableError cBadNumber cBadDomain cBadCell cOutside cDomain cNumbers cWords : Addr) : Sp := fun vs H Q _ => ∃ c lo hi : Int, vs = [.int c, .int lo, .int hi] ∧ Builtin.Int.intBits c ≤ 2 ^ 20 ∧ lo ≤ hi ∧ ∀ (t : Addr) (H' : Hp), Same H H' → H' t = some (.tup [.int (pr17 lo hi c).1, .int (pr17 lo hi c).2]) → Q (.ref t) H'
def sp_law_odd (K : PySem.W.Frag) (cTableError cBadNumber cBadDomain cBadCell cOutside cDomain cNumbers cWords : Addr) : Sp := fun vs H Q _ => ∃ (hd lo hi : Int) (op sg ft : Bool), vs = [.int hd, .int lo, .int hi, .bl op, .bl sg, .bl ft] ∧ lo ≤ hi ∧ bnd lo ∧ bnd hi ∧ ∀ (y : Str) (H' : Hp), Same H H' → Odd7 (lo, hi) op sg ft y → Q (.str y) H'
def sp_law_merged (K : PySem.W.Frag) (cTableError cBadNumber cBadDomain cBadCell cOutside cDomain cNumbers cWords : Addr) : Sp := fun vs H Q _ => ∃ (a : Addr) (xs : List V) (ps : List (Int × Int)), vs = [.ref a] ∧ SqL K H a xs ∧ PL H xs ps ∧ xs.length < 64 ∧ (∀ p ∈ ps, p.1 ≤ p.2) ∧
  ∀ (r : Addr) (H' : Hp) (ys : List V) (R : List (Int × Int)), Same H H' → H r = none → H' r = some (.lst ys) → PL H' ys R → TidI R ps → ys.length ≤ xs.length → Q (.ref r) H'
def sp_law_others (K : PySem.W.Frag) (cTableError cBadNumber cBadDomain cBadCell cOutside cDomain cNumbers cWords : Addr) : Sp := fun vs H Q _ => ∃ (a : Addr) (xs : List V) (R : Prs) (lo hi : Int), vs = [.ref a, .int lo, .int hi] ∧ SqL K H a xs ∧ PL H xs R ∧ Apart R ∧ (∀ p ∈ R, lo ≤ p.1 ∧ p.2 ≤ hi) ∧ lo ≤ hi ∧ xs.length ≤ 100 ∧
  ∀ (r : Addr) (H' : Hp) (ys : List V) (S : Prs), Same H H' → H r = none → H' r = some (.lst ys) → PL H' ys S → Apart S → (∀ n, inP S n = (inR n (lo, hi) && !inP R n)) → ys.length ≤ 101 → Q (.ref r) H'
def sp_law_alike (K : PySem.W.Frag) (cTableError cBadNumber cBadDomain cBadCell cOutside cDomain cNumbers cWords : Addr) : Sp := fun vs H Q _ => ∃ (a b : Addr) (xs ys : List V) (R : Prs), vs = [.ref a, .ref b] ∧ H a = some (.lst xs) ∧ H b = some (.lst ys) ∧ PL H xs R ∧ PL H ys R ∧ R.length ≤ 200 ∧ Q (.bl true) H
def sp_Domain___init___Numbers (K : PySem.W.Frag) (cTableError cBadNumber cBadDomain cBadCell cOutside cDomain cNumbers cWords : Addr) : Sp := fun vs H Q _ => ∃ (x dx : Addr) (lo hi : Int), vs = [.ref x, .int lo, .int hi] ∧ H x = some (.ins cNumbers dx []) ∧ Q .non (mkd cNumbers H x dx lo hi)
def sp_Domain_whole_Numbers (K : PySem.W.Frag) (cTableError cBadNumber cBadDomain cBadCell cOutside cDomain cNumbers cWords : Addr) : Sp := fun vs H Q _ => ∃ (a : Addr) (lo hi : Int), vs = [.ref a] ∧ Num cNumbers H a lo hi ∧ ∀ (l t : Addr) (H' : Hp), Same H H' → H l = none → H' l = some (.lst [.ref t]) → H' t = some (.tup [.int lo, .int hi]) → Q (.ref l) H'
def sp_Numbers_borne_code_Numbers (K : PySem.W.Frag) (cTableError cBadNumber cBadDomain cBadCell cOutside cDomain cNumbers cWords : Addr) : Sp := fun vs H Q _ => ∃ (a : Addr) (v : V), vs = [.ref a, v] ∧ Q v H
def sp_is_number (K : PySem.W.Frag) (cTableError cBadNumber cBadDomain cBadCell cOutside cDomain cNumbers cWords : Addr) : Sp := fun vs H Q _ => ∃ (z : Str), vs = [.str z] ∧ z.length ≤ 1000 ∧ Q (.bl (isn z)) H
def sp_without (K : PySem.W.Frag) (cTableError cBadNumber cBadDomain cBadCell cOutside cDomain cNumbers cWords : Addr) : Sp := fun vs H Q _ => ∃ (a b : Addr) (xs ys : List V) (A B : List (Int × Int)), vs = [.ref a, .ref b] ∧ SqL K H a xs ∧ SqL K H b ys ∧ PL H xs A ∧ PL H ys B ∧ Apart A ∧ Apart B ∧ xs.length ≤ 450 ∧ ys.length ≤ 449 ∧
  ∀ (r : Addr) (H' : Hp) (zs : List V) (R : List (Int × Int)), Same H H' → H r = none → H' r = some (.lst zs) → PL H' zs R → Apart R → (∀ n, inP R n = (inP A n && !inP B n)) → zs.length ≤ xs.length + (ys.length + 1) → Q (.ref r) H'
def sp_law_part (K : PySem.W.Frag) (cTableError cBadNumber cBadDomain cBadCell cOutside cDomain cNumbers cWords : Addr) : Sp := fun vs H Q _ => ∃ c lo hi : Int, vs = [.int c, .int lo, .int hi] ∧ Builtin.Int.intBits c ≤ 2 ^ 20 ∧ lo ≤ hi ∧ bnd lo ∧ bnd hi ∧ ∀ H' : Hp, Same H H' → Q (.str (part17 lo hi c)) H'
def sp_Numbers___init___Numbers (K : PySem.W.Frag) (cTableError cBadNumber cBadDomain cBadCell cOutside cDomain cNumbers cWords : Addr) : Sp := fun vs H Q E => ∃ (x dx : Addr) (lo hi : Int), vs = [.ref x, .int lo, .int hi] ∧ H x = some (.ins cNumbers dx []) ∧ (lo ≤ hi → Q .non (mkd cNumbers H x dx lo hi)) ∧ (hi < lo → E (.ref cBadDomain) none H)
def sp_Domain_has_code_Numbers (K : PySem.W.Frag) (cTableError cBadNumber cBadDomain cBadCell cOutside cDomain cNumbers cWords : Addr) : Sp := fun vs H Q _ => ∃ (a : Addr) (lo hi : Int) (v : V), vs = [.ref a, v] ∧ Num cNumbers H a lo hi ∧ Pl v ∧ Q (.bl (inB lo hi v)) H
def sp_number_of (K : PySem.W.Frag) (cTableError cBadNumber cBadDomain cBadCell cOutside cDomain cNumbers cWords : Addr) : Sp := fun vs H Q E => ∃ (z : Str), vs = [.str z] ∧ Sm 600 z ∧ (isn z = true → Q (.int (valz z)) H) ∧ (isn z = false → E (.ref cBadNumber) none H)
def sp_Numbers_bears_Numbers (K : PySem.W.Frag) (cTableError cBadNumber cBadDomain cBadCell cOutside cDomain cNumbers cWords : Addr) : Sp := fun vs H Q _ => ∃ (a : Addr) (lo hi : Int) (v : V), vs = [.ref a, v] ∧ Num cNumbers H a lo hi ∧ Pl v ∧ Q (.bl (inB lo hi v)) H
def sp_Domain_code_Numbers (K : PySem.W.Frag) (cTableError cBadNumber cBadDomain cBadCell cOutside cDomain cNumbers cWords : Addr) : Sp := fun vs H Q E => ∃ (a : Addr) (lo hi : Int) (v : V), vs = [.ref a, v] ∧ Num cNumbers H a lo hi ∧ Shw v ∧ (inB lo hi v = true → Q v H) ∧ (inB lo hi v = false → E (.ref cOutside) none H)
def sp_read_value (K : PySem.W.Frag) (cTableError cBadNumber cBadDomain cBadCell cOutside cDomain cNumbers cWords : Addr) : Sp := fun vs H Q E => ∃ (d : Addr) (z : Str) (p : Int × Int), vs = [.ref d, .str z] ∧ Sm 600 z ∧ Num cNumbers H d p.1 p.2 ∧ (isn z = true → inB p.1 p.2 (.int (valz z)) = true → Q (.int (valz z)) H) ∧ (isn z = true → inB p.1 p.2 (.int (valz z)) = false → E (.ref cOutside) none H) ∧ (isn z = false → E (.ref cBadNumber) none H)
def sp_code_in_cell (K : PySem.W.Frag) (cTableError cBadNumber cBadDomain cBadCell cOutside cDomain cNumbers cWords : Addr) : Sp := fun vs H Q E => ∃ (a : Addr) (p : Int × Int) (z : Str), vs = [.ref a, .str z] ∧ Num cNumbers H a p.1 p.2 ∧ Sm 600 z ∧ (∀ c, codeOf (.inl p) z = some c → Q (.int c) H) ∧ (codeOf (.inl p) z = none → ∀ (H' : Hp) (m : Option Addr), Same H H' → E (.ref cBadCell) m H')
def sp_read_range (K : PySem.W.Frag) (cTableError cBadNumber cBadDomain cBadCell cOutside cDomain cNumbers cWords : Addr) : Sp := fun vs H Q E => ∃ (a : Addr) (p : Int × Int) (z : Str), vs = [.ref a, .str z] ∧ Num cNumbers H a p.1 p.2 ∧ Sm 600 z ∧ inD z = true ∧ (∀ r, rangeOf p z = some r → ∀ (t : Addr) (H' : Hp), Same H H' → H' t = some (.tup [.int r.1, .int r.2]) → Q (.ref t) H') ∧ (rangeOf p z = none → ∀ (H' : Hp) (m : Option Addr), Same H H' → E (.ref cBadCell) m H')
def sp_read_part (K : PySem.W.Frag) (cTableError cBadNumber cBadDomain cBadCell cOutside cDomain cNumbers cWords : Addr) : Sp := fun vs H Q E => ∃ (a : Addr) (p : Int × Int) (z : Str), vs = [.ref a, .str z] ∧ Num cNumbers H a p.1 p.2 ∧ Sm 600 z ∧ (∀ r, partOf (.inl p) z = some r → ∀ (t : Addr) (H' : Hp), Same H H' → H' t = some (.tup [.int r.1, .int r.2]) → Q (.ref t) H') ∧ (partOf (.inl p) z = none → ∀ (H' : Hp) (m : Option Addr), Same H H' → E (.ref cBadCell) m H')
def sp_read_set (K : PySem.W.Frag) (cTableError cBadNumber cBadDomain cBadCell cOutside cDomain cNumbers cWords : Addr) : Sp := fun vs H Q E => ∃ (a : Addr) (p : Int × Int) (z : Str), vs = [.ref a, .str z] ∧ Num cNumbers H a p.1 p.2 ∧ p.1 ≤ p.2 ∧ z.length + 2 ≤ sizeLine ∧ (∀ y ∈ Txt.split z mk2, Sm 600 y) ∧ (Txt.split z mk2).length < 64 ∧
  (∀ ps, partsOf (.inl p) z = some ps → ∀ (l : Addr) (H' : Hp) (ys : List V) (R : Prs), Same H H' → H l = none → H' l = some (.lst ys) → PL H' ys R → Apart R → (∀ n, inP R n = inP ps n) → ys.length ≤ 64 → Q (.ref l) H') ∧ (partsOf (.inl p) z = none → ∀ (H' : Hp) (m : Option Addr), Same H H' → E (.ref cBadCell) m H')
def sp_read_cell (K : PySem.W.Frag) (cTableError cBadNumber cBadDomain cBadCell cOutside cDomain cNumbers cWords : Addr) : Sp := fun vs H Q E => ∃ (a : Addr) (p : Int × Int) (z y : Str) (b : Bool), vs = [.ref a, .str z] ∧ Num cNumbers H a p.1 p.2 ∧ p.1 ≤ p.2 ∧ z.length + 2 ≤ sizeLine ∧ Txt.startswith z (Str.ofString "not ") = b ∧ y = (if b = true then Txt.slice z (some 4) none else z) ∧ y.length + 2 ≤ sizeLine ∧ (∀ u ∈ Txt.split y mk2, Sm 600 u) ∧ (Txt.split y mk2).length < 64 ∧
  (∀ ps, partsOf (.inl p) y = some ps → ∀ (l : Addr) (H' : Hp) (ys : List V) (R : Prs), Same H H' → H l = none → H' l = some (.lst ys) → PL H' ys R → Apart R → (∀ n, inP R n = if b = true then (inR n p && !inP ps n) else inP ps n) → ys.length ≤ 66 → Q (.ref l) H') ∧ (partsOf (.inl p) y = none → ∀ (H' : Hp) (m : Option Addr), Same H H' → E (.ref cBadCell) m H')
def sp_law_refused (K : PySem.W.Frag) (cTableError cBadNumber cBadDomain cBadCell cOutside cDomain cNumbers cWords : Addr) : Sp := fun vs H Q _ => ∃ (a : Addr) (p : Int × Int) (z y : Str) (b : Bool), vs = [.ref a, .str z] ∧ Num cNumbers H a p.1 p.2 ∧ p.1 ≤ p.2 ∧ z.length + 2 ≤ sizeLine ∧ Txt.startswith z (Str.ofString "not ") = b ∧ y = (if b = true then Txt.slice z (some 4) none else z) ∧ y.length + 2 ≤ sizeLine ∧ (∀ u ∈ Txt.split y mk2, Sm 600 u) ∧ (Txt.split y mk2).length < 64 ∧ partsOf (.inl p) y = none ∧ ∀ H', Same H H' → Q (.bl true) H'
def sp_law (K : PySem.W.Frag) : Sp := fun vs H Q _ => ∃ (a : Addr) (ns : List Int), vs = [.ref a] ∧ SqL K H a (ns.map V.int) ∧ ns.length ≤ 63 ∧ (∀ m ∈ ns, Builtin.Int.intBits m ≤ 2 ^ 20) ∧ ∀ H', Q (.bl true) H'
section
variable {P : Program} {w : World} {K : PySem.W.Frag} {mg : Str → Option Value} {base : Heap} {f : Addr} {fd : FuncData} {cTableError cBadNumber cBadDomain cBadCell cOutside cDomain cNumbers cWords : Addr}
theorem ok_all_among (F : Fun K "all_among" "all_among" s_all_among f fd) (bl : Bl K mg cTableError cBadNumber cBadDomain cBadCell cOutside cDomain cNumbers cWords)  : FnOk P w K mg base CX0 1 f fd ["text", "signs"] (sp_all_among K cTableError cBadNumber cBadDomain cBadCell cOutside cDomain cNumbers cWords) := by
  refine F.ok sc_all_among (fun vs H Q E h => ?_) (fun cdv A outer s H vs Q E hr h => ?_)
  · obtain ⟨z, g, rfl, q⟩ := h
    rfl
  obtain ⟨z, g, rfl, q⟩ := h
  refine ⟨_, (pss_cons (ps_for PassesOwn.never rfl (pi_str (pv 0)) (pg_name (i := 2) sc_all_among.nd rfl (Or.inl rfl))
     (pss_one (ps_if (pt_cmpR op_notin_str (pv 2) (pv 1) (by with_unfolding_all rfl))
     (pss_one (ps_ret pe_bl))
     pss_nil)))
     (pss_one (ps_ret pe_bl))), ?_⟩
  refine ⟨_, rfl, z, rfl, for_str (fun i σ H' => (∃ c2 : Option V, σ = [some (.str z), some (.str g), c2]) ∧ H' = H ∧ (z.cps.toList.take i).all (sg g) = true) ⟨⟨_, rfl⟩, rfl, rfl⟩ (fun i c σ H' e h => ?_) (fun σ H' h => ?_)⟩
  · obtain ⟨⟨c2, rfl⟩, e0, ha⟩ := h
    rw [e0]
    refine ⟨_, rfl, _, rfl, _, _, rfl, rfl, _, rfl, ?_⟩
    refine ite2 (fun d => ?_) (fun d => ?_)
    · have z2 : allIn z g = false := all_no e (not_sg d)
      rw [z2] at q; exact q
    · exact ⟨⟨_, rfl⟩, rfl, all_succ e (is_sg d) ha⟩
  · obtain ⟨⟨c2, rfl⟩, e0, ha⟩ := h
    rw [e0]
    rw [all_done ha] at q; exact q
theorem ok_is_whole (F : Fun K "is_whole" "is_whole" s_is_whole f fd) (bl : Bl K mg cTableError cBadNumber cBadDomain cBadCell cOutside cDomain cNumbers cWords)  : FnOk P w K mg base CX0 1 f fd ["value"] (sp_is_whole K cTableError cBadNumber cBadDomain cBadCell cOutside cDomain cNumbers cWords) := by
  refine F.ok sc_is_whole (fun vs H Q E h => ?_) (fun cdv A outer s H vs Q E hr h => ?_)
  · obtain ⟨v, rfl, hv, q⟩ := h
    rfl
  obtain ⟨v, rfl, hv, q⟩ := h
  refine ⟨_, (pss_one (ps_ret (pe_and (pe_callB call_isiG rfl bl.isinstance_ PyProof.Rows.boot_isinstance (pa_cons (pv 0) (pa_cons (pe_bltn (v := .ty "int") rfl bl.int_ PyProof.Rows.boot_int rfl) pa_nil))) (pe_one (pe_not (pe_callB call_isiG rfl bl.isinstance_ PyProof.Rows.boot_isinstance (pa_cons (pv 0) (pa_cons (pe_bltn (v := .ty "bool") rfl bl.bool_ PyProof.Rows.boot_bool rfl) pa_nil)))))))), ?_⟩
  cases v with
  | non => exact ⟨_, rfl, _, _, _, _, false, rfl, .ty _, .inl (.non), (by first | rfl | with_unfolding_all rfl | decide +kernel), _, rfl, iteF q⟩
  | bl b => exact ⟨_, rfl, _, _, _, _, true, rfl, .ty _, .inl (.bl _), (by first | rfl | with_unfolding_all rfl | decide +kernel), _, rfl, iteT ⟨_, rfl, _, _, _, _, true, rfl, .ty _, .inl (.bl _), (by first | rfl | with_unfolding_all rfl | decide +kernel), _, rfl, q⟩⟩
  | int i => exact ⟨_, rfl, _, _, _, _, true, rfl, .ty _, .inl (.int _), (by first | rfl | with_unfolding_all rfl | decide +kernel), _, rfl, iteT ⟨_, rfl, _, _, _, _, false, rfl, .ty _, .inl (.int _), (by first | rfl | with_unfolding_all rfl | decide +kernel), _, rfl, q⟩⟩
  | str z => exact ⟨_, rfl, _, _, _, _, false, rfl, .ty _, .inl (.str _), (by first | rfl | with_unfolding_all rfl | decide +kernel), _, rfl, iteF q⟩
  | _ => exact hv.elim
theorem ok_tidy (F : Fun K "tidy" "tidy" s_tidy f fd) (bl : Bl K mg cTableError cBadNumber cBadDomain cBadCell cOutside cDomain cNumbers cWords)  : FnOk P w K mg base CX0 1 f fd ["pairs"] (sp_tidy K cTableError cBadNumber cBadDomain cBadCell cOutside cDomain cNumbers cWords) := by
  refine F.ok sc_tidy (fun vs H Q E h => ?_) (fun cdv A outer s H vs Q E hr h => ?_)
  · obtain ⟨a, xs, ps, rfl, hS, hP, h64, q⟩ := h
    rfl
  obtain ⟨a, xs, ps, rfl, hS, hP, h64, q⟩ := h
  refine ⟨_, (pss_cons (ps_set (i := 1) sc_tidy.nd rfl (Or.inl rfl) (pe_lst pa_nil))
     (pss_cons (ps_for PassesOwn.never rfl (pi_list (pe_callB call_sorted_pairs rfl bl.sorted_ PyProof.Rows.boot_sorted (pa_cons (pv 0) pa_nil))) (pg_tup rfl (pgs_cons (pg_name (i := 2) sc_tidy.nd rfl (Or.inl rfl)) (pgs_cons (pg_name (i := 3) sc_tidy.nd rfl (Or.inl rfl)) pgs_nil)))
     (pss_cons (ps_if (pt_cmpR op_gt (pv 2) (pv 3) (nomark _))
     (pss_one ps_continue)
     pss_nil)
     (pss_one (ps_if (PW.pt (pw_and (pt_truth (pv 1) (by intro _; rfl)) (pw_and1 (pt_cmpR op_le (pv 2) (pe_op op_add (pe_ix ix_tup (pe_ix ix_list (pv 1) (pe_un un_neg pe_int) (fun _ _ => rfl)) pe_int (fun _ _ => rfl)) pe_int) (nomark _)))))
     (pss_one (ps_asg (pe_tup (pa_cons (pe_ix ix_tup (pe_ix ix_list (pv 1) (pe_un un_neg pe_int) (fun _ _ => rfl)) pe_int (fun _ _ => rfl)) (pa_cons (pe_callB (call_max2 rfl) rfl bl.max_ PyProof.Rows.boot_max (pa_cons (pe_ix ix_tup (pe_ix ix_list (pv 1) (pe_un un_neg pe_int) (fun _ _ => rfl)) pe_int (fun _ _ => rfl)) (pa_cons (pv 3) pa_nil))) pa_nil))) (pg_sub (pv 1) (pe_un un_neg pe_int) set_list)))
     (pss_one (ps_expr (pe_bm PySem.F.plainAttrs_list PySem.F.slot_list_append PySem.F.type_list_append mt_append (pv 1) (pa_cons (pe_tup (pa_cons (pv 2) (pa_cons (pv 3) pa_nil))) pa_nil))))))))
     (pss_one (ps_ret (pv 1))))), ?_⟩
  refine ⟨(by show 0 ≤ sizeLine; decide), fun sp hsp => ?_⟩
  have s0 : Same H (upd H sp (.lst [])) := same_new hsp _
  refine ⟨_, rfl, a, xs, ps, rfl, s0.seq hS, hP.mono s0.tups, h64, fun D zs qs hD hZ hperm hsort => ?_⟩
  have eD : H D = none := s0.free hD
  have nDs : sp ≠ D := ne_of_none upd_same hD
  have hlen : zs.length = xs.length := by rw [hZ.length, hperm.length_eq, ← hP.length]
  refine ⟨D, rfl, ⟨_, SqL.of upd_same⟩, for_list (xs := zs) (fun i σ H' => ∃ (c2 c3 : Option V) (ys : List V) (R : List (Int × Int)), σ = [some (.ref a), some (.ref sp), c2, c3] ∧ Same H H' ∧ H' D = some (.lst zs) ∧ H' sp = some (.lst ys) ∧ PL H' ys R ∧ PL H' zs qs ∧ TidI R (qs.take i) ∧ ys.length ≤ i)
    ⟨none, none, [], [], rfl, s0.trans (same_new hD _), upd_same, ret_r1 upd_same hD, .nil, hZ, TidI.nil, Nat.zero_le _⟩
    (fun i σ H' _ h => by obtain ⟨_, _, _, _, _, _, e, _⟩ := h; exact SqL.of e) (fun i x σ H' e h => ?_) (fun σ H' h => ?_)⟩
  · obtain ⟨c2, c3, ys, R, rfl, sm, eZ, eY, hY, hZ', ti, hl⟩ := h
    obtain ⟨p, r, e1, rfl, hr'⟩ := hZ'.get e
    have hle := sorted_le hsort e1
    have hi : i < zs.length := (List.getElem?_eq_some_iff.mp e).1
    refine ⟨r, _, rfl, SqT.of hr', rfl, _, _, rfl, _, _, rfl, rfl, ?_⟩
    refine ⟨_, rfl, _, rfl, _, _, rfl, rfl, _, rfl, ?_⟩
    refine ite2 (fun c => ?_) (fun c => ?_)
    · have c' : p.2 < p.1 := dec_t c
      exact ⟨_, _, ys, R, rfl, sm, eZ, eY, hY, hZ', by rw [take_snoc e1]; exact ti.skip c', by omega⟩
    have c' : p.1 ≤ p.2 := Int.not_lt.mp (dec_f c)
    -- behind: the pair is put at the end
    have put : (∀ r0 ∈ R, r0.2 + 2 ≤ p.1) → ∀ t, H' t = none → ∃ (c2 c3 : Option V) (ys2 : List V) (R2 : List (Int × Int)), [some (V.ref a), some (V.ref sp), some (V.int p.1), some (V.int p.2)] = [some (.ref a), some (.ref sp), c2, c3] ∧ Same H (upd (upd H' t (.tup [.int p.1, .int p.2])) sp (.lst (ys ++ [.ref t]))) ∧ upd (upd H' t (.tup [.int p.1, .int p.2])) sp (.lst (ys ++ [.ref t])) D = some (.lst zs) ∧
        upd (upd H' t (.tup [.int p.1, .int p.2])) sp (.lst (ys ++ [.ref t])) sp = some (.lst ys2) ∧ PL (upd (upd H' t (.tup [.int p.1, .int p.2])) sp (.lst (ys ++ [.ref t]))) ys2 R2 ∧ PL (upd (upd H' t (.tup [.int p.1, .int p.2])) sp (.lst (ys ++ [.ref t]))) zs qs ∧ TidI R2 (qs.take (i + 1)) ∧ ys2.length ≤ i + 1 := fun hgap t ht => by
      have e3 : upd H' t (.tup [.int p.1, .int p.2]) sp = some (.lst ys) := ret_r1 eY ht
      have st1 : SameT H' (upd (upd H' t (.tup [.int p.1, .int p.2])) sp (.lst (ys ++ [.ref t]))) := (sameT_new ht).trans (sameT_lst e3)
      refine ⟨_, _, ys ++ [.ref t], R ++ [p], rfl, (sm.trans (same_new ht _)).upd hsp, by rw [upd_ne nDs.symm]; exact ret_r1 eZ ht, upd_same, (hY.mono st1).snoc (sameT_lst e3 _ _ upd_same), hZ'.mono st1, by rw [take_snoc e1]; exact ti.add c' hgap, ?_⟩
      rw [List.length_append, List.length_singleton]; omega
    refine ⟨_, rfl, !ys.isEmpty, .inl ⟨ys, SqL.of eY, rfl⟩, ?_⟩
    by_cases hne : ys = []
    · have hR : R = [] := by
        have := hY.length
        rw [hne] at this
        exact List.eq_nil_of_length_eq_zero this.symm
      have eE : (!ys.isEmpty) = false := by rw [hne]; rfl
      rw [eE]
      refine iteF (iteF ?_)
      refine ⟨_, rfl, .inl ⟨rfl, _, SqL.of eY⟩, _, rfl, _, rfl, (by show 2 ≤ sizeLine; decide), fun t ht => ?_⟩
      refine ⟨sp, ys, _, rfl, rfl, ret_r1 eY ht, small1000 (by omega), ?_⟩
      exact put (by rw [hR]; intro r0 h0; cases h0) t ht
    · obtain ⟨ys', rl, R', l, rfl, rfl, hY2, hrl⟩ := PL.last hY hne
      have eE : (!(ys' ++ [V.ref rl]).isEmpty) = true := by cases ys' <;> rfl
      rw [eE]
      refine iteT ?_
      refine ⟨_, rfl, _, rfl, _, rfl, sp, _, _, _, rfl, rfl, SqL.of eY, atI_last _ _, rl, _, _, _, rfl, rfl, SqT.of hrl, z1 _ _, _, _, rfl, rfl, _, _, rfl, rfl, _, rfl, ?_⟩
      refine ite2 (fun d => ?_) (fun d => ?_)
      · have d' : p.1 ≤ l.2 + 1 := dec_t d
        have hl1 : l.1 ≤ p.1 := by
          obtain ⟨q0, hq0, e0⟩ := ti.low l (by simp)
          rw [e0]; exact hle q0 hq0
        refine ⟨_, rfl, _, rfl, sp, _, _, _, rfl, rfl, SqL.of eY, atI_last _ _, rl, _, _, _, rfl, rfl, SqT.of hrl, z0 _ _, _, rfl, _, rfl, sp, _, _, _, rfl, rfl, SqL.of eY, atI_last _ _, rl, _, _, _, rfl, rfl, SqT.of hrl, z1 _ _, _, rfl, _, _, rfl, (by show 2 ≤ sizeLine; decide), fun t ht => ?_⟩
        have e3 : upd H' t (.tup [.int l.1, .int (if p.2 > l.2 then p.2 else l.2)]) sp = some (.lst (ys' ++ [.ref rl])) := ret_r1 eY ht
        refine ⟨_, rfl, _, rfl, sp, _, _, _, rfl, rfl, e3, ixN_last (by simp), ?_⟩
        rw [set_last]
        have st1 : SameT H' (upd (upd H' t (.tup [.int l.1, .int (if p.2 > l.2 then p.2 else l.2)])) sp (.lst (ys' ++ [.ref t]))) := (sameT_new ht).trans (sameT_lst e3)
        refine ⟨_, _, ys' ++ [.ref t], R' ++ [(l.1, if p.2 > l.2 then p.2 else l.2)], rfl, (sm.trans (same_new ht _)).upd hsp, by rw [upd_ne nDs.symm]; exact ret_r1 eZ ht, upd_same, (hY2.mono st1).snoc (sameT_lst e3 _ _ upd_same), hZ'.mono st1, ?_, ?_⟩
        · rw [take_snoc e1]
          exact ti.join hl1 d' c' (by split <;> omega)
        · rw [List.length_append, List.length_singleton] at hl ⊢; omega
      · have d' : ¬ p.1 ≤ l.2 + 1 := dec_f d
        refine ⟨_, rfl, .inl ⟨rfl, _, SqL.of eY⟩, _, rfl, _, rfl, (by show 2 ≤ sizeLine; decide), fun t ht => ?_⟩
        refine ⟨sp, _, _, rfl, rfl, ret_r1 eY ht, small1000 (by omega), ?_⟩
        exact put (ti.ap.last (by omega)) t ht
  · obtain ⟨c2, c3, ys, R, rfl, sm, eZ, eY, hY, hZ', ti, hl⟩ := h
    rw [hZ'.length, List.take_length] at ti
    exact ⟨_, rfl, q sp H' ys R sm hsp eY hY (ti.perm hperm) (by omega)⟩
theorem ok_both (F : Fun K "both" "both" s_both f fd) (bl : Bl K mg cTableError cBadNumber cBadDomain cBadCell cOutside cDomain cNumbers cWords)  : FnOk P w K mg base CX0 1 f fd ["ones", "others"] (sp_both K cTableError cBadNumber cBadDomain cBadCell cOutside cDomain cNumbers cWords) := by
  refine F.ok sc_both (fun vs H Q E h => ?_) (fun cdv A outer s H vs Q E hr h => ?_)
  · obtain ⟨a, b, xs, ys, A0, B0, rfl, hA, hB, PA, PB, aA, aB, hl, q⟩ := h
    rfl
  obtain ⟨a, b, xs, ys, A0, B0, rfl, hA, hB, PA, PB, aA, aB, hl, q⟩ := h
  refine ⟨_, (pss_cons (ps_set (i := 2) sc_both.nd rfl (Or.inl rfl) (pe_lst pa_nil))
     (pss_cons (ps_set (i := 3) sc_both.nd rfl (Or.inl rfl) pe_int)
     (pss_cons (ps_set (i := 4) sc_both.nd rfl (Or.inl rfl) pe_int)
     (pss_cons (ps_while PassesOwn.never (PW.pt (pw_and (pt_cmpR op_lt (pv 3) (pe_callB call_len_seq rfl bl.len_ PySem.boot_len (pa_cons (pv 0) pa_nil)) (nomark _)) (pw_and1 (pt_cmpR op_lt (pv 4) (pe_callB call_len_seq rfl bl.len_ PySem.boot_len (pa_cons (pv 1) pa_nil)) (nomark _)))))
     (pss_cons (ps_set (i := 5) sc_both.nd rfl (Or.inl rfl) (pe_ix ix_list (pv 0) (pv 3) (fun _ _ => rfl)))
     (pss_cons (ps_set (i := 6) sc_both.nd rfl (Or.inl rfl) (pe_ix ix_list (pv 1) (pv 4) (fun _ _ => rfl)))
     (pss_cons (ps_set (i := 7) sc_both.nd rfl (Or.inl rfl) (pe_callB (call_max2 rfl) rfl bl.max_ PyProof.Rows.boot_max (pa_cons (pe_ix ix_tup (pv 5) pe_int (fun _ _ => rfl)) (pa_cons (pe_ix ix_tup (pv 6) pe_int (fun _ _ => rfl)) pa_nil))))
     (pss_cons (ps_set (i := 8) sc_both.nd rfl (Or.inl rfl) (pe_callB (call_min2 rfl) rfl bl.min_ PyProof.Rows.boot_min (pa_cons (pe_ix ix_tup (pv 5) pe_int (fun _ _ => rfl)) (pa_cons (pe_ix ix_tup (pv 6) pe_int (fun _ _ => rfl)) pa_nil))))
     (pss_cut (ps_if (pt_cmpR op_le (pv 7) (pv 8) (nomark _))
     (pss_one (ps_expr (pe_bm PySem.F.plainAttrs_list PySem.F.slot_list_append PySem.F.type_list_append mt_append (pv 2) (pa_cons (pe_tup (pa_cons (pv 7) (pa_cons (pv 8) pa_nil))) pa_nil))))
     pss_nil)
     (pss_one (ps_if (pt_cmpR op_lt (pe_ix ix_tup (pv 5) pe_int (fun _ _ => rfl)) (pe_ix ix_tup (pv 6) pe_int (fun _ _ => rfl)) (nomark _))
     (pss_one (ps_aug (i := 3) sc_both.nd rfl (Or.inl rfl) pe_int ip_add))
     (pss_one (ps_aug (i := 4) sc_both.nd rfl (Or.inl rfl) pe_int ip_add))))))))))
     (pss_one (ps_ret (pv 2))))))), ?_⟩
  refine ⟨(by show 0 ≤ sizeLine; decide), fun sh hsh => ?_⟩
  have s0 : Same H (upd H sh (.lst [])) := same_new hsh _
  have lA := PA.length
  have lB := PB.length
  refine ⟨fun m σ H' => ∃ (i j : Nat) (c5 c6 c7 c8 : Option V) (zs : List V) (S : List (Int × Int)), σ = [some (.ref a), some (.ref b), some (.ref sh), some (.int i), some (.int j), c5, c6, c7, c8] ∧ Same H H' ∧ H' sh = some (.lst zs) ∧ PL H' zs S ∧ BothI S (A0.drop i) (B0.drop j) A0 B0 ∧ i ≤ A0.length ∧ j ≤ B0.length ∧ zs.length ≤ i + j ∧ m = (A0.length - i) + (B0.length - j),
    ⟨_, 0, 0, none, none, none, none, [], [], rfl, s0, upd_same, .nil, BothI.start aA aB, Nat.zero_le _, Nat.zero_le _, Nat.zero_le _, rfl⟩, ?_⟩
  rintro m σ H' ⟨i, j, c5, c6, c7, c8, zs, S, rfl, sm, eS, hP, bi, hi, hj, hz, hm⟩
  have hA' := sm.seq hA
  have hB' := sm.seq hB
  have PA' := PA.mono sm.tups
  have PB' := PB.mono sm.tups
  have done : (i = A0.length ∨ j = B0.length) → Q (.ref sh) H' := fun e => q sh H' zs S sm hsh eS hP bi.ap (bi.fin (by
    rcases e with e | e
    · exact .inl (by rw [e]; exact List.drop_length)
    · exact .inr (by rw [e]; exact List.drop_length))) (by omega)
  refine ⟨_, rfl, _, rfl, a, _, rfl, .inl (hA'), _, _, rfl, rfl, _, rfl, ?_⟩
  refine ite2 (fun c => ?_) (fun c => ?_)
  · have ci : i < A0.length := by have : (i : Int) < ((xs.length : Nat) : Int) := dec_t c; omega
    refine ⟨_, rfl, _, rfl, b, _, rfl, .inl (hB'), _, _, rfl, rfl, _, rfl, ?_⟩
    refine ite2 (fun d => ?_) (fun d => ?_)
    · have cj : j < B0.length := by have : (j : Int) < ((ys.length : Nat) : Int) := dec_t d; omega
      have ex : xs[i]? = some xs[i] := List.getElem?_eq_getElem (by omega)
      have ey : ys[j]? = some ys[j] := List.getElem?_eq_getElem (by omega)
      obtain ⟨pa, ra, f1, f2, f3⟩ := PA'.get ex
      obtain ⟨pb, rb, g1, g2, g3⟩ := PB'.get ey
      have va : atI xs (i : Int) = some (.ref ra) := by rw [← f2]; exact atI_nat ex
      have vb : atI ys (j : Int) = some (.ref rb) := by rw [← g2]; exact atI_nat ey
      have dA : A0.drop i = pa :: A0.drop (i + 1) := by
        obtain ⟨h1, h2⟩ := List.getElem?_eq_some_iff.mp f1
        rw [List.drop_eq_getElem_cons h1, h2]
      have dB : B0.drop j = pb :: B0.drop (j + 1) := by
        obtain ⟨h1, h2⟩ := List.getElem?_eq_some_iff.mp g1
        rw [List.drop_eq_getElem_cons h1, h2]
      rw [dA, dB] at bi
      have hc : ((if pb.1 > pa.1 then pb.1 else pa.1), (if pb.2 < pa.2 then pb.2 else pa.2)).1 = max pa.1 pb.1 ∧ ((if pb.1 > pa.1 then pb.1 else pa.1), (if pb.2 < pa.2 then pb.2 else pa.2)).2 = min pa.2 pb.2 := by
        constructor
        · show (if pb.1 > pa.1 then pb.1 else pa.1) = _; split <;> omega
        · show (if pb.2 < pa.2 then pb.2 else pa.2) = _; split <;> omega
      generalize hcl : (if pb.1 > pa.1 then pb.1 else pa.1) = cl at hc
      generalize hch : (if pb.2 < pa.2 then pb.2 else pa.2) = ch at hc
      refine ⟨_, fun σ' H2 w => w, ?_⟩
      refine ⟨_, rfl, _, rfl, a, _, _, _, rfl, rfl, hA', va, ?_⟩
      refine ⟨_, rfl, _, rfl, b, _, _, _, rfl, rfl, hB', vb, ?_⟩
      refine ⟨_, rfl, ra, _, _, _, rfl, rfl, SqT.of f3, z0 _ _, _, rfl, rb, _, _, _, rfl, rfl, SqT.of g3, z0 _ _, _, _, rfl, ?_⟩
      rw [hcl]
      refine ⟨_, rfl, ra, _, _, _, rfl, rfl, SqT.of f3, z1 _ _, _, rfl, rb, _, _, _, rfl, rfl, SqT.of g3, z1 _ _, _, _, rfl, ?_⟩
      rw [hch]
      refine ⟨fun σ' H2 => σ' = [some (.ref a), some (.ref b), some (.ref sh), some (.int i), some (.int j), some (.ref ra), some (.ref rb), some (.int cl), some (.int ch)] ∧ Same H H2 ∧ H2 ra = some (.tup [.int pa.1, .int pa.2]) ∧ H2 rb = some (.tup [.int pb.1, .int pb.2]) ∧ ∃ zs2 S2, H2 sh = some (.lst zs2) ∧ PL H2 zs2 S2 ∧ zs2.length ≤ i + j + 1 ∧
        ((cl ≤ ch ∧ S2 = S ++ [(cl, ch)]) ∨ (¬ cl ≤ ch ∧ S2 = S)), ?_, ?_⟩
      · refine ⟨_, rfl, _, rfl, _, _, rfl, rfl, _, rfl, ?_⟩
        refine ite2 (fun e => ?_) (fun e => ?_)
        · refine ⟨_, rfl, .inl ⟨rfl, _, SqL.of eS⟩, _, rfl, _, rfl, (by show 2 ≤ sizeLine; decide), fun t ht => ?_⟩
          have e3 : upd H' t (.tup [.int cl, .int ch]) sh = some (.lst zs) := ret_r1 eS ht
          refine ⟨sh, zs, _, rfl, rfl, e3, small1000 (by omega), ?_⟩
          have st1 : SameT H' (upd (upd H' t (.tup [.int cl, .int ch])) sh (.lst (zs ++ [.ref t]))) := (sameT_new ht).trans (sameT_lst e3)
          exact ⟨rfl, (sm.trans (same_new ht _)).upd hsh, st1 _ _ f3, st1 _ _ g3, zs ++ [.ref t], S ++ [(cl, ch)], upd_same, (hP.mono st1).snoc (sameT_lst e3 _ _ upd_same), by rw [List.length_append, List.length_singleton]; omega, .inl ⟨dec_t e, rfl⟩⟩
        · exact ⟨rfl, sm, f3, g3, zs, S, eS, hP, by omega, .inr ⟨dec_f e, rfl⟩⟩
      rintro σ2 H2 ⟨rfl, sm2, f4, g4, zs2, S2, eS2, hP2, hz2, hor⟩
      refine ⟨_, rfl, ra, _, _, _, rfl, rfl, SqT.of f4, z1 _ _, _, rfl, rb, _, _, _, rfl, rfl, SqT.of g4, z1 _ _, _, _, rfl, rfl, _, rfl, ?_⟩
      refine ite2 (fun e => ?_) (fun e => ?_)
      · refine ⟨_, rfl, _, _, rfl, rfl, ?_⟩
        have bl2 := bi.left (dec_t e) hc
        rw [← dB] at bl2
        refine ⟨_, ?_, i + 1, j, _, _, _, _, zs2, S2, rfl, sm2, eS2, hP2, ?_, ci, hj, by omega, rfl⟩
        · omega
        · rcases hor with ⟨h1, h2⟩ | ⟨h1, h2⟩
          · rw [h2]; exact bl2.1 h1
          · rw [h2]; exact bl2.2 h1
      · refine ⟨_, rfl, _, _, rfl, rfl, ?_⟩
        have bl2 := bi.right (dec_f e) hc
        rw [← dA] at bl2
        refine ⟨_, ?_, i, j + 1, _, _, _, _, zs2, S2, rfl, sm2, eS2, hP2, ?_, hi, cj, by omega, rfl⟩
        · omega
        · rcases hor with ⟨h1, h2⟩ | ⟨h1, h2⟩
          · rw [h2]; exact bl2.1 h1
          · rw [h2]; exact bl2.2 h1
    · have cj : j = B0.length := by have : ¬ (j : Int) < ((ys.length : Nat) : Int) := dec_f d; omega
      exact ⟨_, rfl, done (.inr cj)⟩
  · have ci : i = A0.length := by have : ¬ (i : Int) < ((xs.length : Nat) : Int) := dec_f c; omega
    exact iteF ⟨_, rfl, done (.inl ci)⟩
theorem ok_gaps (F : Fun K "gaps" "gaps" s_gaps f fd) (bl : Bl K mg cTableError cBadNumber cBadDomain cBadCell cOutside cDomain cNumbers cWords)  : FnOk P w K mg base CX0 1 f fd ["spans", "low", "high"] (sp_gaps K cTableError cBadNumber cBadDomain cBadCell cOutside cDomain cNumbers cWords) := by
  refine F.ok sc_gaps (fun vs H Q E h => ?_) (fun cdv A outer s H vs Q E hr h => ?_)
  · obtain ⟨a, xs, T0, lo, hi, rfl, hS, hP, ap, hl, q⟩ := h
    rfl
  obtain ⟨a, xs, T0, lo, hi, rfl, hS, hP, ap, hl, q⟩ := h
  refine ⟨_, (pss_cons (ps_set (i := 3) sc_gaps.nd rfl (Or.inl rfl) (pe_lst pa_nil))
     (pss_cons (ps_set (i := 4) sc_gaps.nd rfl (Or.inl rfl) (pv 1))
     (pss_cons (ps_for PassesOwn.never rfl (pi_list (pv 0)) (pg_tup rfl (pgs_cons (pg_name (i := 5) sc_gaps.nd rfl (Or.inl rfl)) (pgs_cons (pg_name (i := 6) sc_gaps.nd rfl (Or.inl rfl)) pgs_nil)))
     (pss_cons (ps_set (i := 7) sc_gaps.nd rfl (Or.inl rfl) (pe_callB (call_min2 rfl) rfl bl.min_ PyProof.Rows.boot_min (pa_cons (pe_op op_sub (pv 5) pe_int) (pa_cons (pv 2) pa_nil))))
     (pss_cut (ps_if (pt_cmpR op_le (pv 4) (pv 7) (nomark _))
     (pss_one (ps_expr (pe_bm PySem.F.plainAttrs_list PySem.F.slot_list_append PySem.F.type_list_append mt_append (pv 3) (pa_cons (pe_tup (pa_cons (pv 4) (pa_cons (pv 7) pa_nil))) pa_nil))))
     pss_nil)
     (pss_one (ps_set (i := 4) sc_gaps.nd rfl (Or.inl rfl) (pe_callB (call_max2 rfl) rfl bl.max_ PyProof.Rows.boot_max (pa_cons (pv 4) (pa_cons (pe_op op_add (pv 6) pe_int) pa_nil))))))))
     (pss_cons (ps_if (pt_cmpR op_le (pv 4) (pv 2) (nomark _))
     (pss_one (ps_expr (pe_bm PySem.F.plainAttrs_list PySem.F.slot_list_append PySem.F.type_list_append mt_append (pv 3) (pa_cons (pe_tup (pa_cons (pv 4) (pa_cons (pv 2) pa_nil))) pa_nil))))
     pss_nil)
     (pss_one (ps_ret (pv 3))))))), ?_⟩
  refine ⟨(by show 0 ≤ sizeLine; decide), fun fr hfr => ?_⟩
  have s0 : Same H (upd H fr (.lst [])) := same_new hfr _
  refine ⟨_, rfl, ?_⟩
  refine ⟨_, rfl, a, rfl, ⟨_, s0.seq hS⟩, for_list (xs := xs) (fun i σ H' => ∃ (st : Int) (c5 c6 c7 : Option V) (zs : List V) (F : List (Int × Int)), σ = [some (.ref a), some (.int lo), some (.int hi), some (.ref fr), some (.int st), c5, c6, c7] ∧ Same H H' ∧ H' fr = some (.lst zs) ∧ PL H' zs F ∧ GapI F (T0.take i) lo hi st ∧ zs.length ≤ i)
    ⟨lo, none, none, none, [], [], rfl, s0, upd_same, .nil, GapI.start lo hi, Nat.zero_le _⟩
    (fun i σ H' _ h => by obtain ⟨_, _, _, _, _, _, _, sm, _⟩ := h; exact sm.seq hS) (fun i x σ H' e h => ?_) (fun σ H' h => ?_)⟩
  · obtain ⟨st, c5, c6, c7, zs, F0, rfl, sm, eF, hF, gi, hz⟩ := h
    obtain ⟨p, r, e1, rfl, hr'⟩ := (hP.mono sm.tups).get e
    have hi' : i < xs.length := (List.getElem?_eq_some_iff.mp e).1
    refine ⟨r, _, rfl, SqT.of hr', rfl, _, _, rfl, _, _, rfl, rfl, ?_⟩
    refine ⟨_, rfl, _, _, rfl, rfl, _, rfl, _, _, rfl, ?_⟩
    have tk := take_snoc e1
    have ap' : Apart (T0.take i ++ [p]) := by rw [← tk]; exact ap.take _
    generalize he : (if hi < p.1 - 1 then hi else p.1 - 1) = en
    have he' : en = min (p.1 - 1) hi := by rw [← he]; split <;> omega
    have hs' : (if p.2 + 1 > st then p.2 + 1 else st) = max st (p.2 + 1) := by split <;> omega
    have gt := gi.turn (st' := if p.2 + 1 > st then p.2 + 1 else st) (e := en) ap' he' hs'
    refine ⟨fun σ' H2 => σ' = [some (.ref a), some (.int lo), some (.int hi), some (.ref fr), some (.int st), some (.int p.1), some (.int p.2), some (.int en)] ∧ Same H H2 ∧ ∃ zs2 F2, H2 fr = some (.lst zs2) ∧ PL H2 zs2 F2 ∧ zs2.length ≤ i + 1 ∧ GapI F2 (T0.take i ++ [p]) lo hi (if p.2 + 1 > st then p.2 + 1 else st), ?_, ?_⟩
    · refine ⟨_, rfl, _, rfl, _, _, rfl, rfl, _, rfl, ?_⟩
      refine ite2 (fun c => ?_) (fun c => ?_)
      · refine ⟨_, rfl, .inl ⟨rfl, _, SqL.of eF⟩, _, rfl, _, rfl, (by show 2 ≤ sizeLine; decide), fun t ht => ?_⟩
        have e3 : upd H' t (.tup [.int st, .int en]) fr = some (.lst zs) := ret_r1 eF ht
        refine ⟨fr, zs, _, rfl, rfl, e3, small1000 (by omega), ?_⟩
        have st1 : SameT H' (upd (upd H' t (.tup [.int st, .int en])) fr (.lst (zs ++ [.ref t]))) := (sameT_new ht).trans (sameT_lst e3)
        exact ⟨rfl, (sm.trans (same_new ht _)).upd hfr, zs ++ [.ref t], F0 ++ [(st, en)], upd_same, (hF.mono st1).snoc (sameT_lst e3 _ _ upd_same), by rw [List.length_append, List.length_singleton]; omega, gt.1 (dec_t c)⟩
      · exact ⟨rfl, sm, zs, F0, eF, hF, by omega, gt.2 (dec_f c)⟩
    rintro σ2 H2 ⟨rfl, sm2, zs2, F2, eF2, hF2, hz2, g2⟩
    refine ⟨_, rfl, _, rfl, _, _, rfl, rfl, _, _, rfl, ?_⟩
    exact ⟨_, _, _, _, zs2, F2, rfl, sm2, eF2, hF2, by rw [tk]; exact g2, hz2⟩
  · obtain ⟨st, c5, c6, c7, zs, F0, rfl, sm, eF, hF, gi, hz⟩ := h
    rw [hP.length, List.take_length] at gi
    have gf := gi.fin
    refine ⟨_, rfl, _, rfl, _, _, rfl, rfl, _, rfl, ?_⟩
    refine ite2 (fun c => ?_) (fun c => ?_)
    · refine ⟨_, rfl, .inl ⟨rfl, _, SqL.of eF⟩, _, rfl, _, rfl, (by show 2 ≤ sizeLine; decide), fun t ht => ?_⟩
      have e3 : upd H' t (.tup [.int st, .int hi]) fr = some (.lst zs) := ret_r1 eF ht
      refine ⟨fr, zs, _, rfl, rfl, e3, small1000 (by omega), ?_⟩
      have st1 : SameT H' (upd (upd H' t (.tup [.int st, .int hi])) fr (.lst (zs ++ [.ref t]))) := (sameT_new ht).trans (sameT_lst e3)
      have g1 := gf.1 (dec_t c)
      exact ⟨_, rfl, q fr _ (zs ++ [.ref t]) (F0 ++ [(st, hi)]) ((sm.trans (same_new ht _)).upd hfr) hfr upd_same ((hF.mono st1).snoc (sameT_lst e3 _ _ upd_same)) g1.1 g1.2 (by rw [List.length_append, List.length_singleton]; omega)⟩
    · have g1 := gf.2 (dec_f c)
      exact ⟨_, rfl, q fr H' zs F0 sm hfr eF hF g1.1 g1.2 (by omega)⟩
theorem ok_law_cell_at (F : Fun K "_law_cell_at" "_law_cell_at" s_law_cell_at f fd) (bl : Bl K mg cTableError cBadNumber cBadDomain cBadCell cOutside cDomain cNumbers cWords)  : FnOk P w K mg base CX0 1 f fd ["script", "k"] (sp_law_cell_at K cTableError cBadNumber cBadDomain cBadCell cOutside cDomain cNumbers cWords) := by
  refine F.ok sc_law_cell_at (fun vs H Q E h => ?_) (fun cdv A outer s H vs Q E hr h => ?_)
  · obtain ⟨a, ns, k, rfl, hS, hB, h0, q⟩ := h
    rfl
  obtain ⟨a, ns, k, rfl, hS, hB, h0, q⟩ := h
  refine ⟨_, (pss_cons (ps_if (pt_cmpR op_lt (pv 1) (pe_callB call_len_seq rfl bl.len_ PySem.boot_len (pa_cons (pv 0) pa_nil)) (nomark _))
     (pss_one (ps_ret (pe_ix ix_list (pv 0) (pv 1) (fun _ _ => rfl))))
     pss_nil)
     (pss_one (ps_ret pe_int))), ?_⟩
  refine ⟨_, rfl, _, rfl, a, _, rfl, .inl hS, _, _, rfl, rfl, _, rfl, ?_⟩
  refine ite2 (fun c => ?_) (fun c => ?_)
  · have c' : k < (((ns.map V.int).length : Nat) : Int) := dec_t c
    rw [List.length_map] at c'
    have hk : k.toNat < ns.length := by omega
    have hv : atI (ns.map V.int) k = some (.int ns[k.toNat]) := by
      have z : atI (ns.map V.int) ((k.toNat : Nat) : Int) = some (.int ns[k.toNat]) := atI_nat (by rw [List.getElem?_map, List.getElem?_eq_getElem hk]; rfl)
      rw [show ((k.toNat : Nat) : Int) = k by omega] at z
      exact z
    exact ⟨_, rfl, _, rfl, a, _, _, _, rfl, rfl, hS, hv, q _ (hB _ (List.getElem_mem hk))⟩
  · exact q 0 (by decide +kernel)
theorem ok_law_low (F : Fun K "_law_low" "_law_low" s_law_low f fd) (bl : Bl K mg cTableError cBadNumber cBadDomain cBadCell cOutside cDomain cNumbers cWords)  : FnOk P w K mg base CX0 1 f fd ["cell"] (sp_law_low K cTableError cBadNumber cBadDomain cBadCell cOutside cDomain cNumbers cWords) := by
  refine F.ok sc_law_low (fun vs H Q E h => ?_) (fun cdv A outer s H vs Q E hr h => ?_)
  · obtain ⟨c, rfl, hb, q⟩ := h
    rfl
  obtain ⟨c, rfl, hb, q⟩ := h
  refine ⟨_, (pss_cons (ps_if (pt_cmpR op_eq (pe_op op_mod (pe_op op_mod (pe_op op_mul (pe_op op_mod (pv 0) pe_int) pe_int) pe_int) pe_int) pe_int (nomark _))
     (pss_one (ps_ret (pe_op op_sub (pe_op op_mod (pv 0) pe_int) pe_int)))
     pss_nil)
     (pss_one (ps_ret (pe_op op_add (pe_op op_sub (pe_op op_mod (pe_op op_mulO (pv 0) (pe_op op_pow pe_int pe_int)) (pe_op op_sub (pe_op op_mul pe_int (pe_op op_pow pe_int pe_int)) pe_int)) (pe_op op_pow pe_int pe_int)) pe_int)))), ?_⟩
  refine ⟨_, rfl, _, _, rfl, rfl, (by show (0 : Int) < 10007; decide), _, _, rfl, rfl, .inr ⟨by decide, by decide⟩, _, _, rfl, rfl, (by show (0 : Int) < 10007; decide), _, _, rfl, rfl, (by show (0 : Int) < 3; decide), rfl, _, rfl, ?_⟩
  refine ite2 (fun _ => ?_) (fun _ => ?_)
  · refine ⟨_, rfl, _, _, rfl, rfl, (by show (0 : Int) < 41; decide), _, _, rfl, rfl, q _ ?_⟩
    have h0 := Int.emod_nonneg c (show (41 : Int) ≠ 0 by decide)
    have h1 := Int.emod_lt_of_pos c (show (0 : Int) < 41 by decide)
    unfold bnd
    omega
  · exact ⟨_, rfl, _, _, rfl, rfl, ⟨by decide, by decide, by decide⟩, _, _, rfl, rfl, PySem.IntMulOk.of_bits hb (by decide +kernel), _, _, rfl, rfl, ⟨by decide, by decide, by decide⟩, _, _, rfl, rfl, .inl ⟨by decide, by decide⟩, _, _, rfl, rfl, _, _, rfl, rfl, pos6, _, _, rfl, rfl, ⟨by decide, by decide, by decide⟩, _, _, rfl, rfl, _, _, rfl, rfl, q _ (key6 _)⟩
theorem ok_law_high (F : Fun K "_law_high" "_law_high" s_law_high f fd) (bl : Bl K mg cTableError cBadNumber cBadDomain cBadCell cOutside cDomain cNumbers cWords)  : FnOk P w K mg base CX0 1 f fd ["low", "cell"] (sp_law_high K cTableError cBadNumber cBadDomain cBadCell cOutside cDomain cNumbers cWords) := by
  refine F.ok sc_law_high (fun vs H Q E h => ?_) (fun cdv A outer s H vs Q E hr h => ?_)
  · obtain ⟨lo, c, rfl, hl, hb, q⟩ := h
    rfl
  obtain ⟨lo, c, rfl, hl, hb, q⟩ := h
  refine ⟨_, (pss_cons (ps_set (i := 2) sc_law_high.nd rfl (Or.inl rfl) (pe_op op_mod (pe_op op_mod (pe_op op_mul (pe_op op_mod (pv 1) pe_int) pe_int) pe_int) pe_int))
     (pss_cons (ps_set (i := 3) sc_law_high.nd rfl (Or.inl rfl) (pe_ix ix_list (pe_lst (pa_cons pe_int (pa_cons (pe_op op_mod (pv 1) pe_int) (pa_cons (pe_op op_mod (pv 1) (pe_op op_pow pe_int pe_int)) (pa_cons (pe_op op_mod (pe_op op_mulO (pv 1) (pe_op op_pow pe_int pe_int)) (pe_op op_pow pe_int pe_int)) pa_nil))))) (pv 2) (fun _ _ => rfl)))
     (pss_one (ps_ret (pe_callB (call_min2 rfl) rfl bl.min_ PyProof.Rows.boot_min (pa_cons (pe_op op_add (pv 0) (pv 3)) (pa_cons (pe_op op_sub (pe_op op_pow pe_int pe_int) pe_int) pa_nil))))))), ?_⟩
  refine ⟨_, rfl, _, _, rfl, rfl, (by show (0 : Int) < 10009; decide), _, _, rfl, rfl, .inr ⟨by decide, by decide⟩, _, _, rfl, rfl, (by show (0 : Int) < 10009; decide), _, _, rfl, rfl, (by show (0 : Int) < 4; decide), ?_⟩
  refine ⟨_, rfl, _, _, rfl, rfl, (by show (0 : Int) < 30; decide), _, rfl, _, _, rfl, rfl, ⟨by decide, by decide, by decide⟩, _, _, rfl, rfl, pos6', _, rfl, _, _, rfl, rfl, ⟨by decide, by decide, by decide⟩, _, _, rfl, rfl, PySem.IntMulOk.of_bits hb (by decide +kernel), _, _, rfl, rfl, ⟨by decide, by decide, by decide⟩, _, _, rfl, rfl, pos6', (by show 4 ≤ sizeLine; decide), fun p hp => ?_⟩
  have h0 := Int.emod_nonneg (c % 10009 * 617 % 10009) (show (4 : Int) ≠ 0 by decide)
  have h1 := Int.emod_lt_of_pos (c % 10009 * 617 % 10009) (show (0 : Int) < 4 by decide)
  have a1 := Int.emod_nonneg c (show (30 : Int) ≠ 0 by decide)
  have a2 := Int.emod_nonneg c (Int.ne_of_gt pos6')
  have a3 := Int.emod_nonneg (c * 48271 ^ (12 : Int).toNat) (Int.ne_of_gt pos6')
  obtain ⟨m, hm, hm0⟩ : ∃ m : Int, atI [V.int 0, .int (c % 30), .int (c % 10 ^ (60 : Int).toNat), .int (c * 48271 ^ (12 : Int).toNat % 10 ^ (60 : Int).toNat)] (c % 10009 * 617 % 10009 % 4) = some (.int m) ∧ 0 ≤ m := by
    generalize c % 10009 * 617 % 10009 % 4 = k at h0 h1 ⊢
    generalize c % 30 = b1 at a1 ⊢
    generalize c % 10 ^ (60 : Int).toNat = b2 at a2 ⊢
    generalize c * 48271 ^ (12 : Int).toNat % 10 ^ (60 : Int).toNat = b3 at a3 ⊢
    have : k = 0 ∨ k = 1 ∨ k = 2 ∨ k = 3 := by omega
    rcases this with rfl | rfl | rfl | rfl
    · exact ⟨0, rfl, by decide⟩
    · exact ⟨b1, rfl, a1⟩
    · exact ⟨b2, rfl, a2⟩
    · exact ⟨b3, rfl, a3⟩
  refine ⟨_, rfl, p, _, _, _, rfl, rfl, SqL.of upd_same, hm, ?_⟩
  refine ⟨_, rfl, _, rfl, _, _, rfl, rfl, _, _, rfl, rfl, ⟨by decide, by decide, by decide⟩, _, _, rfl, rfl, _, _, rfl, q _ _ (same_new hp _) ?_ ?_⟩
  · unfold bnd at hl
    rw [Tn]
    generalize (10 ^ 60 : Nat) = T at hl ⊢
    split <;> omega
  · unfold bnd at hl ⊢
    rw [Tn]
    generalize (10 ^ 60 : Nat) = T at hl ⊢
    split <;> omega
theorem ok_law_pair (F : Fun K "_law_pair" "_law_pair" s_law_pair f fd) (bl : Bl K mg cTableError cBadNumber cBadDomain cBadCell cOutside cDomain cNumbers cWords)  : FnOk P w K mg base CX0 1 f fd ["cell", "low", "high"] (sp_law_pair K cTableError cBadNumber cBadDomain cBadCell cOutside cDomain cNumbers cWords) := by
  refine F.ok sc_law_pair (fun vs H Q E h => ?_) (fun cdv A outer s H vs Q E hr h => ?_)
  · obtain ⟨c, lo, hi, rfl, hb, lh, q⟩ := h
    rfl
  obtain ⟨c, lo, hi, rfl, hb, lh, q⟩ := h
  refine ⟨_, (pss_cut (ps_set (i := 3) sc_law_pair.nd rfl (Or.inl rfl) (pe_op op_add (pv 1) (pe_op op_mod (pe_op op_mulO (pv 0) (pe_op op_pow pe_int pe_int)) (pe_op op_add (pe_op op_sub (pv 2) (pv 1)) pe_int))))
     (pss_cut (ps_set (i := 4) sc_law_pair.nd rfl (Or.inl rfl) (pe_op op_add (pv 1) (pe_op op_mod (pe_op op_mulO (pv 0) (pe_op op_pow pe_int pe_int)) (pe_op op_add (pe_op op_sub (pv 2) (pv 1)) pe_int))))
     (pss_cut (ps_set (i := 5) sc_law_pair.nd rfl (Or.inl rfl) (pe_op op_mod (pe_op op_mod (pe_op op_mul (pe_op op_mod (pv 0) pe_int) pe_int) pe_int) pe_int))
     (pss_cons (ps_if (pt_cmpR op_eq (pv 5) pe_int (nomark _))
     (pss_one (ps_ret (pe_tup (pa_cons (pv 1) (pa_cons (pv 3) pa_nil)))))
     pss_nil)
     (pss_cons (ps_if (pt_cmpR op_eq (pv 5) pe_int (nomark _))
     (pss_one (ps_ret (pe_tup (pa_cons (pv 3) (pa_cons (pv 2) pa_nil)))))
     pss_nil)
     (pss_cons (ps_if (pt_cmpR op_eq (pv 5) pe_int (nomark _))
     (pss_one (ps_ret (pe_tup (pa_cons (pe_callB (call_min2 rfl) rfl bl.min_ PyProof.Rows.boot_min (pa_cons (pv 3) (pa_cons (pv 4) pa_nil))) (pa_cons (pe_callB (call_max2 rfl) rfl bl.max_ PyProof.Rows.boot_max (pa_cons (pv 3) (pa_cons (pv 4) pa_nil))) pa_nil)))))
     pss_nil)
     (pss_cons (ps_if (pt_cmpR op_eq (pv 5) pe_int (nomark _))
     (pss_one (ps_ret (pe_tup (pa_cons (pv 3) (pa_cons (pe_callB (call_min2 rfl) rfl bl.min_ PyProof.Rows.boot_min (pa_cons (pv 2) (pa_cons (pe_op op_add (pe_op op_add (pv 3) pe_int) (pe_op op_mod (pe_op op_mod (pv 0) pe_int) pe_int)) pa_nil))) pa_nil)))))
     pss_nil)
     (pss_one (ps_ret (pe_tup (pa_cons (pv 3) (pa_cons (pv 3) pa_nil)))))))))))), ?_⟩
  have hp : (0 : Int) < hi - lo + 1 := by omega
  refine ⟨fun σ' H' => H' = H ∧ σ' = [some (.int c), some (.int lo), some (.int hi), some (.int (one17 lo hi c)), none, none], ?_, ?_⟩
  · exact ⟨_, rfl, _, rfl, _, _, rfl, rfl, ⟨by decide, by decide, by decide⟩, _, _, rfl, rfl, PySem.IntMulOk.of_bits hb (by decide +kernel), _, rfl, _, rfl, _, _, rfl, rfl, _, _, rfl, rfl, _, _, rfl, rfl, hp, _, _, rfl, rfl, rfl, rfl⟩
  rintro σ1 H1 ⟨rfl, rfl⟩
  refine ⟨fun σ' H' => H' = H1 ∧ σ' = [some (.int c), some (.int lo), some (.int hi), some (.int (one17 lo hi c)), some (.int (two17 lo hi c)), none], ?_, ?_⟩
  · exact ⟨_, rfl, _, rfl, _, _, rfl, rfl, ⟨by decide, by decide, by decide⟩, _, _, rfl, rfl, PySem.IntMulOk.of_bits hb (by decide +kernel), _, rfl, _, rfl, _, _, rfl, rfl, _, _, rfl, rfl, _, _, rfl, rfl, hp, _, _, rfl, rfl, rfl, rfl⟩
  rintro σ2 H2 ⟨rfl, rfl⟩
  refine ⟨fun σ' H' => H' = H2 ∧ σ' = [some (.int c), some (.int lo), some (.int hi), some (.int (one17 lo hi c)), some (.int (two17 lo hi c)), some (.int (way17 c))], ?_, ?_⟩
  · exact ⟨_, rfl, _, _, rfl, rfl, (by show (0 : Int) < 10037; decide), _, _, rfl, rfl, .inr ⟨by decide, by decide⟩, _, _, rfl, rfl, (by show (0 : Int) < 10037; decide), _, _, rfl, rfl, (by show (0 : Int) < 8; decide), rfl, rfl⟩
  rintro σ3 H3 ⟨rfl, rfl⟩
  have fin : ∀ (t : Addr) (x y : Int), H3 t = none → pr17 lo hi c = (x, y) → Q (.ref t) (upd H3 t (.tup [.int x, .int y])) := fun t x y ht e => q t _ (same_new ht _) (by rw [upd_same, e])
  refine ⟨_, rfl, rfl, _, rfl, ite2 (fun g0 => ?_) (fun g0 => ?_)⟩
  · exact ⟨_, rfl, _, rfl, (by show 2 ≤ sizeLine; decide), fun t ht => fin t _ _ ht (by unfold pr17; rw [if_pos (dec_int_t g0)])⟩
  refine ⟨_, rfl, rfl, _, rfl, ite2 (fun g1 => ?_) (fun g1 => ?_)⟩
  · exact ⟨_, rfl, _, rfl, (by show 2 ≤ sizeLine; decide), fun t ht => fin t _ _ ht (by unfold pr17; rw [if_neg (dec_int_f g0), if_pos (dec_int_t g1)])⟩
  refine ⟨_, rfl, rfl, _, rfl, ite2 (fun g2 => ?_) (fun g2 => ?_)⟩
  · exact ⟨_, rfl, _, rfl, _, _, rfl, _, rfl, _, rfl, _, _, rfl, (by show 2 ≤ sizeLine; decide), fun t ht => fin t _ _ ht (by unfold pr17; rw [if_neg (dec_int_f g0), if_neg (dec_int_f g1), if_pos (dec_int_t g2)])⟩
  refine ⟨_, rfl, rfl, _, rfl, ite2 (fun g3 => ?_) (fun g3 => ?_)⟩
  · exact ⟨_, rfl, _, rfl, _, rfl, _, _, rfl, rfl, _, rfl, _, _, rfl, rfl, (by show (0 : Int) < 1009; decide), _, _, rfl, rfl, (by show (0 : Int) < 5; decide), _, _, rfl, rfl, _, _, rfl, (by show 2 ≤ sizeLine; decide), fun t ht => fin t _ _ ht (by unfold pr17 far17; rw [if_neg (dec_int_f g0), if_neg (dec_int_f g1), if_neg (dec_int_f g2), if_pos (dec_int_t g3)])⟩
  · exact ⟨_, rfl, _, rfl, (by show 2 ≤ sizeLine; decide), fun t ht => fin t _ _ ht (by unfold pr17; rw [if_neg (dec_int_f g0), if_neg (dec_int_f g1), if_neg (dec_int_f g2), if_neg (dec_int_f g3)])⟩
theorem ok_law_odd (F : Fun K "_law_odd" "_law_odd" s_law_odd f fd) (bl : Bl K mg cTableError cBadNumber cBadDomain cBadCell cOutside cDomain cNumbers cWords)  : FnOk P w K mg base CX0 1 f fd ["head", "low", "high", "opposite", "single", "first"] (sp_law_odd K cTableError cBadNumber cBadDomain cBadCell cOutside cDomain cNumbers cWords) := by
  refine F.ok sc_law_odd (fun vs H Q E h => ?_) (fun cdv A outer s H vs Q E hr h => ?_)
  · obtain ⟨hd, lo, hi, op, sg, ft, rfl, lh, b1, b2, q⟩ := h
    rfl
  obtain ⟨hd, lo, hi, op, sg, ft, rfl, lh, b1, b2, q⟩ := h
  refine ⟨_, (pss_cut (ps_set (i := 6) sc_law_odd.nd rfl (Or.inl rfl) (pe_lst (pa_cons pe_str (pa_cons pe_str (pa_cons (pe_op op_add_str (pe_callTy call_str_int rfl bl.str_ PyProof.Rows.boot_str (pa_cons (pv 1) pa_nil)) pe_str) (pa_cons (pe_op op_add_str pe_str (pe_callTy call_str_int rfl bl.str_ PyProof.Rows.boot_str (pa_cons (pv 2) pa_nil))) (pa_cons pe_str (pa_cons pe_str (pa_cons pe_str (pa_cons pe_str (pa_cons (pe_op op_add_str (pe_op op_add_str (pe_callTy call_str_int rfl bl.str_ PyProof.Rows.boot_str (pa_cons (pv 1) pa_nil)) pe_str) (pe_callTy call_str_int rfl bl.str_ PyProof.Rows.boot_str (pa_cons (pv 1) pa_nil))) (pa_cons pe_str pa_nil))))))))))))
     (pss_cut (ps_set (i := 6) sc_law_odd.nd rfl (Or.inl rfl) (pe_op op_cat (pv 6) (pe_lst (pa_cons (pe_callTy call_str_int rfl bl.str_ PyProof.Rows.boot_str (pa_cons (pe_op op_add (pv 2) pe_int) pa_nil)) (pa_cons (pe_op op_add_str (pe_callTy call_str_int rfl bl.str_ PyProof.Rows.boot_str (pa_cons (pe_op op_sub (pv 1) pe_int) pa_nil)) pe_str) (pa_cons (pe_op op_add_str (pe_callTy call_str_int rfl bl.str_ PyProof.Rows.boot_str (pa_cons (pe_op op_add (pv 2) pe_int) pa_nil)) pe_str) (pa_cons (pe_op op_add_str pe_str (pe_callTy call_str_int rfl bl.str_ PyProof.Rows.boot_str (pa_cons (pe_op op_add (pv 2) pe_int) pa_nil))) (pa_cons (pe_op op_add_str pe_str (pe_callTy call_str_int rfl bl.str_ PyProof.Rows.boot_str (pa_cons (pe_op op_sub (pv 1) pe_int) pa_nil))) pa_nil))))))))
     (pss_cut (ps_set (i := 6) sc_law_odd.nd rfl (Or.inl rfl) (pe_op op_cat (pv 6) (pe_lst (pa_cons (pe_op op_add_str (pe_op op_add_str (pe_callTy call_str_int rfl bl.str_ PyProof.Rows.boot_str (pa_cons (pv 1) pa_nil)) pe_str) (pe_callTy call_str_int rfl bl.str_ PyProof.Rows.boot_str (pa_cons (pe_op op_add (pv 2) pe_int) pa_nil))) (pa_cons (pe_op op_add_str (pe_op op_add_str (pe_callTy call_str_int rfl bl.str_ PyProof.Rows.boot_str (pa_cons (pe_op op_sub (pv 1) pe_int) pa_nil)) pe_str) (pe_callTy call_str_int rfl bl.str_ PyProof.Rows.boot_str (pa_cons (pv 2) pa_nil))) (pa_cons (pe_op op_add_str (pe_op op_add_str (pe_callTy call_str_int rfl bl.str_ PyProof.Rows.boot_str (pa_cons (pv 1) pa_nil)) pe_str) (pe_callTy call_str_int rfl bl.str_ PyProof.Rows.boot_str (pa_cons (pe_callB call_abs rfl bl.abs_ PyProof.Rows.boot_abs (pa_cons (pv 2) pa_nil)) pa_nil))) pa_nil))))))
     (pss_cut (ps_set (i := 6) sc_law_odd.nd rfl (Or.inl rfl) (pe_op op_cat (pv 6) (pe_lst (pa_cons (pe_op op_add_str (pe_op op_add_str (pe_callTy call_str_int rfl bl.str_ PyProof.Rows.boot_str (pa_cons (pv 1) pa_nil)) pe_str) (pe_callTy call_str_int rfl bl.str_ PyProof.Rows.boot_str (pa_cons (pv 2) pa_nil))) (pa_cons (pe_op op_add_str (pe_op op_add_str (pe_callTy call_str_int rfl bl.str_ PyProof.Rows.boot_str (pa_cons (pv 1) pa_nil)) pe_str) (pe_callTy call_str_int rfl bl.str_ PyProof.Rows.boot_str (pa_cons (pv 2) pa_nil))) (pa_cons (pe_op op_add_str (pe_callTy call_str_int rfl bl.str_ PyProof.Rows.boot_str (pa_cons (pv 1) pa_nil)) pe_str) (pa_cons pe_str pa_nil)))))))
     (pss_cut (ps_set (i := 6) sc_law_odd.nd rfl (Or.inl rfl) (pe_op op_cat (pv 6) (pe_lst (pa_cons (pe_op op_add_str pe_str (pe_callTy call_str_int rfl bl.str_ PyProof.Rows.boot_str (pa_cons (pv 1) pa_nil))) (pa_cons pe_str (pa_cons (pe_op op_add_str pe_str (pe_callTy call_str_int rfl bl.str_ PyProof.Rows.boot_str (pa_cons (pv 1) pa_nil))) pa_nil))))))
     (pss_cut (ps_if (pt_cmpR op_lt (pv 1) (pv 2) (nomark _))
     (pss_one (ps_expr (pe_bm PySem.F.plainAttrs_list PySem.F.slot_list_append PySem.F.type_list_append mt_append (pv 6) (pa_cons (pe_op op_add_str (pe_op op_add_str (pe_callTy call_str_int rfl bl.str_ PyProof.Rows.boot_str (pa_cons (pv 2) pa_nil)) pe_str) (pe_callTy call_str_int rfl bl.str_ PyProof.Rows.boot_str (pa_cons (pv 1) pa_nil))) pa_nil))))
     pss_nil)
     (pss_cut (ps_if (PW.pt (pw_or (pt_val (pv 3)) (pw_or1 (pt_not (pt_val (pv 5))))))
     (pss_one (ps_expr (pe_bm PySem.F.plainAttrs_list PySem.F.slot_list_extend PySem.F.type_list_extend mt_extend (pv 6) (pa_cons (pe_lst (pa_cons (pe_op op_add_str pe_str (pe_callTy call_str_int rfl bl.str_ PyProof.Rows.boot_str (pa_cons (pv 1) pa_nil))) (pa_cons pe_str pa_nil))) pa_nil))))
     pss_nil)
     (pss_cut (ps_if (PW.pt (pw_or (pt_not (pt_val (pv 5))) (pw_or1 (pt_not (pt_val (pv 4))))))
     (pss_one (ps_expr (pe_bm PySem.F.plainAttrs_list PySem.F.slot_list_append PySem.F.type_list_append mt_append (pv 6) (pa_cons pe_str pa_nil))))
     pss_nil)
     (pss_one (ps_ret (pe_ix ix_list (pv 6) (pe_op op_mod (pe_op op_mod (pe_op op_mul (pe_op op_mod (pv 0) pe_int) pe_int) pe_int) (pe_callB call_len_seq rfl bl.len_ PySem.boot_len (pa_cons (pv 6) pa_nil))) (fun _ _ => rfl)))))))))))), ?_⟩
  obtain ⟨n1, n2, n3, n4⟩ := bnd1 b1
  obtain ⟨m1, m2, m3, m4⟩ := bnd1 b2
  have k1 := lnum n1
  have k3 := lnum n3
  have j1 := lnum m1
  have j2 := lnum m2
  have j4 := lnum m4
  have g1 := log_sm1 n1
  have g3 := log_sm1 n3
  have f1 := log_sm1 m1
  have f2 := log_sm1 m2
  have f4 := log_sm1 m4
  refine ⟨fun σ' H' => Same H H' ∧ ∃ (s : Addr) (ys : List Str), H s = none ∧ H' s = some (.lst (ys.map V.str)) ∧ ys.length = 10 ∧ (∀ y ∈ ys, Odd7 (lo, hi) op sg ft y) ∧ σ' = [some (.int hd), some (.int lo), some (.int hi), some (.bl op), some (.bl sg), some (.bl ft), some (.ref s)], ?_, ?_⟩
  · exact ⟨_, rfl, _, rfl, g1, _, _, rfl, rfl, len7 (by omega) (by decide), _, rfl, _, rfl, f1, _, _, rfl, rfl, len7 (by decide) (by omega), _, rfl, _, rfl, g1, _, _, rfl, rfl, len7 (by omega) (by decide), _, rfl, _, rfl, g1, _, _, rfl, rfl, len7 (by rw [len_ap]; show _ + 1 ≤ 300; omega) (by omega), (by show 10 ≤ sizeLine; decide), fun s hs => ⟨same_new hs _, s, o1 lo hi, hs, upd_same, rfl, odd_o1 op sg ft b1 b2, rfl⟩⟩
  rintro σ1 H1 ⟨s1, s, ys, hs, es, l1, hy, rfl⟩
  have cat : ∀ {H1 : Hp} {s : Addr} {ys zs : List Str} {n : Nat}, Same H H1 → H1 s = some (.lst (ys.map V.str)) → (∀ y ∈ ys, Odd7 (lo, hi) op sg ft y) → (∀ y ∈ zs, Odd7 (lo, hi) op sg ft y) → ys.length + zs.length = n → ∀ p2, H1 p2 = none → ∀ p3, upd H1 p2 (.lst (zs.map V.str)) p3 = none → Same H (upd (upd H1 p2 (.lst (zs.map V.str))) p3 (.lst (ys.map V.str ++ zs.map V.str))) ∧ ∃ (s : Addr) (ys2 : List Str), H s = none ∧ upd (upd H1 p2 (.lst (zs.map V.str))) p3 (.lst (ys.map V.str ++ zs.map V.str)) s = some (.lst (ys2.map V.str)) ∧ ys2.length = n ∧ (∀ y ∈ ys2, Odd7 (lo, hi) op sg ft y) ∧ [some (V.int hd), some (.int lo), some (.int hi), some (.bl op), some (.bl sg), some (.bl ft), some (.ref p3)] = [some (.int hd), some (.int lo), some (.int hi), some (.bl op), some (.bl sg), some (.bl ft), some (.ref s)] := fun {H1 s ys zs n} s1 es hy hz hl p2 hp2 p3 hp3 => by
    refine ⟨(s1.trans (same_new hp2 _)).trans (same_new hp3 _), p3, ys ++ zs, (s1.trans (same_new hp2 _)).free hp3, by rw [upd_same, List.map_append], by rw [List.length_append]; exact hl, fun y hm => ?_, rfl⟩
    exact (List.mem_append.mp hm).elim (hy y) (hz y)
  refine ⟨fun σ' H' => Same H H' ∧ ∃ (s : Addr) (ys : List Str), H s = none ∧ H' s = some (.lst (ys.map V.str)) ∧ ys.length = 15 ∧ (∀ y ∈ ys, Odd7 (lo, hi) op sg ft y) ∧ σ' = [some (.int hd), some (.int lo), some (.int hi), some (.bl op), some (.bl sg), some (.bl ft), some (.ref s)], ?_, ?_⟩
  · exact ⟨_, rfl, _, rfl, _, _, rfl, rfl, _, rfl, f2, _, rfl, _, _, rfl, rfl, _, rfl, g3, _, _, rfl, rfl, len7 (by omega) (by decide), _, rfl, _, _, rfl, rfl, _, rfl, f2, _, _, rfl, rfl, len7 (by omega) (by decide), _, rfl, _, _, rfl, rfl, _, rfl, f2, _, _, rfl, rfl, len7 (by decide) (by omega), _, rfl, _, _, rfl, rfl, _, rfl, g3, _, _, rfl, rfl, len7 (by decide) (by omega), (by show 5 ≤ sizeLine; decide), fun p2 hp2 => ⟨s, p2, _, _, rfl, rfl, ret_r1 es hp2, upd_same, (by rw [List.length_map, l1]; show 15 ≤ sizeLine; decide), fun p3 hp3 => cat (zs := o2 lo hi) s1 es hy (odd_o2 op sg ft lh b1 b2) (by rw [l1]; rfl) p2 hp2 p3 hp3⟩⟩
  clear es l1 hy s1 hs s ys
  rintro σ2 H2 ⟨s2, s, ys, hs, es, l1, hy, rfl⟩
  refine ⟨fun σ' H' => Same H H' ∧ ∃ (s : Addr) (ys : List Str), H s = none ∧ H' s = some (.lst (ys.map V.str)) ∧ ys.length = 18 ∧ (∀ y ∈ ys, Odd7 (lo, hi) op sg ft y) ∧ σ' = [some (.int hd), some (.int lo), some (.int hi), some (.bl op), some (.bl sg), some (.bl ft), some (.ref s)], ?_, ?_⟩
  · exact ⟨_, rfl, _, rfl, _, rfl, g1, _, _, rfl, rfl, len7 (by omega) (by decide), _, rfl, _, _, rfl, rfl, _, rfl, f2, _, _, rfl, rfl, len7 (by rw [len_ap]; show _ + 2 ≤ 300; omega) (by omega), _, rfl, _, _, rfl, rfl, _, rfl, g3, _, _, rfl, rfl, len7 (by omega) (by decide), _, rfl, _, rfl, f1, _, _, rfl, rfl, len7 (by rw [len_ap]; show _ + 2 ≤ 300; omega) (by omega), _, rfl, _, rfl, g1, _, _, rfl, rfl, len7 (by omega) (by decide), _, rfl, _, rfl, _, rfl, f4, _, _, rfl, rfl, len7 (by rw [len_ap]; show _ + 3 ≤ 300; omega) (Nat.le_trans j4 (by decide)), (by show 3 ≤ sizeLine; decide), fun p2 hp2 => ⟨s, p2, _, _, rfl, rfl, ret_r1 es hp2, upd_same, (by rw [List.length_map, l1]; show 18 ≤ sizeLine; decide), fun p3 hp3 => cat (zs := o3 lo hi) s2 es hy (odd_o3 op sg ft b1 b2) (by rw [l1]; rfl) p2 hp2 p3 hp3⟩⟩
  clear es l1 hy s2 hs s ys
  rintro σ3 H3 ⟨s3, s, ys, hs, es, l1, hy, rfl⟩
  refine ⟨fun σ' H' => Same H H' ∧ ∃ (s : Addr) (ys : List Str), H s = none ∧ H' s = some (.lst (ys.map V.str)) ∧ ys.length = 22 ∧ (∀ y ∈ ys, Odd7 (lo, hi) op sg ft y) ∧ σ' = [some (.int hd), some (.int lo), some (.int hi), some (.bl op), some (.bl sg), some (.bl ft), some (.ref s)], ?_, ?_⟩
  · exact ⟨_, rfl, _, rfl, _, rfl, g1, _, _, rfl, rfl, len7 (by omega) (by decide), _, rfl, _, rfl, f1, _, _, rfl, rfl, len7 (by rw [len_ap]; show _ + 3 ≤ 300; omega) (by omega), _, rfl, _, rfl, g1, _, _, rfl, rfl, len7 (by omega) (by decide), _, rfl, _, rfl, f1, _, _, rfl, rfl, len7 (by rw [len_ap]; show _ + 3 ≤ 300; omega) (by omega), _, rfl, _, rfl, g1, _, _, rfl, rfl, len7 (by omega) (by decide), (by show 4 ≤ sizeLine; decide), fun p2 hp2 => ⟨s, p2, _, _, rfl, rfl, ret_r1 es hp2, upd_same, (by rw [List.length_map, l1]; show 22 ≤ sizeLine; decide), fun p3 hp3 => cat (zs := o4 lo hi) s3 es hy (odd_o4 op sg ft b1 b2) (by rw [l1]; rfl) p2 hp2 p3 hp3⟩⟩
  clear es l1 hy s3 hs s ys
  rintro σ4 H4 ⟨s4, s, ys, hs, es, l1, hy, rfl⟩
  refine ⟨fun σ' H' => Same H H' ∧ ∃ (s : Addr) (ys : List Str), H s = none ∧ H' s = some (.lst (ys.map V.str)) ∧ ys.length = 25 ∧ (∀ y ∈ ys, Odd7 (lo, hi) op sg ft y) ∧ σ' = [some (.int hd), some (.int lo), some (.int hi), some (.bl op), some (.bl sg), some (.bl ft), some (.ref s)], ?_, ?_⟩
  · exact ⟨_, rfl, _, rfl, _, rfl, g1, _, _, rfl, rfl, len7 (by decide) (by omega), _, rfl, _, rfl, g1, _, _, rfl, rfl, len7 (by decide) (by omega), (by show 3 ≤ sizeLine; decide), fun p2 hp2 => ⟨s, p2, _, _, rfl, rfl, ret_r1 es hp2, upd_same, (by rw [List.length_map, l1]; show 25 ≤ sizeLine; decide), fun p3 hp3 => cat (zs := o5 lo) s4 es hy (odd_o5 op sg ft b1) (by rw [l1]; rfl) p2 hp2 p3 hp3⟩⟩
  clear es l1 hy s4 hs s ys
  rintro σ5 H5 ⟨s5, s, ys, hs, es, l1, hy, rfl⟩
  refine ⟨fun σ' H' => Same H H' ∧ ∃ ys : List Str, H' s = some (.lst (ys.map V.str)) ∧ 25 ≤ ys.length ∧ ys.length ≤ 26 ∧ (∀ y ∈ ys, Odd7 (lo, hi) op sg ft y) ∧ σ' = [some (.int hd), some (.int lo), some (.int hi), some (.bl op), some (.bl sg), some (.bl ft), some (.ref s)], ?_, ?_⟩
  · have hl2 : (ys.map V.str).length < 1000 := by rw [List.length_map]; omega
    refine ⟨_, rfl, _, rfl, _, _, rfl, rfl, _, rfl, ite2 (fun g => ?_) (fun _ => ⟨s5, ys, es, by omega, by omega, hy, rfl⟩)⟩
    refine ⟨_, rfl, .inl ⟨rfl, _, SqL.of es⟩, _, rfl, _, rfl, f1, _, _, rfl, rfl, len7 (by omega) (by decide), _, rfl, _, rfl, g1, _, _, rfl, rfl, len7 (by rw [len_ap]; show _ + 2 ≤ 300; omega) (by omega), s, _, _, rfl, rfl, es, small1000 (by omega), s5.upd hs, ys ++ [numT hi ++ Str.ofString ".." ++ numT lo], by rw [upd_same, List.map_append]; rfl, by simp; omega, by simp; omega, fun y hm => ?_, rfl⟩
    rcases List.mem_append.mp hm with hm | hm
    · exact hy y hm
    · rw [show y = numT hi ++ Str.ofString ".." ++ numT lo by simpa using hm]; exact odd_turn op sg ft (dec_t g) b1 b2
  clear es l1 hy s5 ys
  rintro σ6 H6 ⟨s6, ys, es, l1, l2, hy, rfl⟩
  refine ⟨fun σ' H' => Same H H' ∧ ∃ ys : List Str, H' s = some (.lst (ys.map V.str)) ∧ 25 ≤ ys.length ∧ ys.length ≤ 28 ∧ (∀ y ∈ ys, Odd7 (lo, hi) op sg ft y) ∧ σ' = [some (.int hd), some (.int lo), some (.int hi), some (.bl op), some (.bl sg), some (.bl ft), some (.ref s)], ?_, ?_⟩
  · have ext : (op = true ∨ ft = false) → ∀ p, H6 p = none → upd H6 p (.lst ([Str.ofString "not " ++ numT lo, Str.ofString "not -"].map V.str)) s = some (.lst (ys.map V.str)) ∧ (Same H (upd (upd H6 p (.lst ([Str.ofString "not " ++ numT lo, Str.ofString "not -"].map V.str))) s (.lst (ys.map V.str ++ [Str.ofString "not " ++ numT lo, Str.ofString "not -"].map V.str))) ∧ ∃ ys2 : List Str, upd (upd H6 p (.lst ([Str.ofString "not " ++ numT lo, Str.ofString "not -"].map V.str))) s (.lst (ys.map V.str ++ [Str.ofString "not " ++ numT lo, Str.ofString "not -"].map V.str)) s = some (.lst (ys2.map V.str)) ∧ 25 ≤ ys2.length ∧ ys2.length ≤ 28 ∧ (∀ y ∈ ys2, Odd7 (lo, hi) op sg ft y) ∧ [some (V.int hd), some (.int lo), some (.int hi), some (.bl op), some (.bl sg), some (.bl ft), some (.ref s)] = [some (.int hd), some (.int lo), some (.int hi), some (.bl op), some (.bl sg), some (.bl ft), some (.ref s)]) := fun hc p hp => by
      refine ⟨ret_r1 es hp, (s6.trans (same_new hp _)).upd hs, ys ++ [Str.ofString "not " ++ numT lo, Str.ofString "not -"], by rw [upd_same, List.map_append], by simp; omega, by simp; omega, fun y hm => ?_, rfl⟩
      exact (List.mem_append.mp hm).elim (hy y) (odd_not7 hc b1 y)
    have hl2 : (ys.map V.str).length = ys.length := List.length_map _
    refine ⟨_, rfl, _, rfl, ?_⟩
    cases op with
    | true => exact iteT (iteT ⟨_, rfl, .inl ⟨rfl, _, SqL.of es⟩, _, rfl, _, rfl, g1, _, _, rfl, rfl, len7 (by decide) (by omega), (by show 2 ≤ sizeLine; decide), fun p hp => ⟨s, p, _, _, rfl, rfl, (ext (.inl rfl) p hp).1, upd_same, big (by rw [hl2]; show _ + 2 ≤ 1000; omega), (ext (.inl rfl) p hp).2⟩⟩)
    | false =>
      refine iteF ⟨_, rfl, _, rfl, ?_⟩
      cases ft with
      | true => exact iteF ⟨s6, ys, es, l1, by omega, hy, rfl⟩
      | false => exact iteT ⟨_, rfl, .inl ⟨rfl, _, SqL.of es⟩, _, rfl, _, rfl, g1, _, _, rfl, rfl, len7 (by decide) (by omega), (by show 2 ≤ sizeLine; decide), fun p hp => ⟨s, p, _, _, rfl, rfl, (ext (.inr rfl) p hp).1, upd_same, big (by rw [hl2]; show _ + 2 ≤ 1000; omega), (ext (.inr rfl) p hp).2⟩⟩
  clear es l1 l2 hy s6 ys
  rintro σ7 H7 ⟨s7, ys, es, l1, l2, hy, rfl⟩
  refine ⟨fun σ' H' => Same H H' ∧ ∃ ys : List Str, H' s = some (.lst (ys.map V.str)) ∧ 25 ≤ ys.length ∧ ys.length ≤ 29 ∧ (∀ y ∈ ys, Odd7 (lo, hi) op sg ft y) ∧ σ' = [some (.int hd), some (.int lo), some (.int hi), some (.bl op), some (.bl sg), some (.bl ft), some (.ref s)], ?_, ?_⟩
  · have app : (ft = false ∨ sg = false) → Same H (upd H7 s (.lst (ys.map V.str ++ [.str (Str.ofString "-")]))) ∧ ∃ ys2 : List Str, upd H7 s (.lst (ys.map V.str ++ [.str (Str.ofString "-")])) s = some (.lst (ys2.map V.str)) ∧ 25 ≤ ys2.length ∧ ys2.length ≤ 29 ∧ (∀ y ∈ ys2, Odd7 (lo, hi) op sg ft y) ∧ [some (V.int hd), some (.int lo), some (.int hi), some (.bl op), some (.bl sg), some (.bl ft), some (.ref s)] = [some (.int hd), some (.int lo), some (.int hi), some (.bl op), some (.bl sg), some (.bl ft), some (.ref s)] := fun hc => by
      refine ⟨s7.upd hs, ys ++ [Str.ofString "-"], by rw [upd_same, List.map_append]; rfl, by simp; omega, by simp; omega, fun y hm => ?_, rfl⟩
      rcases List.mem_append.mp hm with hm | hm
      · exact hy y hm
      · rw [show y = Str.ofString "-" by simpa using hm]; exact odd_bar7 hc
    have hl2 : (ys.map V.str).length < 1000 := by rw [List.length_map]; omega
    refine ⟨_, rfl, _, rfl, ?_⟩
    cases ft with
    | false => exact iteT (iteT ⟨_, rfl, .inl ⟨rfl, _, SqL.of es⟩, s, _, _, rfl, rfl, es, small1000 (by omega), app (.inl rfl)⟩)
    | true =>
      refine iteF ⟨_, rfl, _, rfl, ?_⟩
      cases sg with
      | true => exact iteF ⟨s7, ys, es, l1, by omega, hy, rfl⟩
      | false => exact iteT ⟨_, rfl, .inl ⟨rfl, _, SqL.of es⟩, s, _, _, rfl, rfl, es, small1000 (by omega), app (.inr rfl)⟩
  clear es l1 l2 hy s7 ys
  rintro σ8 H8 ⟨s8, ys, es, l1, l2, hy, rfl⟩
  have hl3 : (ys.map V.str).length = ys.length := List.length_map _
  have hp2 : (0 : Int) < (((ys.map V.str).length : Nat) : Int) := by omega
  obtain ⟨y, hm, hv2⟩ := at_strs (zs := ys) (k := hd % 10039 * 631 % 10039 % (((ys.map V.str).length : Nat) : Int)) (Int.emod_nonneg _ (Int.ne_of_gt hp2)) (by rw [← hl3]; exact Int.emod_lt_of_pos _ hp2)
  exact ⟨_, rfl, _, rfl, _, _, rfl, rfl, (by show (0 : Int) < 10039; decide), _, _, rfl, rfl, .inr ⟨by decide, by decide⟩, _, _, rfl, rfl, (by show (0 : Int) < 10039; decide), _, rfl, s, _, rfl, .inl (SqL.of es), _, _, rfl, rfl, hp2, s, _, _, _, rfl, rfl, SqL.of es, hv2, q y H8 s8 (hy y hm)⟩
theorem ok_law_merged (F : Fun K "_law_merged" "_law_merged" s_law_merged f fd) (bl : Bl K mg cTableError cBadNumber cBadDomain cBadCell cOutside cDomain cNumbers cWords)  : FnOk P w K mg base CX0 1 f fd ["pairs"] (sp_law_merged K cTableError cBadNumber cBadDomain cBadCell cOutside cDomain cNumbers cWords) := by
  refine F.ok sc_law_merged (fun vs H Q E h => ?_) (fun cdv A outer s H vs Q E hr h => ?_)
  · obtain ⟨a, xs, ps, rfl, hS, hP, h64, hle_, q⟩ := h
    rfl
  obtain ⟨a, xs, ps, rfl, hS, hP, h64, hle_, q⟩ := h
  refine ⟨_, (pss_cons (ps_set (i := 1) sc_law_merged.nd rfl (Or.inl rfl) (pe_lst pa_nil))
     (pss_cons (ps_for PassesOwn.never rfl (pi_list (pe_callB call_sorted_pairs rfl bl.sorted_ PyProof.Rows.boot_sorted (pa_cons (pv 0) pa_nil))) (pg_name (i := 2) sc_law_merged.nd rfl (Or.inl rfl))
     (pss_one (ps_if (PW.pt (pw_and (pt_cmpR op_gt (pe_callB call_len_seq rfl bl.len_ PySem.boot_len (pa_cons (pv 1) pa_nil)) pe_int (nomark _)) (pw_and1 (pt_cmpR op_le (pe_ix ix_tup (pv 2) pe_int (fun _ _ => rfl)) (pe_op op_add (pe_ix ix_tup (pe_ix ix_list (pv 1) (pe_un un_neg pe_int) (fun _ _ => rfl)) pe_int (fun _ _ => rfl)) pe_int) (nomark _)))))
     (pss_one (ps_asg (pe_tup (pa_cons (pe_ix ix_tup (pe_ix ix_list (pv 1) (pe_un un_neg pe_int) (fun _ _ => rfl)) pe_int (fun _ _ => rfl)) (pa_cons (pe_callB (call_max2 rfl) rfl bl.max_ PyProof.Rows.boot_max (pa_cons (pe_ix ix_tup (pe_ix ix_list (pv 1) (pe_un un_neg pe_int) (fun _ _ => rfl)) pe_int (fun _ _ => rfl)) (pa_cons (pe_ix ix_tup (pv 2) pe_int (fun _ _ => rfl)) pa_nil))) pa_nil))) (pg_sub (pv 1) (pe_un un_neg pe_int) set_list)))
     (pss_one (ps_expr (pe_bm PySem.F.plainAttrs_list PySem.F.slot_list_append PySem.F.type_list_append mt_append (pv 1) (pa_cons (pv 2) pa_nil)))))))
     (pss_one (ps_ret (pv 1))))), ?_⟩
  refine ⟨(by show 0 ≤ sizeLine; decide), fun sp hsp => ?_⟩
  have s0 : Same H (upd H sp (.lst [])) := same_new hsp _
  refine ⟨_, rfl, a, xs, ps, rfl, s0.seq hS, hP.mono s0.tups, h64, fun D zs qs hD hZ hperm hsort => ?_⟩
  have eD : H D = none := s0.free hD
  have nDs : sp ≠ D := ne_of_none upd_same hD
  have hlen : zs.length = xs.length := by rw [hZ.length, hperm.length_eq, ← hP.length]
  refine ⟨D, rfl, ⟨_, SqL.of upd_same⟩, for_list (xs := zs) (fun i σ H' => ∃ (c2 : Option V) (ys : List V) (R : List (Int × Int)), σ = [some (.ref a), some (.ref sp), c2] ∧ Same H H' ∧ H' D = some (.lst zs) ∧ H' sp = some (.lst ys) ∧ PL H' ys R ∧ PL H' zs qs ∧ TidI R (qs.take i) ∧ ys.length ≤ i)
    ⟨none, [], [], rfl, s0.trans (same_new hD _), upd_same, ret_r1 upd_same hD, .nil, hZ, TidI.nil, Nat.zero_le _⟩
    (fun i σ H' _ h => by obtain ⟨_, _, _, _, _, e, _⟩ := h; exact SqL.of e) (fun i x σ H' e h => ?_) (fun σ H' h => ?_)⟩
  · obtain ⟨c2, ys, R, rfl, sm, eZ, eY, hY, hZ', ti, hl⟩ := h
    obtain ⟨p, r, e1, rfl, hr'⟩ := hZ'.get e
    have hle := sorted_le hsort e1
    have hi : i < zs.length := (List.getElem?_eq_some_iff.mp e).1
    have c' : p.1 ≤ p.2 := hle_ p (hperm.mem_iff.mp (List.mem_of_getElem? e1))
    have put : (∀ r0 ∈ R, r0.2 + 2 ≤ p.1) → ∃ (c2 : Option V) (ys2 : List V) (R2 : List (Int × Int)), [some (V.ref a), some (V.ref sp), some (V.ref r)] = [some (.ref a), some (.ref sp), c2] ∧ Same H (upd H' sp (.lst (ys ++ [.ref r]))) ∧ upd H' sp (.lst (ys ++ [.ref r])) D = some (.lst zs) ∧
        upd H' sp (.lst (ys ++ [.ref r])) sp = some (.lst ys2) ∧ PL (upd H' sp (.lst (ys ++ [.ref r]))) ys2 R2 ∧ PL (upd H' sp (.lst (ys ++ [.ref r]))) zs qs ∧ TidI R2 (qs.take (i + 1)) ∧ ys2.length ≤ i + 1 := fun hgap => by
      have st1 : SameT H' (upd H' sp (.lst (ys ++ [.ref r]))) := sameT_lst eY
      refine ⟨_, ys ++ [.ref r], R ++ [p], rfl, sm.upd hsp, by rw [upd_ne nDs.symm]; exact eZ, upd_same, (hY.mono st1).snoc (st1 _ _ hr'), hZ'.mono st1, by rw [take_snoc e1]; exact ti.add c' hgap, ?_⟩
      rw [List.length_append, List.length_singleton]; omega
    by_cases hne : ys = []
    · have hR : R = [] := by
        have := hY.length
        rw [hne] at this
        exact List.eq_nil_of_length_eq_zero this.symm
      refine ⟨_, rfl, sp, _, rfl, .inl (SqL.of eY), _, _, rfl, rfl, _, rfl, iteFS (by rw [hne]; show ¬ ((0 : Int) < 0); decide) (iteF ?_)⟩
      exact ⟨_, rfl, .inl ⟨rfl, _, SqL.of eY⟩, _, rfl, sp, ys, _, rfl, rfl, eY, small1000 (by omega), put (by rw [hR]; intro r0 h0; cases h0)⟩
    · obtain ⟨ys', rl, R', l, rfl, rfl, hY2, hrl⟩ := PL.last hY hne
      have hg : (0 : Int) < (((ys' ++ [V.ref rl]).length : Nat) : Int) := by rw [List.length_append, List.length_singleton]; omega
      refine ⟨_, rfl, sp, _, rfl, .inl (SqL.of eY), _, _, rfl, rfl, _, rfl, iteTS hg ?_⟩
      refine ⟨_, rfl, r, _, _, _, rfl, rfl, SqT.of hr', z0 _ _, _, rfl, _, rfl, sp, _, _, _, rfl, rfl, SqL.of eY, atI_last _ _, rl, _, _, _, rfl, rfl, SqT.of hrl, z1 _ _, _, _, rfl, rfl, _, _, rfl, rfl, _, rfl, ite2 (fun d => ?_) (fun d => ?_)⟩
      · have d' : p.1 ≤ l.2 + 1 := dec_t d
        have hl1 : l.1 ≤ p.1 := by
          obtain ⟨q0, hq0, e0⟩ := ti.low l (by simp)
          rw [e0]; exact hle q0 hq0
        refine ⟨_, rfl, _, rfl, sp, _, _, _, rfl, rfl, SqL.of eY, atI_last _ _, rl, _, _, _, rfl, rfl, SqT.of hrl, z0 _ _, _, rfl, _, rfl, sp, _, _, _, rfl, rfl, SqL.of eY, atI_last _ _, rl, _, _, _, rfl, rfl, SqT.of hrl, z1 _ _, _, rfl, r, _, _, _, rfl, rfl, SqT.of hr', z1 _ _, _, _, rfl, (by show 2 ≤ sizeLine; decide), fun t ht => ?_⟩
        have e3 : upd H' t (.tup [.int l.1, .int (if p.2 > l.2 then p.2 else l.2)]) sp = some (.lst (ys' ++ [.ref rl])) := ret_r1 eY ht
        refine ⟨_, rfl, _, rfl, sp, _, _, _, rfl, rfl, e3, ixN_last (by simp), ?_⟩
        rw [set_last]
        have st1 : SameT H' (upd (upd H' t (.tup [.int l.1, .int (if p.2 > l.2 then p.2 else l.2)])) sp (.lst (ys' ++ [.ref t]))) := (sameT_new ht).trans (sameT_lst e3)
        refine ⟨_, ys' ++ [.ref t], R' ++ [(l.1, if p.2 > l.2 then p.2 else l.2)], rfl, (sm.trans (same_new ht _)).upd hsp, by rw [upd_ne nDs.symm]; exact ret_r1 eZ ht, upd_same, (hY2.mono st1).snoc (sameT_lst e3 _ _ upd_same), hZ'.mono st1, ?_, ?_⟩
        · rw [take_snoc e1]
          exact ti.join hl1 d' c' (by split <;> omega)
        · rw [List.length_append, List.length_singleton] at hl ⊢; omega
      · have d' : ¬ p.1 ≤ l.2 + 1 := dec_f d
        exact ⟨_, rfl, .inl ⟨rfl, _, SqL.of eY⟩, _, rfl, sp, _, _, rfl, rfl, eY, small1000 (by omega), put (ti.ap.last (by omega))⟩
  · obtain ⟨c2, ys, R, rfl, sm, eZ, eY, hY, hZ', ti, hl⟩ := h
    rw [hZ'.length, List.take_length] at ti
    exact ⟨_, rfl, q sp H' ys R sm hsp eY hY (ti.perm hperm) (by omega)⟩
theorem ok_law_others (F : Fun K "_law_others" "_law_others" s_law_others f fd) (bl : Bl K mg cTableError cBadNumber cBadDomain cBadCell cOutside cDomain cNumbers cWords)  : FnOk P w K mg base CX0 1 f fd ["spans", "low", "high"] (sp_law_others K cTableError cBadNumber cBadDomain cBadCell cOutside cDomain cNumbers cWords) := by
  refine F.ok sc_law_others (fun vs H Q E h => ?_) (fun cdv A outer s H vs Q E hr h => ?_)
  · obtain ⟨a, xs, R, lo, hi, rfl, hS, hP, aR, hin, lh, hl, q⟩ := h
    rfl
  obtain ⟨a, xs, R, lo, hi, rfl, hS, hP, aR, hin, lh, hl, q⟩ := h
  refine ⟨_, (pss_cons (ps_set (i := 3) sc_law_others.nd rfl (Or.inl rfl) (pe_lst pa_nil))
     (pss_cons (ps_set (i := 4) sc_law_others.nd rfl (Or.inl rfl) (pv 1))
     (pss_cons (ps_for PassesOwn.never rfl (pi_list (pv 0)) (pg_name (i := 5) sc_law_others.nd rfl (Or.inl rfl))
     (pss_cons (ps_if (pt_cmpR op_lt (pv 4) (pe_ix ix_tup (pv 5) pe_int (fun _ _ => rfl)) (nomark _))
     (pss_one (ps_expr (pe_bm PySem.F.plainAttrs_list PySem.F.slot_list_append PySem.F.type_list_append mt_append (pv 3) (pa_cons (pe_tup (pa_cons (pv 4) (pa_cons (pe_op op_sub (pe_ix ix_tup (pv 5) pe_int (fun _ _ => rfl)) pe_int) pa_nil))) pa_nil))))
     pss_nil)
     (pss_one (ps_set (i := 4) sc_law_others.nd rfl (Or.inl rfl) (pe_op op_add (pe_ix ix_tup (pv 5) pe_int (fun _ _ => rfl)) pe_int)))))
     (pss_cons (ps_if (pt_cmpR op_le (pv 4) (pv 2) (nomark _))
     (pss_one (ps_expr (pe_bm PySem.F.plainAttrs_list PySem.F.slot_list_append PySem.F.type_list_append mt_append (pv 3) (pa_cons (pe_tup (pa_cons (pv 4) (pa_cons (pv 2) pa_nil))) pa_nil))))
     pss_nil)
     (pss_one (ps_ret (pv 3))))))), ?_⟩
  have hlen := hP.length
  refine ⟨(by show 0 ≤ sizeLine; decide), fun r hr => ?_⟩
  have s0 := same_new hr (.lst [])
  have e0 : upd H r (.lst []) r = some (.lst []) := upd_same
  generalize upd H r (.lst []) = H0 at s0 e0 ⊢
  refine ⟨_, rfl, ?_⟩
  refine ⟨_, rfl, a, rfl, ⟨_, s0.seq hS⟩, for_list (xs := xs) (fun i σ H' => ∃ (at_ : Int) (c5 : Option V) (ys : List V) (S : Prs), σ = [some (.ref a), some (.int lo), some (.int hi), some (.ref r), some (.int at_), c5] ∧ Same H H' ∧ H' r = some (.lst ys) ∧ PL H' ys S ∧ Oth R S lo at_ i ∧ at_ ≤ hi + 1 ∧ ys.length ≤ i)
    ⟨lo, none, [], [], rfl, s0, e0, .nil, ⟨Apart.nil, Int.le_refl _, (fun s hs => by cases hs), (fun j p _ e => (hin p (List.mem_of_getElem? e)).1), (fun q hq => by simp at hq), fun n => by first | (simp [inP]; done) | (simp [inP]; omega)⟩, by omega, Nat.le_refl _⟩
    (fun i σ H' _ h => by obtain ⟨_, _, _, _, _, sm, _⟩ := h; exact sm.seq hS) (fun i x σ H' e h => ?_) (fun σ H' h => ?_)⟩
  · obtain ⟨at_, c5, ys, S, rfl, sm, er, hY, ho, hat, hyl⟩ := h
    obtain ⟨p, t, ep, rfl, et⟩ := (hP.mono sm.tups).get e
    have hi_ : i < xs.length := (List.getElem?_eq_some_iff.mp e).1
    have st := ho.step aR ep
    have hp2 := hin p (List.mem_of_getElem? ep)
    refine ⟨_, rfl, _, rfl, t, _, _, _, rfl, rfl, SqT.of et, z0 _ _, _, _, rfl, rfl, _, rfl, ite2 (fun g => ?_) (fun g => ?_)⟩
    · rw [if_pos (dec_t g)] at st
      refine ⟨_, rfl, .inl ⟨rfl, _, SqL.of er⟩, _, rfl, _, rfl, t, _, _, _, rfl, rfl, SqT.of et, z0 _ _, _, _, rfl, rfl, (by show 2 ≤ sizeLine; decide), fun u hu => ?_⟩
      have e3 : upd H' u (.tup [.int at_, .int (p.1 - 1)]) r = some (.lst ys) := ret_r1 er hu
      refine ⟨r, ys, _, rfl, rfl, e3, small1000 (by omega), ?_⟩
      have st1 : SameT H' (upd (upd H' u (.tup [.int at_, .int (p.1 - 1)])) r (.lst (ys ++ [.ref u]))) := (sameT_new hu).trans (sameT_lst e3)
      refine ⟨_, rfl, t, _, _, _, rfl, rfl, SqT.of (st1 _ _ et), z1 _ _, _, _, rfl, rfl, ?_⟩
      exact ⟨_, _, ys ++ [.ref u], _, rfl, (sm.trans (same_new hu _)).upd hr, upd_same, (hY.mono st1).snoc (sameT_lst e3 _ _ upd_same), st, by omega, by rw [List.length_append, List.length_singleton]; omega⟩
    · rw [if_neg (dec_f g)] at st
      refine ⟨_, rfl, t, _, _, _, rfl, rfl, SqT.of et, z1 _ _, _, _, rfl, rfl, ?_⟩
      exact ⟨_, _, ys, S, rfl, sm, er, hY, st, by omega, by omega⟩
  · obtain ⟨at_, c5, ys, S, rfl, sm, er, hY, ho, hat, hyl⟩ := h
    rw [hlen] at ho
    obtain ⟨f1, f2⟩ := ho.last hat
    refine ⟨_, rfl, _, rfl, _, _, rfl, rfl, _, rfl, ite2 (fun g => ?_) (fun g => ?_)⟩
    · rw [if_pos (dec_t g)] at f1 f2
      refine ⟨_, rfl, .inl ⟨rfl, _, SqL.of er⟩, _, rfl, _, rfl, (by show 2 ≤ sizeLine; decide), fun u hu => ?_⟩
      have e3 : upd H' u (.tup [.int at_, .int hi]) r = some (.lst ys) := ret_r1 er hu
      refine ⟨r, ys, _, rfl, rfl, e3, small1000 (by omega), ?_⟩
      have st1 : SameT H' (upd (upd H' u (.tup [.int at_, .int hi])) r (.lst (ys ++ [.ref u]))) := (sameT_new hu).trans (sameT_lst e3)
      exact ⟨_, rfl, q r _ (ys ++ [.ref u]) _ ((sm.trans (same_new hu _)).upd hr) hr upd_same ((hY.mono st1).snoc (sameT_lst e3 _ _ upd_same)) f1 f2 (by rw [List.length_append, List.length_singleton]; omega)⟩
    · rw [if_neg (dec_f g)] at f1 f2
      exact ⟨_, rfl, q r _ ys S sm hr er hY f1 f2 (by omega)⟩
theorem ok_law_alike (F : Fun K "_law_alike" "_law_alike" s_law_alike f fd) (bl : Bl K mg cTableError cBadNumber cBadDomain cBadCell cOutside cDomain cNumbers cWords)  : FnOk P w K mg base CX0 1 f fd ["found", "due"] (sp_law_alike K cTableError cBadNumber cBadDomain cBadCell cOutside cDomain cNumbers cWords) := by
  refine F.ok sc_law_alike (fun vs H Q E h => ?_) (fun cdv A outer s H vs Q E hr h => ?_)
  · obtain ⟨a, b, xs, ys, R, rfl, ea, eb, hX, hY, hl, q⟩ := h
    rfl
  obtain ⟨a, b, xs, ys, R, rfl, ea, eb, hX, hY, hl, q⟩ := h
  refine ⟨_, (pss_cons (ps_if (PW.pt (pw_or (pt_not (pt_val (pe_callB call_isiG rfl bl.isinstance_ PyProof.Rows.boot_isinstance (pa_cons (pv 0) (pa_cons (pe_bltn (v := .ty "list") rfl bl.list_ PyProof.Rows.boot_list rfl) pa_nil))))) (pw_or1 (pt_cmpR op_ne (pe_callB call_len_seq rfl bl.len_ PySem.boot_len (pa_cons (pv 0) pa_nil)) (pe_callB call_len_seq rfl bl.len_ PySem.boot_len (pa_cons (pv 1) pa_nil)) (nomark _)))))
     (pss_one (ps_ret pe_bl))
     pss_nil)
     (pss_cons (ps_for PassesOwn.never rfl (pi_range1 rfl bl.range_ (pa_cons (pe_callB call_len_seq rfl bl.len_ PySem.boot_len (pa_cons (pv 1) pa_nil)) pa_nil)) (pg_name (i := 2) sc_law_alike.nd rfl (Or.inl rfl))
     (pss_cons (ps_if (PW.pt (pw_or (pt_not (pt_val (pe_callB call_isiG rfl bl.isinstance_ PyProof.Rows.boot_isinstance (pa_cons (pe_ix ix_list (pv 0) (pv 2) (fun _ _ => rfl)) (pa_cons (pe_bltn (v := .ty "tuple") rfl bl.tuple_ PyProof.Rows.boot_tuple rfl) pa_nil))))) (pw_or1 (pt_cmpR op_ne (pe_callB call_len_seq rfl bl.len_ PySem.boot_len (pa_cons (pe_ix ix_list (pv 0) (pv 2) (fun _ _ => rfl)) pa_nil)) pe_int (nomark _)))))
     (pss_one (ps_ret pe_bl))
     pss_nil)
     (pss_cons (ps_for PassesOwn.never rfl (pi_tup (pe_ix ix_list (pv 0) (pv 2) (fun _ _ => rfl))) (pg_name (i := 3) sc_law_alike.nd rfl (Or.inl rfl))
     (pss_one (ps_if (PW.pt (pw_or (pt_not (pt_val (pe_callB call_isiG rfl bl.isinstance_ PyProof.Rows.boot_isinstance (pa_cons (pv 3) (pa_cons (pe_bltn (v := .ty "int") rfl bl.int_ PyProof.Rows.boot_int rfl) pa_nil))))) (pw_or1 (pt_val (pe_callB call_isiG rfl bl.isinstance_ PyProof.Rows.boot_isinstance (pa_cons (pv 3) (pa_cons (pe_bltn (v := .ty "bool") rfl bl.bool_ PyProof.Rows.boot_bool rfl) pa_nil)))))))
     (pss_one (ps_ret pe_bl))
     pss_nil)))
     (pss_one (ps_if (pt_cmpR (op_neT hr) (pe_ix ix_list (pv 0) (pv 2) (fun _ _ => rfl)) (pe_ix ix_list (pv 1) (pv 2) (fun _ _ => rfl)) (nomark _))
     (pss_one (ps_ret pe_bl))
     pss_nil)))))
     (pss_one (ps_ret pe_bl)))), ?_⟩
  have l1 := hX.length
  have l2 := hY.length
  refine ⟨_, rfl, _, _, _, _, true, rfl, .ty _, .inl (.lst ea), (by first | rfl | with_unfolding_all rfl | decide +kernel), _, rfl, iteF ?_⟩
  refine ⟨_, rfl, a, _, rfl, .inl (SqL.of ea), _, rfl, b, _, rfl, .inl (SqL.of eb), rfl, _, rfl, iteNS (by rw [l1, l2]) ?_⟩
  refine ⟨_, rfl, b, _, rfl, .inl (SqL.of eb), _, rfl, (by show -(2 ^ 62) ≤ ((ys.length : Nat) : Int); omega), (by show ((ys.length : Nat) : Int) < 2 ^ 62; omega), for_range (fun i σ H' => H' = H ∧ ∃ c2 c3 : Option V, σ = [some (.ref a), some (.ref b), c2, c3]) ⟨rfl, _, _, rfl⟩ (fun i σ H' hi h => ?_) (fun σ H' h => ?_)⟩
  · obtain ⟨rfl, c2, c3, rfl⟩ := h
    have hiR : i < R.length := by omega
    obtain ⟨t, ex, et⟩ := pl_get2 hX (List.getElem?_eq_getElem hiR)
    obtain ⟨u, ey, eu⟩ := pl_get2 hY (List.getElem?_eq_getElem hiR)
    refine ⟨_, rfl, _, rfl, a, _, _, _, rfl, rfl, SqL.of ea, getI ex, _, _, _, _, true, rfl, .ty _, .inl (.tup et), (by first | rfl | with_unfolding_all rfl | decide +kernel), _, rfl, iteF ?_⟩
    refine ⟨_, rfl, _, rfl, a, _, _, _, rfl, rfl, SqL.of ea, getI ex, t, _, rfl, .inr (SqT.of et), rfl, _, rfl, iteNS rfl ?_⟩
    refine ⟨_, rfl, _, rfl, a, _, _, _, rfl, rfl, SqL.of ea, getI ex, t, rfl, ⟨_, SqT.of et⟩, for_tup (xs := [V.int R[i].1, V.int R[i].2]) (fun j σ H2 => H2 = H' ∧ ∃ c3 : Option V, σ = [some (.ref a), some (.ref b), some (.int (0 + (i : Int))), c3]) ⟨rfl, _, rfl⟩ (fun j σ H2 _ h => by rw [h.1]; exact SqT.of et) (fun j y σ H2 ej h => ?_) (fun σ H2 h => ?_)⟩
    · obtain ⟨rfl, c3, rfl⟩ := h
      obtain ⟨w, rfl⟩ : ∃ w : Int, y = .int w := by
        match j, ej with
        | 0, ej => exact ⟨R[i].1, by simpa using ej.symm⟩
        | 1, ej => exact ⟨R[i].2, by simpa using ej.symm⟩
        | j + 2, ej => simp at ej
      refine ⟨_, rfl, _, _, _, _, true, rfl, .ty _, .inl (.int _), (by first | rfl | with_unfolding_all rfl | decide +kernel), _, rfl, iteF ?_⟩
      exact ⟨_, rfl, _, _, _, _, false, rfl, .ty _, .inl (.int _), (by first | rfl | with_unfolding_all rfl | decide +kernel), _, rfl, iteF ⟨rfl, _, rfl⟩⟩
    · obtain ⟨rfl, c3, rfl⟩ := h
      exact ⟨_, rfl, _, rfl, a, _, _, _, rfl, rfl, SqL.of ea, getI ex, _, rfl, _, rfl, b, _, _, _, rfl, rfl, SqL.of eb, getI ey, neT_pair et eu ⟨_, rfl, iteF ⟨rfl, _, _, rfl⟩⟩⟩
  · obtain ⟨rfl, c2, c3, rfl⟩ := h
    exact q
theorem ok_Domain___init___Numbers (F : Fun K "__init__" "Domain.__init__" s_Domain___init___Numbers f fd) (bl : Bl K mg cTableError cBadNumber cBadDomain cBadCell cOutside cDomain cNumbers cWords)  : FnOk P w K mg base CX0 1 f fd ["self", "low", "high"] (sp_Domain___init___Numbers K cTableError cBadNumber cBadDomain cBadCell cOutside cDomain cNumbers cWords) := by
  refine F.ok sc_Domain___init___Numbers (fun vs H Q E h => ?_) (fun cdv A outer s H vs Q E hr h => ?_)
  · obtain ⟨x, dx, lo, hi, rfl, hx, q⟩ := h
    rfl
  obtain ⟨x, dx, lo, hi, rfl, hx, q⟩ := h
  refine ⟨_, (pss_cons (ps_fld (pv 0) (pv 1) rfl)
     (pss_one (ps_fld (pv 0) (pv 2) rfl))), ?_⟩
  refine ⟨_, rfl, _, rfl, x, _, dx, _, rfl, hx, bl.k_Numbers, bl.na_Numbers_low, (by show 0 < 1000; decide), _, rfl, _, rfl, x, _, dx, _, rfl, upd_same, bl.k_Numbers, bl.na_Numbers_high, (by show 1 < 1000; decide), ?_⟩
  show Q .non (upd (upd H x (.ins cNumbers dx [("low", .int lo)])) x (.ins cNumbers dx (putF "high" (.int hi) [("low", .int lo)])))
  rw [put2]
  exact q
theorem ok_Domain_whole_Numbers (F : Fun K "whole" "Domain.whole" s_Domain_whole_Numbers f fd) (bl : Bl K mg cTableError cBadNumber cBadDomain cBadCell cOutside cDomain cNumbers cWords)  : FnOk P w K mg base CX0 1 f fd ["self"] (sp_Domain_whole_Numbers K cTableError cBadNumber cBadDomain cBadCell cOutside cDomain cNumbers cWords) := by
  refine F.ok sc_Domain_whole_Numbers (fun vs H Q E h => ?_) (fun cdv A outer s H vs Q E hr h => ?_)
  · obtain ⟨a, lo, hi, rfl, ⟨dx, ha⟩, q⟩ := h
    rfl
  obtain ⟨a, lo, hi, rfl, ⟨dx, ha⟩, q⟩ := h
  refine ⟨_, (pss_one (ps_ret (pe_lst (pa_cons (pe_tup (pa_cons (pe_fld (pv 0) rfl) (pa_cons (pe_fld (pv 0) rfl) pa_nil))) pa_nil)))), ?_⟩
  refine ⟨_, rfl, a, _, _, _, _, rfl, ha, bl.k_Numbers, bl.na_Numbers_low, rfl, _, rfl, a, _, _, _, _, rfl, ha, bl.k_Numbers, bl.na_Numbers_high, rfl, (by show 2 ≤ sizeLine; decide), fun t ht => ⟨(by show 1 ≤ sizeLine; decide), fun l hl => ?_⟩⟩
  exact q l t _ ((same_new ht _).trans (same_new hl _)) ((same_new ht _).free hl) upd_same (whole_fin ht hl)
theorem ok_Numbers_borne_code_Numbers (F : Fun K "borne_code" "Numbers.borne_code" s_Numbers_borne_code_Numbers f fd) (bl : Bl K mg cTableError cBadNumber cBadDomain cBadCell cOutside cDomain cNumbers cWords)  : FnOk P w K mg base CX0 1 f fd ["self", "value"] (sp_Numbers_borne_code_Numbers K cTableError cBadNumber cBadDomain cBadCell cOutside cDomain cNumbers cWords) := by
  refine F.ok sc_Numbers_borne_code_Numbers (fun vs H Q E h => ?_) (fun cdv A outer s H vs Q E hr h => ?_)
  · obtain ⟨a, v, rfl, q⟩ := h
    rfl
  obtain ⟨a, v, rfl, q⟩ := h
  refine ⟨_, (pss_one (ps_ret (pv 1))), ?_⟩
  exact ⟨_, rfl, q⟩
theorem ok_is_number (F : Fun K "is_number" "is_number" s_is_number f fd) (bl : Bl K mg cTableError cBadNumber cBadDomain cBadCell cOutside cDomain cNumbers cWords) (c_all_among : Callee P w K mg base 1 "all_among" ["text", "signs"] (sp_all_among K cTableError cBadNumber cBadDomain cBadCell cOutside cDomain cNumbers cWords)) : FnOk P w K mg base CX0 2 f fd ["text"] (sp_is_number K cTableError cBadNumber cBadDomain cBadCell cOutside cDomain cNumbers cWords) := by
  refine F.ok sc_is_number (fun vs H Q E h => ?_) (fun cdv A outer s H vs Q E hr h => ?_)
  · obtain ⟨z, rfl, hz, q⟩ := h
    rfl
  obtain ⟨z, rfl, hz, q⟩ := h
  refine ⟨_, (pss_cons (ps_if (pt_cmpR op_eq (pv 0) pe_str (nomark _))
     (pss_one (ps_ret pe_bl))
     pss_nil)
     (pss_cut (ps_set (i := 1) sc_is_number.nd rfl (Or.inl rfl) (pe_ifExp (pt_val (pe_bm PySem.F.plainAttrs_str PySem.F.slot_str_startswith PySem.F.type_str_startswith mt_startswith (pv 0) (pa_cons pe_str pa_nil))) (pe_slice sl_str (pv 0) (po_some pe_int) po_none) (pv 0)))
     (pss_one (ps_ret (pe_and (pe_chain op_le op_le pe_int (pe_callB call_len_str rfl bl.len_ PySem.boot_len (pa_cons (pv 1) pa_nil)) (pe_gl rfl bl.MOST_FIGURES_)) (pe_and (pe_cmpR op_ne (pe_ix ix_str (pv 1) pe_int (fun _ _ => rfl)) pe_str (nomark _)) (pe_one (pe_fn c_all_among hr rfl (pa_cons (pv 1) (pa_cons (pe_gl rfl bl.FIGURES_) pa_nil)))))))))), ?_⟩
  refine ⟨_, rfl, rfl, _, rfl, ?_⟩
  refine ite2 (fun g0 => ?_) (fun g0 => ?_)
  · have e : isn z = true := by unfold isn; rw [g0]; rfl
    rw [e] at q; exact q
  refine ⟨fun σ' H2 => σ' = [some (.str z), some (.str (figz z))] ∧ H2 = H, ?_, ?_⟩
  · refine ⟨_, rfl, rfl, _, _, rfl, rfl, _, rfl, ?_⟩
    refine ite2 (fun g1 => ?_) (fun g1 => ?_)
    · have e : figz z = Txt.slice z (some 1) none := by unfold figz; rw [if_pos g1]
      rw [e]
      exact ⟨_, rfl, _, rfl, _, rfl, big hz, rfl, rfl⟩
    · have e : figz z = z := by unfold figz; rw [if_neg g1]
      rw [e]
      exact ⟨_, rfl, rfl, rfl⟩
  rintro σ2 H2 ⟨rfl, e2⟩
  rw [e2]
  have hf : (figz z).length ≤ 1000 := Nat.le_trans (figz_len z) hz
  have q0 : isn z = (decide ((1 : Int) ≤ (((figz z).length : Nat) : Int)) && (decide ((((figz z).length : Nat) : Int) ≤ 60) && (!decide (V.str ⟨#[(figz z).cps.toList.headD 0]⟩ = V.str "0") && allIn (figz z) ten))) := by
    unfold isn
    rw [Bool.eq_false_iff.mpr g0, Bool.false_or]
  rw [q0] at q
  generalize figz z = f at q hf ⊢
  refine ⟨_, rfl, _, rfl, big hf, _, _, rfl, rfl, _, rfl, ?_⟩
  refine ite2 (fun g1 => ?_) (fun g1 => ?_)
  · have h1 : (1 : Int) ≤ ((f.length : Nat) : Int) := dec_t g1
    rw [g1, Bool.true_and] at q
    refine ⟨_, _, rfl, rfl, _, rfl, ?_⟩
    refine ite2 (fun g2 => ?_) (fun g2 => ?_)
    · rw [g2, Bool.true_and] at q
      refine ⟨_, rfl, _, _, _, rfl, rfl, big hf, head_at (by omega), rfl, _, rfl, ?_⟩
      refine ite2 (fun g3 => ?_) (fun g3 => ?_)
      · rw [g3, Bool.true_and] at q
        exact ⟨_, rfl, f, ten, rfl, q⟩
      · rw [Bool.eq_false_iff.mpr g3, Bool.false_and] at q
        exact q
    · rw [Bool.eq_false_iff.mpr g2, Bool.false_and] at q
      exact q
  · rw [Bool.eq_false_iff.mpr g1, Bool.false_and] at q
    exact ⟨_, rfl, iteF q⟩
theorem ok_without (F : Fun K "without" "without" s_without f fd) (bl : Bl K mg cTableError cBadNumber cBadDomain cBadCell cOutside cDomain cNumbers cWords) (c_both : Callee P w K mg base 1 "both" ["ones", "others"] (sp_both K cTableError cBadNumber cBadDomain cBadCell cOutside cDomain cNumbers cWords)) (c_gaps : Callee P w K mg base 1 "gaps" ["spans", "low", "high"] (sp_gaps K cTableError cBadNumber cBadDomain cBadCell cOutside cDomain cNumbers cWords)) : FnOk P w K mg base CX0 2 f fd ["ones", "others"] (sp_without K cTableError cBadNumber cBadDomain cBadCell cOutside cDomain cNumbers cWords) := by
  refine F.ok sc_without (fun vs H Q E h => ?_) (fun cdv A outer s H vs Q E hr h => ?_)
  · obtain ⟨a, b, xs, ys, A0, B0, rfl, hA, hB, PA, PB, aA, aB, hl1, hl2, q⟩ := h
    rfl
  obtain ⟨a, b, xs, ys, A0, B0, rfl, hA, hB, PA, PB, aA, aB, hl1, hl2, q⟩ := h
  refine ⟨_, (pss_cons (ps_if (pt_not (pt_truth (pv 0) (by intro _; rfl)))
     (pss_one (ps_ret (pe_lst pa_nil)))
     pss_nil)
     (pss_one (ps_ret (pe_fn c_both hr rfl (pa_cons (pv 0) (pa_cons (pe_fn c_gaps hr rfl (pa_cons (pv 1) (pa_cons (pe_ix ix_tup (pe_ix ix_list (pv 0) pe_int (fun _ _ => rfl)) pe_int (fun _ _ => rfl)) (pa_cons (pe_ix ix_tup (pe_ix ix_list (pv 0) (pe_un un_neg pe_int) (fun _ _ => rfl)) pe_int (fun _ _ => rfl)) pa_nil)))) pa_nil)))))), ?_⟩
  refine ⟨_, rfl, !xs.isEmpty, .inl ⟨xs, hA, rfl⟩, ?_⟩
  by_cases hne : xs = []
  · have eE : (!xs.isEmpty) = false := by rw [hne]; rfl
    rw [eE]
    refine ⟨(by show 0 ≤ sizeLine; decide), fun r hr' => ?_⟩
    have eA : A0 = [] := by
      have := PA.length
      rw [hne] at this
      exact List.eq_nil_of_length_eq_zero this.symm
    exact q r _ [] [] (same_new hr' _) hr' upd_same .nil Apart.nil (fun n => by rw [eA]; rfl) (Nat.zero_le _)
  · have eE : (!xs.isEmpty) = true := by cases xs with | nil => exact absurd rfl hne | cons _ _ => rfl
    rw [eE]
    refine iteF ?_
    obtain ⟨xs', rl, A', l, ex, eA, PA2, hrl⟩ := PL.last PA hne
    obtain ⟨p0, r0, f1, f2, f3⟩ := PA.get (i := 0) (x := xs[0]'(by cases xs with | nil => exact absurd rfl hne | cons _ _ => simp)) (List.getElem?_eq_getElem _)
    have v0 : atI xs 0 = some (.ref r0) := by rw [← f2]; exact atI_nat (j := 0) (List.getElem?_eq_getElem _)
    have vl : atI xs (-1) = some (.ref rl) := by rw [ex]; exact atI_last _ _
    refine ⟨_, rfl, _, rfl, _, rfl, a, _, _, _, rfl, rfl, hA, v0, r0, _, _, _, rfl, rfl, SqT.of f3, z0 _ _, _, rfl, _, rfl, a, _, _, _, rfl, rfl, hA, vl, rl, _, _, _, rfl, rfl, SqT.of hrl, z1 _ _, ?_⟩
    refine ⟨b, ys, B0, p0.1, l.2, rfl, hB, PB, aB, by omega, fun r1 H1 zs F1 s1 hr1 e1 P1 ap1 mem1 l1 => ?_⟩
    refine ⟨a, r1, xs, zs, A0, F1, rfl, s1.seq hA, SqL.of e1, PA.mono s1.tups, P1, aA, ap1, by omega, fun r2 H2 ws R s2 hr2 e2 P2 ap2 mem2 l2 => ?_⟩
    refine q r2 H2 ws R (s1.trans s2) (s1.free hr2) e2 P2 ap2 (fun n => ?_) (by omega)
    rw [mem2 n, mem1 n]
    cases z : inP A0 n with
    | false => rfl
    | true =>
      obtain ⟨A1, rfl⟩ : ∃ A1, A0 = p0 :: A1 := by
        cases A0 with
        | nil => cases f1
        | cons y ys => cases f1; exact ⟨ys, rfl⟩
      have en := aA.ends (M := A') (z := l) eA z
      rw [decide_eq_true en.1, decide_eq_true en.2]
      rfl
theorem ok_law_part (F : Fun K "_law_part" "_law_part" s_law_part f fd) (bl : Bl K mg cTableError cBadNumber cBadDomain cBadCell cOutside cDomain cNumbers cWords) (c__law_pair : Callee P w K mg base 1 "_law_pair" ["cell", "low", "high"] (sp_law_pair K cTableError cBadNumber cBadDomain cBadCell cOutside cDomain cNumbers cWords)) : FnOk P w K mg base CX0 2 f fd ["cell", "low", "high"] (sp_law_part K cTableError cBadNumber cBadDomain cBadCell cOutside cDomain cNumbers cWords) := by
  refine F.ok sc_law_part (fun vs H Q E h => ?_) (fun cdv A outer s H vs Q E hr h => ?_)
  · obtain ⟨c, lo, hi, rfl, hb, lh, b1, b2, q⟩ := h
    rfl
  obtain ⟨c, lo, hi, rfl, hb, lh, b1, b2, q⟩ := h
  refine ⟨_, (pss_cons (ps_set (i := 3) sc_law_part.nd rfl (Or.inl rfl) (pe_fn c__law_pair hr rfl (pa_cons (pv 0) (pa_cons (pv 1) (pa_cons (pv 2) pa_nil)))))
     (pss_cut (ps_set (i := 4) sc_law_part.nd rfl (Or.inl rfl) (pe_op op_mod (pe_op op_mod (pe_op op_mul (pe_op op_mod (pv 0) pe_int) pe_int) pe_int) pe_int))
     (pss_cons (ps_if (pt_cmpR op_eq (pv 4) pe_int (nomark _))
     (pss_one (ps_ret (pe_op op_add_str pe_str (pe_callTy call_str_int rfl bl.str_ PyProof.Rows.boot_str (pa_cons (pe_ix ix_tup (pv 3) pe_int (fun _ _ => rfl)) pa_nil)))))
     pss_nil)
     (pss_cons (ps_if (pt_cmpR op_eq (pv 4) pe_int (nomark _))
     (pss_one (ps_ret (pe_op op_add_str (pe_callTy call_str_int rfl bl.str_ PyProof.Rows.boot_str (pa_cons (pe_ix ix_tup (pv 3) pe_int (fun _ _ => rfl)) pa_nil)) pe_str)))
     pss_nil)
     (pss_cons (ps_if (pt_cmpR op_lt (pv 4) pe_int (nomark _))
     (pss_one (ps_ret (pe_op op_add_str (pe_op op_add_str (pe_callTy call_str_int rfl bl.str_ PyProof.Rows.boot_str (pa_cons (pe_ix ix_tup (pv 3) pe_int (fun _ _ => rfl)) pa_nil)) pe_str) (pe_callTy call_str_int rfl bl.str_ PyProof.Rows.boot_str (pa_cons (pe_ix ix_tup (pv 3) pe_int (fun _ _ => rfl)) pa_nil)))))
     pss_nil)
     (pss_one (ps_ret (pe_callTy call_str_int rfl bl.str_ PyProof.Rows.boot_str (pa_cons (pe_ix ix_tup (pv 3) pe_int (fun _ _ => rfl)) pa_nil))))))))), ?_⟩
  obtain ⟨i1, i2, i3⟩ := pr17_in c lh
  have p1 : bnd (pr17 lo hi c).1 := bnd_in b1 b2 i1 (by omega)
  have p2 : bnd (pr17 lo hi c).2 := bnd_in b1 b2 (by omega) i3
  have l1 := len_num p1
  have l2 := len_num p2
  refine ⟨_, rfl, _, rfl, _, rfl, c, lo, hi, rfl, hb, lh, fun t H1 s1 et => ?_⟩
  have q := q H1 s1
  unfold part17 at q
  generalize pr17 lo hi c = r at et p1 p2 l1 l2 q ⊢
  refine ⟨fun σ' H' => H' = H1 ∧ σ' = [some (.int c), some (.int lo), some (.int hi), some (.ref t), some (.int (way17 c))], ?_, ?_⟩
  · exact ⟨_, rfl, _, _, rfl, rfl, (by show (0 : Int) < 10037; decide), _, _, rfl, rfl, .inr ⟨by decide, by decide⟩, _, _, rfl, rfl, (by show (0 : Int) < 10037; decide), _, _, rfl, rfl, (by show (0 : Int) < 8; decide), rfl, rfl⟩
  rintro σ3 H3 ⟨rfl, rfl⟩
  refine ⟨_, rfl, rfl, _, rfl, ite2 (fun g0 => ?_) (fun g0 => ?_)⟩
  · rw [if_pos (dec_int_t g0)] at q
    exact ⟨_, rfl, t, _, _, _, rfl, rfl, SqT.of et, z1 _ _, _, rfl, log_sm p2, _, _, rfl, rfl, big (by rw [dots2]; omega), q⟩
  rw [if_neg (dec_int_f g0)] at q
  refine ⟨_, rfl, rfl, _, rfl, ite2 (fun g1 => ?_) (fun g1 => ?_)⟩
  · rw [if_pos (dec_int_t g1)] at q
    exact ⟨_, rfl, t, _, _, _, rfl, rfl, SqT.of et, z0 _ _, _, rfl, log_sm p1, _, _, rfl, rfl, big (by rw [dots2]; omega), q⟩
  rw [if_neg (dec_int_f g1)] at q
  refine ⟨_, rfl, _, _, rfl, rfl, _, rfl, ite2 (fun g2 => ?_) (fun g2 => ?_)⟩
  · rw [if_pos (dec_t g2)] at q
    exact ⟨_, rfl, t, _, _, _, rfl, rfl, SqT.of et, z0 _ _, _, rfl, log_sm p1, _, _, rfl, rfl, big (by rw [dots2]; omega), _, rfl, t, _, _, _, rfl, rfl, SqT.of et, z1 _ _, _, rfl, log_sm p2, _, _, rfl, rfl, big (by rw [len_ap, dots2]; omega), q⟩
  · rw [if_neg (dec_f g2)] at q
    exact ⟨_, rfl, t, _, _, _, rfl, rfl, SqT.of et, z0 _ _, _, rfl, log_sm p1, q⟩
theorem ok_Numbers___init___Numbers (F : Fun K "__init__" "Numbers.__init__" s_Numbers___init___Numbers f fd) (bl : Bl K mg cTableError cBadNumber cBadDomain cBadCell cOutside cDomain cNumbers cWords) (b_Domain___init___Numbers : BCallee CX0 P w K mg base 1 "Domain" "__init__" ["self", "low", "high"] (sp_Domain___init___Numbers K cTableError cBadNumber cBadDomain cBadCell cOutside cDomain cNumbers cWords)) : FnOk P w K mg base (CX1 P w) 2 f fd ["self", "low", "high"] (sp_Numbers___init___Numbers K cTableError cBadNumber cBadDomain cBadCell cOutside cDomain cNumbers cWords) := by
  refine F.okE sc_Numbers___init___Numbers (fun vs H Q E h => ?_) (fun cdv A outer s H vs Q E hr h => ?_)
  · obtain ⟨x, dx, lo, hi, rfl, hx, q, qE⟩ := h
    rfl
  obtain ⟨x, dx, lo, hi, rfl, hx, q, qE⟩ := h
  refine ⟨_, (pss_cons (ps_if (pt_cmpR op_gt (pv 1) (pv 2) (nomark _))
     (pss_one (ps_raiseE bl.x_BadDomain hr.hd rfl bl.BadDomain_ (pa_cons pe_str pa_nil)))
     pss_nil)
     (pss_one (ps_expr (pe_base b_Domain___init___Numbers pass0 hr rfl (pa_cons (pv 0) (pa_cons (pv 1) (pa_cons (pv 2) pa_nil))))))), ?_⟩
  refine ⟨_, rfl, _, rfl, _, _, rfl, rfl, _, rfl, ?_⟩
  refine ite2 (fun g => ?_) (fun g => ?_)
  · exact ⟨(by show 1 ≤ sizeLine; decide), qE (dec_t g)⟩
  · exact ⟨_, rfl, _, rfl, _, rfl, x, dx, lo, hi, rfl, hx, q (Int.not_lt.mp (dec_f g))⟩
theorem ok_Domain_has_code_Numbers (F : Fun K "has_code" "Domain.has_code" s_Domain_has_code_Numbers f fd) (bl : Bl K mg cTableError cBadNumber cBadDomain cBadCell cOutside cDomain cNumbers cWords) (c_is_whole : Callee P w K mg base 1 "is_whole" ["value"] (sp_is_whole K cTableError cBadNumber cBadDomain cBadCell cOutside cDomain cNumbers cWords)) : FnOk P w K mg base CX0 2 f fd ["self", "value"] (sp_Domain_has_code_Numbers K cTableError cBadNumber cBadDomain cBadCell cOutside cDomain cNumbers cWords) := by
  refine F.ok sc_Domain_has_code_Numbers (fun vs H Q E h => ?_) (fun cdv A outer s H vs Q E hr h => ?_)
  · obtain ⟨a, lo, hi, v, rfl, ⟨dx, ha⟩, hv, q⟩ := h
    rfl
  obtain ⟨a, lo, hi, v, rfl, ⟨dx, ha⟩, hv, q⟩ := h
  refine ⟨_, (pss_one (ps_ret (pe_and (pe_fn c_is_whole hr rfl (pa_cons (pv 1) pa_nil)) (pe_one (pe_chain op_le op_le (pe_fld (pv 0) rfl) (pv 1) (pe_fld (pv 0) rfl)))))), ?_⟩
  refine ⟨_, rfl, v, rfl, hv, _, rfl, ?_⟩
  cases v with
  | int i =>
    refine iteT ⟨_, rfl, a, _, _, _, _, rfl, ha, bl.k_Numbers, bl.na_Numbers_low, rfl, _, rfl, _, _, rfl, rfl, _, rfl, ?_⟩
    have q : Q (.bl (decide (lo ≤ i) && decide (i ≤ hi))) H := q
    refine ite2 (fun g => ?_) (fun g => ?_)
    · rw [g, Bool.true_and] at q
      exact ⟨_, rfl, a, _, _, _, _, rfl, ha, bl.k_Numbers, bl.na_Numbers_high, rfl, _, _, rfl, rfl, q⟩
    · rw [Bool.eq_false_iff.mpr g, Bool.false_and] at q
      exact q
  | non => exact iteF q
  | bl b => exact iteF q
  | str z => exact iteF q
  | _ => exact hv.elim
theorem ok_number_of (F : Fun K "number_of" "number_of" s_number_of f fd) (bl : Bl K mg cTableError cBadNumber cBadDomain cBadCell cOutside cDomain cNumbers cWords) (c_is_number : Callee P w K mg base 2 "is_number" ["text"] (sp_is_number K cTableError cBadNumber cBadDomain cBadCell cOutside cDomain cNumbers cWords)) : FnOk P w K mg base (CX1 P w) 3 f fd ["text"] (sp_number_of K cTableError cBadNumber cBadDomain cBadCell cOutside cDomain cNumbers cWords) := by
  refine F.okE sc_number_of (fun vs H Q E h => ?_) (fun cdv A outer s H vs Q E hr h => ?_)
  · obtain ⟨z, rfl, hz, q, qE⟩ := h
    rfl
  obtain ⟨z, rfl, hz, q, qE⟩ := h
  refine ⟨_, (pss_cons (ps_if (pt_not (pt_val (pe_fn c_is_number hr rfl (pa_cons (pv 0) pa_nil))))
     (pss_one (ps_raiseE bl.x_BadNumber hr.hd rfl bl.BadNumber_ (pa_cons (pe_fr (pv 0)) pa_nil)))
     pss_nil)
     (pss_one (ps_ret (pe_callTy call_int_text rfl bl.int_ PyProof.Rows.boot_int (pa_cons (pv 0) pa_nil))))), ?_⟩
  have hz1 := hz.len
  refine ⟨_, rfl, z, rfl, by omega, _, rfl, ?_⟩
  cases hi : isn z with
  | true => exact iteF ⟨_, rfl, z, _, rfl, read_z hi (by omega), by omega, q hi⟩
  | false => exact iteT ⟨_, rfl, z, rfl, by omega, hz.low, (by decide +kernel), fun z2 => ⟨(by show 1 ≤ sizeLine; decide), qE hi⟩⟩
theorem ok_Numbers_bears_Numbers (F : Fun K "bears" "Numbers.bears" s_Numbers_bears_Numbers f fd) (bl : Bl K mg cTableError cBadNumber cBadDomain cBadCell cOutside cDomain cNumbers cWords) (m_Domain_has_code_Numbers : MCallee CX0 P w K mg base 2 cNumbers "has_code" ["self", "value"] (sp_Domain_has_code_Numbers K cTableError cBadNumber cBadDomain cBadCell cOutside cDomain cNumbers cWords)) : FnOk P w K mg base CX0 3 f fd ["self", "value"] (sp_Numbers_bears_Numbers K cTableError cBadNumber cBadDomain cBadCell cOutside cDomain cNumbers cWords) := by
  refine F.ok sc_Numbers_bears_Numbers (fun vs H Q E h => ?_) (fun cdv A outer s H vs Q E hr h => ?_)
  · obtain ⟨a, lo, hi, v, rfl, ⟨dx, ha⟩, hv, q⟩ := h
    rfl
  obtain ⟨a, lo, hi, v, rfl, ⟨dx, ha⟩, hv, q⟩ := h
  refine ⟨_, (pss_one (ps_ret (pe_mt m_Domain_has_code_Numbers pass0 bl.k_Numbers hr (pv 0) (pa_cons (pv 1) pa_nil)))), ?_⟩
  exact ⟨_, rfl, a, _, _, rfl, ha, rfl, _, rfl, a, lo, hi, v, rfl, ⟨dx, ha⟩, hv, q⟩
theorem ok_Domain_code_Numbers (F : Fun K "code" "Domain.code" s_Domain_code_Numbers f fd) (bl : Bl K mg cTableError cBadNumber cBadDomain cBadCell cOutside cDomain cNumbers cWords) (m_Numbers_borne_code_Numbers : MCallee CX0 P w K mg base 3 cNumbers "borne_code" ["self", "value"] (sp_Numbers_borne_code_Numbers K cTableError cBadNumber cBadDomain cBadCell cOutside cDomain cNumbers cWords)) (m_Numbers_bears_Numbers : MCallee CX0 P w K mg base 3 cNumbers "bears" ["self", "value"] (sp_Numbers_bears_Numbers K cTableError cBadNumber cBadDomain cBadCell cOutside cDomain cNumbers cWords)) : FnOk P w K mg base (CX1 P w) 4 f fd ["self", "value"] (sp_Domain_code_Numbers K cTableError cBadNumber cBadDomain cBadCell cOutside cDomain cNumbers cWords) := by
  refine F.okE sc_Domain_code_Numbers (fun vs H Q E h => ?_) (fun cdv A outer s H vs Q E hr h => ?_)
  · obtain ⟨a, lo, hi, v, rfl, ⟨dx, ha⟩, hv, q, qE⟩ := h
    rfl
  obtain ⟨a, lo, hi, v, rfl, ⟨dx, ha⟩, hv, q, qE⟩ := h
  refine ⟨_, (pss_cons (ps_if (pt_not (pt_val (pe_mt m_Numbers_bears_Numbers pass0 bl.k_Numbers hr (pv 0) (pa_cons (pv 1) pa_nil))))
     (pss_one (ps_raiseE bl.x_Outside hr.hd rfl bl.Outside_ (pa_cons (pe_frv (pv 1)) pa_nil)))
     pss_nil)
     (pss_one (ps_ret (pe_mt m_Numbers_borne_code_Numbers pass0 bl.k_Numbers hr (pv 0) (pa_cons (pv 1) pa_nil))))), ?_⟩
  refine ⟨_, rfl, a, _, _, rfl, ha, rfl, _, rfl, a, lo, hi, v, rfl, ⟨dx, ha⟩, shw_pl hv, _, rfl, ?_⟩
  cases hb : inB lo hi v with
  | true => exact iteF ⟨_, rfl, a, _, _, rfl, ha, rfl, _, rfl, a, v, rfl, q hb⟩
  | false => exact iteT ⟨_, rfl, hv, (by decide +kernel), fun z2 => ⟨(by show 1 ≤ sizeLine; decide), qE hb⟩⟩
theorem ok_read_value (F : Fun K "read_value" "read_value" s_read_value f fd) (bl : Bl K mg cTableError cBadNumber cBadDomain cBadCell cOutside cDomain cNumbers cWords) (m_Domain_code_Numbers : MCallee (CX1 P w) P w K mg base 4 cNumbers "code" ["self", "value"] (sp_Domain_code_Numbers K cTableError cBadNumber cBadDomain cBadCell cOutside cDomain cNumbers cWords)) (c_number_of : CalleeX P w K mg base 4 "number_of" ["text"] (sp_number_of K cTableError cBadNumber cBadDomain cBadCell cOutside cDomain cNumbers cWords)) : FnOk P w K mg base (CX1 P w) 5 f fd ["domain", "text"] (sp_read_value K cTableError cBadNumber cBadDomain cBadCell cOutside cDomain cNumbers cWords) := by
  refine F.okE sc_read_value (fun vs H Q E h => ?_) (fun cdv A outer s H vs Q E hr h => ?_)
  · obtain ⟨d, z, p, rfl, hz, hN, q, qo, qn⟩ := h
    rfl
  obtain ⟨d, z, p, rfl, hz, hN, q, qo, qn⟩ := h
  refine ⟨_, (pss_cons (ps_if (pt_val (pe_callB call_isiG rfl bl.isinstance_ PyProof.Rows.boot_isinstance (pa_cons (pv 0) (pa_cons (pe_glob (v := .ref cWords) rfl bl.Words_ rfl) pa_nil))))
     (pss_one (ps_ret (pe_mtE m_Domain_code_Numbers passE bl.k_Numbers hr (pv 0) (pa_cons (pv 1) pa_nil))))
     pss_nil)
     (pss_one (ps_ret (pe_mtE m_Domain_code_Numbers passE bl.k_Numbers hr (pv 0) (pa_cons (pe_fnE c_number_of passE hr rfl (pa_cons (pv 1) pa_nil)) pa_nil))))), ?_⟩
  have hzl := hz.len
  obtain ⟨dx, ha⟩ := id hN
  refine ⟨_, rfl, _, _, _, _, false, rfl, .ref _, bl.t_Numbers.ty ha, bl.f_nw, _, rfl, iteF ?_⟩
  exact ⟨_, rfl, d, _, _, rfl, ha, rfl, _, rfl, z, rfl, hz, fun hi_ => ⟨d, p.1, p.2, .int (valz z), rfl, hN, .int (isn_bnd hi_), q hi_, qo hi_⟩, qn⟩
theorem ok_code_in_cell (F : Fun K "code_in_cell" "code_in_cell" s_code_in_cell f fd) (bl : Bl K mg cTableError cBadNumber cBadDomain cBadCell cOutside cDomain cNumbers cWords) (c_read_value : CalleeX P w K mg base 5 "read_value" ["domain", "text"] (sp_read_value K cTableError cBadNumber cBadDomain cBadCell cOutside cDomain cNumbers cWords)) : FnOk P w K mg base (CX1 P w) 6 f fd ["domain", "text"] (sp_code_in_cell K cTableError cBadNumber cBadDomain cBadCell cOutside cDomain cNumbers cWords) := by
  refine F.okE sc_code_in_cell (fun vs H Q E h => ?_) (fun cdv A outer s H vs Q E hr h => ?_)
  · obtain ⟨a, p, z, rfl, hD, hz, q, qE⟩ := h
    rfl
  obtain ⟨a, p, z, rfl, hD, hz, q, qE⟩ := h
  refine ⟨_, (pss_one (ps_tryF c_read_value hr rfl rfl rfl rfl (pa_cons (pv 0) (pa_cons (pv 1) pa_nil)) rfl bl.BadNumber_ rfl bl.Outside_ bl.x_BadCell rfl bl.BadCell_ (fun _ _ => (pa_cons (pe_fr (pv 1)) pa_nil)))), ?_⟩
  have hz1 := hz.len
  refine ⟨_, rfl, _, rfl, a, z, p, rfl, hz, hD, fun h1 h2 => q _ (code_in h1 h2), fun h1 h2 => ⟨rfl, _, rfl, bl.f_x2, fun tp htp => ?_⟩, fun h1 => ⟨rfl, _, rfl, bl.f_x1, fun tp htp => ?_⟩⟩
  · exact ⟨_, rfl, z, rfl, by omega, hz.low, (by decide +kernel), fun z2 => ⟨(by show 1 ≤ sizeLine; decide), fun m => qE (code_out fun g => by rw [h2] at g; cases g.2) _ m (same_new htp _)⟩⟩
  · exact ⟨_, rfl, z, rfl, by omega, hz.low, (by decide +kernel), fun z2 => ⟨(by show 1 ≤ sizeLine; decide), fun m => qE (code_out fun g => by rw [h1] at g; cases g.1) _ m (same_new htp _)⟩⟩
theorem ok_read_range (F : Fun K "read_range" "read_range" s_read_range f fd) (bl : Bl K mg cTableError cBadNumber cBadDomain cBadCell cOutside cDomain cNumbers cWords) (c_code_in_cell : CalleeX P w K mg base 6 "code_in_cell" ["domain", "text"] (sp_code_in_cell K cTableError cBadNumber cBadDomain cBadCell cOutside cDomain cNumbers cWords)) : FnOk P w K mg base (CX1 P w) 7 f fd ["domain", "part"] (sp_read_range K cTableError cBadNumber cBadDomain cBadCell cOutside cDomain cNumbers cWords) := by
  refine F.okE sc_read_range (fun vs H Q E h => ?_) (fun cdv A outer s H vs Q E hr h => ?_)
  · obtain ⟨a, p, z, rfl, hN, hz, hd, q, qE⟩ := h
    rfl
  obtain ⟨a, p, z, rfl, hN, hz, hd, q, qE⟩ := h
  refine ⟨_, (pss_cons (ps_set (i := 2) sc_read_range.nd rfl (Or.inl rfl) (pe_bm PySem.F.plainAttrs_str PySem.F.slot_str_partition PySem.F.type_str_partition mt_partition (pv 1) (pa_cons (pe_gl rfl bl.UP_TO_) pa_nil)))
     (pss_cons (ps_if (pt_cmpR op_eq (pv 1) (pe_gl rfl bl.UP_TO_) (nomark _))
     (pss_one (ps_raiseE bl.x_BadCell hr.hd rfl bl.BadCell_ (pa_cons pe_str pa_nil)))
     pss_nil)
     (pss_cut (ps_set (i := 3) sc_read_range.nd rfl (Or.inl rfl) (pe_ifExp (pt_truth (pe_ix ix_tup (pv 2) pe_int (fun _ _ => rfl)) (by intro _; rfl)) (pe_fnE c_code_in_cell passE hr rfl (pa_cons (pv 0) (pa_cons (pe_ix ix_tup (pv 2) pe_int (fun _ _ => rfl)) pa_nil))) (pe_fld (pv 0) rfl)))
     (pss_cut (ps_set (i := 4) sc_read_range.nd rfl (Or.inl rfl) (pe_ifExp (pt_truth (pe_ix ix_tup (pv 2) pe_int (fun _ _ => rfl)) (by intro _; rfl)) (pe_fnE c_code_in_cell passE hr rfl (pa_cons (pv 0) (pa_cons (pe_ix ix_tup (pv 2) pe_int (fun _ _ => rfl)) pa_nil))) (pe_fld (pv 0) rfl)))
     (pss_cons (ps_if (pt_cmpR op_gt (pv 3) (pv 4) (nomark _))
     (pss_one (ps_raiseE bl.x_BadCell hr.hd rfl bl.BadCell_ (pa_cons (pe_fr (pv 1)) pa_nil)))
     pss_nil)
     (pss_one (ps_ret (pe_tup (pa_cons (pv 3) (pa_cons (pv 4) pa_nil)))))))))), ?_⟩
  obtain ⟨dx, ha⟩ := id hN
  obtain ⟨s1, s2⟩ := part_sm hz hd
  have hzl := hz.len
  refine ⟨_, rfl, rfl, z, dots, rfl, rfl, (by decide), big (by omega), fun t ht => ?_⟩
  have et : upd H t (.tup [.str (Txt.partition z dots).1, .str (Txt.partition z dots).2.1, .str (Txt.partition z dots).2.2]) t = some (.tup [.str (Txt.partition z dots).1, .str (Txt.partition z dots).2.1, .str (Txt.partition z dots).2.2]) := upd_same
  have sT := same_new ht (.tup [.str (Txt.partition z dots).1, .str (Txt.partition z dots).2.1, .str (Txt.partition z dots).2.2])
  generalize upd H t (.tup [.str (Txt.partition z dots).1, .str (Txt.partition z dots).2.1, .str (Txt.partition z dots).2.2]) = H1 at et sT ⊢
  refine ⟨_, rfl, rfl, _, rfl, ite2 (fun g => ?_) (fun g => ?_)⟩
  · have e : z = dots := by have := of_decide_eq_true g; injection this
    exact ⟨(by show 1 ≤ sizeLine; decide), qE (by unfold rangeOf; rw [if_pos e]) _ _ sT⟩
  have ne : z ≠ dots := fun e => g (by rw [e]; exact decide_eq_true rfl)
  refine ⟨fun σ' H' => Same H1 H' ∧ ∃ c : Int, endOf p p.1 (Txt.partition z dots).1 = some c ∧ σ' = [some (.ref a), some (.str z), some (.ref t), some (.int c), none], ?_, ?_⟩
  · refine ⟨_, rfl, t, _, _, _, rfl, rfl, SqT.of et, rfl, _, ⟨len3 _ s1, rfl⟩, ?_⟩
    rcases nz_bool (Txt.partition z dots).1 with e | e
    · rw [e]
      refine iteT ⟨_, rfl, _, rfl, t, _, _, _, rfl, rfl, SqT.of et, rfl, a, p, _, rfl, Num.same hN sT, s1, fun c hc => ?_, fun hc H' m s' => qE (range_none (.inl ((end_text e).trans hc))) _ m (sT.trans s')⟩
      exact ⟨Same.refl _, c, (end_text e).trans hc, rfl⟩
    · rw [e]
      refine iteF ⟨_, rfl, a, _, _, _, _, rfl, sT _ _ ha, bl.k_Numbers, bl.na_Numbers_low, rfl, ?_⟩
      exact ⟨Same.refl _, p.1, end_empty (by rw [e]; decide), rfl⟩
  rintro σ2 H2 ⟨s12, c, hc, rfl⟩
  have et2 := s12 _ _ et
  refine ⟨fun σ' H' => Same H2 H' ∧ ∃ e : Int, endOf p p.2 (Txt.partition z dots).2.2 = some e ∧ σ' = [some (.ref a), some (.str z), some (.ref t), some (.int c), some (.int e)], ?_, ?_⟩
  · refine ⟨_, rfl, t, _, _, _, rfl, rfl, SqT.of et2, rfl, _, ⟨len3 _ s2, rfl⟩, ?_⟩
    rcases nz_bool (Txt.partition z dots).2.2 with e | e
    · rw [e]
      refine iteT ⟨_, rfl, _, rfl, t, _, _, _, rfl, rfl, SqT.of et2, rfl, a, p, _, rfl, Num.same hN (sT.trans s12), s2, fun c hc => ?_, fun hc H' m s' => qE (range_none (.inr ((end_text e).trans hc))) _ m ((sT.trans s12).trans s')⟩
      exact ⟨Same.refl _, c, (end_text e).trans hc, rfl⟩
    · rw [e]
      refine iteF ⟨_, rfl, a, _, _, _, _, rfl, s12 _ _ (sT _ _ ha), bl.k_Numbers, bl.na_Numbers_high, rfl, ?_⟩
      exact ⟨Same.refl _, p.2, end_empty (by rw [e]; decide), rfl⟩
  rintro σ3 H3 ⟨s23, e, he, rfl⟩
  have sA := (sT.trans s12).trans s23
  have hr := range_some ne hc he
  refine ⟨_, rfl, _, rfl, _, _, rfl, rfl, _, rfl, ite2 (fun g => ?_) (fun g => ?_)⟩
  · rw [if_pos (dec_t g)] at hr
    exact ⟨_, rfl, z, rfl, by omega, hz.low, (by decide +kernel), fun z2 => ⟨(by show 1 ≤ sizeLine; decide), qE hr _ _ sA⟩⟩
  · rw [if_neg (dec_f g)] at hr
    exact ⟨_, rfl, _, rfl, (by show 2 ≤ sizeLine; decide), fun u hu => q _ hr u _ (sA.trans (same_new hu _)) upd_same⟩
theorem ok_read_part (F : Fun K "read_part" "read_part" s_read_part f fd) (bl : Bl K mg cTableError cBadNumber cBadDomain cBadCell cOutside cDomain cNumbers cWords) (c_code_in_cell : CalleeX P w K mg base 7 "code_in_cell" ["domain", "text"] (sp_code_in_cell K cTableError cBadNumber cBadDomain cBadCell cOutside cDomain cNumbers cWords)) (c_read_range : CalleeX P w K mg base 7 "read_range" ["domain", "part"] (sp_read_range K cTableError cBadNumber cBadDomain cBadCell cOutside cDomain cNumbers cWords)) : FnOk P w K mg base (CX1 P w) 8 f fd ["domain", "part"] (sp_read_part K cTableError cBadNumber cBadDomain cBadCell cOutside cDomain cNumbers cWords) := by
  refine F.okE sc_read_part (fun vs H Q E h => ?_) (fun cdv A outer s H vs Q E hr h => ?_)
  · obtain ⟨a, p, z, rfl, hD, hz, q, qE⟩ := h
    rfl
  obtain ⟨a, p, z, rfl, hD, hz, q, qE⟩ := h
  refine ⟨_, (pss_cons (ps_if (PW.pt (pw_and (pt_cmpR op_in_str (pe_gl rfl bl.UP_TO_) (pv 1) (by with_unfolding_all rfl)) (pw_and1 (pt_not (pt_val (pe_callB call_isiG rfl bl.isinstance_ PyProof.Rows.boot_isinstance (pa_cons (pv 0) (pa_cons (pe_glob (v := .ref cWords) rfl bl.Words_ rfl) pa_nil))))))))
     (pss_one (ps_ret (pe_fnE c_read_range passE hr rfl (pa_cons (pv 0) (pa_cons (pv 1) pa_nil)))))
     pss_nil)
     (pss_cons (ps_set (i := 2) sc_read_part.nd rfl (Or.inl rfl) (pe_fnE c_code_in_cell passE hr rfl (pa_cons (pv 0) (pa_cons (pv 1) pa_nil))))
     (pss_one (ps_ret (pe_tup (pa_cons (pv 2) (pa_cons (pv 2) pa_nil))))))), ?_⟩
  obtain ⟨dx, ha⟩ := id hD
  refine ⟨_, rfl, _, _, rfl, rfl, _, rfl, ite2 (fun g => ?_) (fun g => ?_)⟩
  · rw [part_range g] at q qE
    refine ⟨_, rfl, _, _, _, _, false, rfl, .ref _, bl.t_Numbers.ty ha, bl.f_nw, _, rfl, iteT ?_⟩
    exact ⟨_, rfl, _, rfl, a, p, z, rfl, hD, hz, g, q, qE⟩
  · rw [part_code g] at q qE
    refine iteF ⟨_, rfl, _, rfl, a, p, z, rfl, hD, hz, fun c hc => ?_, fun hc => qE (by rw [hc]; rfl)⟩
    exact ⟨_, rfl, _, rfl, (by show 2 ≤ sizeLine; decide), fun u hu => q (c, c) (by rw [hc]; rfl) u _ (same_new hu _) upd_same⟩
theorem ok_read_set (F : Fun K "read_set" "read_set" s_read_set f fd) (bl : Bl K mg cTableError cBadNumber cBadDomain cBadCell cOutside cDomain cNumbers cWords) (c_tidy : Callee P w K mg base 8 "tidy" ["pairs"] (sp_tidy K cTableError cBadNumber cBadDomain cBadCell cOutside cDomain cNumbers cWords)) (m_Domain_whole_Numbers : MCallee CX0 P w K mg base 8 cNumbers "whole" ["self"] (sp_Domain_whole_Numbers K cTableError cBadNumber cBadDomain cBadCell cOutside cDomain cNumbers cWords)) (c_read_part : CalleeX P w K mg base 8 "read_part" ["domain", "part"] (sp_read_part K cTableError cBadNumber cBadDomain cBadCell cOutside cDomain cNumbers cWords)) : FnOk P w K mg base (CX1 P w) 9 f fd ["domain", "text"] (sp_read_set K cTableError cBadNumber cBadDomain cBadCell cOutside cDomain cNumbers cWords) := by
  refine F.okE sc_read_set (fun vs H Q E h => ?_) (fun cdv A outer s H vs Q E hr h => ?_)
  · obtain ⟨a, p, z, rfl, hD, hlh, hzl, hsm, h64, q, qE⟩ := h
    rfl
  obtain ⟨a, p, z, rfl, hD, hlh, hzl, hsm, h64, q, qE⟩ := h
  refine ⟨_, (pss_cons (ps_if (pt_cmpR op_eq (pv 1) (pe_gl rfl bl.ALL_) (nomark _))
     (pss_one (ps_ret (pe_mt0 m_Domain_whole_Numbers pass0 bl.k_Numbers hr (pv 0))))
     pss_nil)
     (pss_one (ps_ret (pe_fn c_tidy hr rfl (pa_cons (pe_compGE rfl rfl rfl xe_met (pi_list (pe_bm PySem.F.plainAttrs_str PySem.F.slot_str_split PySem.F.type_str_split mt_split (pv 1) (pa_cons pe_str pa_nil))) (cmpOkG_free (N := ["part", "domain"]) (k := 1) (fr := [0]) (cl := [("domain", s.heap.objs.size + 1)]) rfl rfl (by decide +kernel) (by decide +kernel) rfl rfl (List.forall_mem_cons.mpr ⟨rfl, List.forall_mem_nil _⟩) rfl) rfl (fun _ _ _ _ => (pg_name (i := 0) (show (["part", "domain"] : List Str).Nodup by decide +kernel) rfl (Or.inl rfl) (Or.inr rfl))) (fun _ _ _ _ => pif_nil) (fun _ _ _ _ _ hpl => (pe_fnE c_read_part (passC hpl) hr rfl (pa_cons (pv 1) (pa_cons (pv 0) pa_nil))))) pa_nil))))), ?_⟩
  refine ⟨_, rfl, rfl, _, rfl, ite2 (fun g => ?_) (fun g => ?_)⟩
  · have e : z = Str.ofString "-" := by have := of_decide_eq_true g; injection this
    have ep : partsOf (.inl p) z = some [lohi (.inl p)] := by unfold partsOf; rw [if_pos e]
    obtain ⟨dx, ha⟩ := id hD
    exact ⟨_, rfl, a, _, _, rfl, ha, rfl, a, p.1, p.2, rfl, hD, fun l t H' s' hl el et => q _ ep l H' [.ref t] [lohi (.inl p)] s' hl el (.cons ⟨t, rfl, et⟩ .nil) (ap_one hlh) (fun _ => rfl) (by show 1 ≤ 64; decide)⟩
  · have ne : z ≠ Str.ofString "-" := fun e => g (by rw [e]; exact decide_eq_true rfl)
    have ep : partsOf (.inl p) z = allP (partOf (.inl p)) (Txt.split z mk2) := by unfold partsOf; rw [if_neg ne]
    rw [ep] at q qE
    refine ⟨_, rfl, rfl, z, mk2, rfl, rfl, (by decide), hzl, fun l hl => ?_⟩
    have el : upd H l (.lst ((Txt.split z mk2).map V.str)) l = some (.lst ((Txt.split z mk2).map V.str)) := upd_same
    have sL := same_new hl (.lst ((Txt.split z mk2).map V.str))
    generalize Txt.split z mk2 = zs at el sL hsm h64 q qE ⊢
    generalize upd H l (.lst (zs.map V.str)) = H1 at el sL ⊢
    have hlen : (zs.map V.str).length = zs.length := List.length_map _
    refine ⟨l, rfl, ⟨_, SqL.of el⟩, compG_list (xs := zs.map V.str) (fun D i ys H' => Same H1 H' ∧ H' D = some (.lst ys) ∧ ∃ ps : Prs, allP (partOf (.inl p)) (zs.take i) = some ps ∧ PL H' ys ps ∧ ys.length = i) (fun D hD_ => ⟨same_new hD_ _, upd_same, [], rfl, .nil, rfl⟩) (fun D i ys H' hD_ _ h => SqL.of (h.1 _ _ el)) (fun D i x ys H' hD_ ex h ts hts => ?_) (fun D ys H' hD_ h => ?_)⟩
    · obtain ⟨sm, eD, ps, ap, hP, hl_⟩ := h
      obtain ⟨y, rfl, ey⟩ := get_strs ex
      have hi_ : i < (zs.map V.str).length := (List.getElem?_eq_some_iff.mp ex).1
      obtain ⟨t0, rfl⟩ : ∃ t0, ts = [t0] := by
        match ts, hts with
        | [t0], _ => exact ⟨t0, rfl⟩
      refine ⟨⟨[some (.str y)], rfl, rfl⟩, ?_⟩
      refine ⟨_, rfl, _, rfl, a, p, y, rfl, Num.same hD (sL.trans sm), hsm y (List.mem_of_getElem? ey), fun r hr t H2 s2 et => ?_, fun hr H2 m s2 => qE (allP_none ey hr) H2 m ((sL.trans sm).trans s2)⟩
      refine CYes.mk hi_ (s2 _ _ eD) (small1000 (by omega)) ⟨(sm.trans s2).upd hD_, upd_same, ps ++ [r], by rw [take_snoc ey]; exact allP_snoc ap hr, ?_, by rw [List.length_append, List.length_singleton]; omega⟩
      exact ((hP.mono s2.tups).mono (sameT_lst (s2 _ _ eD))).snoc (sameT_lst (s2 _ _ eD) _ _ et)
    · obtain ⟨sm, eD, ps, ap, hP, hl_⟩ := h
      rw [hlen, List.take_length] at ap
      rw [hlen] at hl_
      refine ⟨D, ys, ps, rfl, SqL.of eD, hP, by omega, fun r H2 ys2 R s2 hr er hR ti hl2 => ?_⟩
      exact q ps ap r H2 ys2 R ((sL.trans sm).trans s2) ((sL.trans sm).free hr) er hR ti.ap ti.mem (by omega)
theorem ok_read_cell (F : Fun K "read_cell" "read_cell" s_read_cell f fd) (bl : Bl K mg cTableError cBadNumber cBadDomain cBadCell cOutside cDomain cNumbers cWords) (c_read_set : CalleeX P w K mg base 9 "read_set" ["domain", "text"] (sp_read_set K cTableError cBadNumber cBadDomain cBadCell cOutside cDomain cNumbers cWords)) (c_without : Callee P w K mg base 9 "without" ["ones", "others"] (sp_without K cTableError cBadNumber cBadDomain cBadCell cOutside cDomain cNumbers cWords)) (m_Domain_whole_Numbers : MCallee CX0 P w K mg base 9 cNumbers "whole" ["self"] (sp_Domain_whole_Numbers K cTableError cBadNumber cBadDomain cBadCell cOutside cDomain cNumbers cWords)) : FnOk P w K mg base (CX1 P w) 10 f fd ["domain", "text"] (sp_read_cell K cTableError cBadNumber cBadDomain cBadCell cOutside cDomain cNumbers cWords) := by
  refine F.okE sc_read_cell (fun vs H Q E h => ?_) (fun cdv A outer s H vs Q E hr h => ?_)
  · obtain ⟨a, p, z, y, b, rfl, hD, hlh, hzl, hb, hy, hyl, hsm, h64, q, qE⟩ := h
    rfl
  obtain ⟨a, p, z, y, b, rfl, hD, hlh, hzl, hb, hy, hyl, hsm, h64, q, qE⟩ := h
  refine ⟨_, (pss_cons (ps_if (pt_val (pe_bm PySem.F.plainAttrs_str PySem.F.slot_str_startswith PySem.F.type_str_startswith mt_startswith (pv 1) (pa_cons (pe_gl rfl bl.NOT_) pa_nil)))
     (pss_one (ps_ret (pe_fn c_without hr rfl (pa_cons (pe_mt0 m_Domain_whole_Numbers pass0 bl.k_Numbers hr (pv 0)) (pa_cons (pe_fnE c_read_set passE hr rfl (pa_cons (pv 0) (pa_cons (pe_slice sl_str (pv 1) (po_some (pe_callB call_len_str rfl bl.len_ PySem.boot_len (pa_cons (pe_gl rfl bl.NOT_) pa_nil))) po_none) pa_nil))) pa_nil)))))
     pss_nil)
     (pss_one (ps_ret (pe_fnE c_read_set passE hr rfl (pa_cons (pv 0) (pa_cons (pv 1) pa_nil)))))), ?_⟩
  refine ⟨_, rfl, rfl, z, _, rfl, rfl, _, rfl, ?_⟩
  cases b with
  | false =>
    rw [if_neg Bool.false_ne_true] at hy
    rw [hb]
    refine iteF ⟨_, rfl, _, rfl, a, p, z, rfl, hD, hlh, hzl, (by rw [hy] at hsm; exact hsm), (by rw [hy] at h64; exact h64), fun ps hp l H' ys R s' hl el hR ap hn hl2 => ?_, (by rw [hy] at qE; exact qE)⟩
    rw [hy] at q
    exact q ps hp l H' ys R s' hl el hR ap (fun n => hn n) (by omega)
  | true =>
    rw [if_pos rfl] at hy
    rw [hb]
    obtain ⟨dx, ha⟩ := id hD
    refine iteT ⟨_, rfl, a, _, _, rfl, ha, rfl, a, p.1, p.2, rfl, hD, fun l t H1 s1 hl el et => ?_⟩
    refine ⟨_, rfl, _, rfl, _, rfl, (by decide +kernel), _, rfl, _, rfl, (by omega), a, p, y, ?_, Num.same hD s1, hlh, hyl, hsm, h64, fun ps hps l2 H2 ys R s2 hl2 el2 hR ap hn h64 => ?_, fun hp H2 m s2 => qE hp H2 m (s1.trans s2)⟩
    · rw [hy]; rfl
    refine ⟨l, l2, [.ref t], ys, [p], R, rfl, SqL.of (s2 _ _ el), SqL.of el2, .cons ⟨t, rfl, s2 _ _ et⟩ .nil, hR, ap_one hlh, ap, (by show 1 ≤ 450; decide), by omega, fun r H' zs_ F s' hr er hF aF hnF hlF => ?_⟩
    refine q ps hps r H' zs_ F ((s1.trans s2).trans s') ((s1.trans s2).free hr) er hF aF (fun n => ?_) ?_
    · rw [if_pos rfl, hnF, hn]
      show ((inR n p || false) && _) = _
      rw [Bool.or_false]
    · have : ([V.ref t] : List V).length = 1 := rfl
      omega
theorem ok_law_refused (F : Fun K "_law_refused" "_law_refused" s_law_refused f fd) (bl : Bl K mg cTableError cBadNumber cBadDomain cBadCell cOutside cDomain cNumbers cWords) (c_read_cell : CalleeX P w K mg base 10 "read_cell" ["domain", "text"] (sp_read_cell K cTableError cBadNumber cBadDomain cBadCell cOutside cDomain cNumbers cWords)) : FnOk P w K mg base CX0 11 f fd ["domain", "text"] (sp_law_refused K cTableError cBadNumber cBadDomain cBadCell cOutside cDomain cNumbers cWords) := by
  refine F.ok sc_law_refused (fun vs H Q E h => ?_) (fun cdv A outer s H vs Q E hr h => ?_)
  · obtain ⟨a, p, z, y, b, rfl, hD, hlh, hzl, hb, hy, hyl, hsm, h64, hn, q⟩ := h
    rfl
  obtain ⟨a, p, z, y, b, rfl, hD, hlh, hzl, hb, hy, hyl, hsm, h64, hn, q⟩ := h
  refine ⟨_, (pss_cons (ps_set (i := 2) sc_law_refused.nd rfl (Or.inl rfl) pe_bl)
     (pss_cut (ps_try (G := fun C => ExcLook K C) (i := 3) (psx_expr (pex_fn c_read_cell hr rfl rfl (pa_cons (pv 0) (pa_cons (pv 1) pa_nil)))) rfl rfl rfl rfl bl.TableError_ sc_law_refused.nd rfl rfl (fun C e oe hG hc => (pss_one (ps_set (i := 2) sc_law_refused.nd rfl (Or.inl rfl) (pe_and (pe_callB (call_isiX hc hG) rfl bl.isinstance_ PyProof.Rows.boot_isinstance (pa_cons (pv 3) (pa_cons (pe_glob (v := .ref cBadCell) rfl bl.BadCell_ rfl) pa_nil))) (pe_and (pe_callB (call_isiX hc hG) rfl bl.isinstance_ PyProof.Rows.boot_isinstance (pa_cons (pv 3) (pa_cons (pe_bltn (v := .ty "ValueError") rfl bl.ValueError_ PyProof.Rows.Boot.ValueError rfl) pa_nil))) (pe_one (pe_not (pe_callB (call_isiX hc hG) rfl bl.isinstance_ PyProof.Rows.boot_isinstance (pa_cons (pv 3) (pa_cons (pe_tup (pa_cons (pe_glob (v := .ref cBadNumber) rfl bl.BadNumber_ rfl) (pa_cons (pe_glob (v := .ref cOutside) rfl bl.Outside_ rfl) pa_nil))) pa_nil)))))))))))
     (pss_one (ps_ret (pv 2))))), ?_⟩
  refine ⟨fun σ' H' => Same H H' ∧ σ' = [some (.ref a), some (.str z), some (.bl true), none], ?_, ?_⟩
  · refine ⟨_, rfl, _, rfl, a, p, z, y, b, rfl, hD, hlh, hzl, hb, hy, hyl, hsm, h64, (fun ps hp => by rw [hn] at hp; cases hp), fun _ H1 m s0 => ⟨_, rfl, bl.f_c0, bl.l_BadCell, fun e => ?_⟩⟩
    refine ⟨_, rfl, _, true, rfl, .inl ⟨_, rfl, bl.f_c1⟩, _, rfl, iteT ?_⟩
    refine ⟨_, rfl, _, true, rfl, .inr (.inl ⟨_, rfl, bl.f_c2⟩), _, rfl, iteT ?_⟩
    refine ⟨_, rfl, (by show 2 ≤ sizeLine; decide), fun tp htp => ?_⟩
    exact ⟨_, false, rfl, .inr (.inr ⟨tp, [cBadNumber, cOutside], rfl, upd_same, bl.f_c3⟩), _, rfl, s0.trans (same_new htp _), rfl⟩
  rintro σ2 H2 ⟨sm, rfl⟩
  exact ⟨_, rfl, q H2 sm⟩
theorem ok_law (F : Fun K "law" "law" s_law f fd) (bl : Bl K mg cTableError cBadNumber cBadDomain cBadCell cOutside cDomain cNumbers cWords) (c__law_low : Callee P w K mg base 11 "_law_low" ["cell"] (sp_law_low K cTableError cBadNumber cBadDomain cBadCell cOutside cDomain cNumbers cWords)) (c__law_high : Callee P w K mg base 11 "_law_high" ["low", "cell"] (sp_law_high K cTableError cBadNumber cBadDomain cBadCell cOutside cDomain cNumbers cWords)) (c__law_cell_at : Callee P w K mg base 11 "_law_cell_at" ["script", "k"] (sp_law_cell_at K cTableError cBadNumber cBadDomain cBadCell cOutside cDomain cNumbers cWords)) (k_Numbers : MkCallee (CX1 P w) P w K mg base 10 "Numbers" cNumbers ["self", "low", "high"] (sp_Numbers___init___Numbers K cTableError cBadNumber cBadDomain cBadCell cOutside cDomain cNumbers cWords)) (c__law_merged : Callee P w K mg base 11 "_law_merged" ["pairs"] (sp_law_merged K cTableError cBadNumber cBadDomain cBadCell cOutside cDomain cNumbers cWords)) (c_read_cell : CalleeX P w K mg base 11 "read_cell" ["domain", "text"] (sp_read_cell K cTableError cBadNumber cBadDomain cBadCell cOutside cDomain cNumbers cWords)) (c__law_alike : Callee P w K mg base 11 "_law_alike" ["found", "due"] (sp_law_alike K cTableError cBadNumber cBadDomain cBadCell cOutside cDomain cNumbers cWords)) (c__law_part : Callee P w K mg base 11 "_law_part" ["cell", "low", "high"] (sp_law_part K cTableError cBadNumber cBadDomain cBadCell cOutside cDomain cNumbers cWords)) (c__law_odd : Callee P w K mg base 11 "_law_odd" ["head", "low", "high", "opposite", "single", "first"] (sp_law_odd K cTableError cBadNumber cBadDomain cBadCell cOutside cDomain cNumbers cWords)) (c__law_others : Callee P w K mg base 11 "_law_others" ["spans", "low", "high"] (sp_law_others K cTableError cBadNumber cBadDomain cBadCell cOutside cDomain cNumbers cWords)) (c__law_refused : Callee P w K mg base 11 "_law_refused" ["domain", "text"] (sp_law_refused K cTableError cBadNumber cBadDomain cBadCell cOutside cDomain cNumbers cWords)) (c__law_pair : Callee P w K mg base 11 "_law_pair" ["cell", "low", "high"] (sp_law_pair K cTableError cBadNumber cBadDomain cBadCell cOutside cDomain cNumbers cWords)) : FnOk P w K mg base CX0 12 f fd ["script"] (sp_law K) := by
  refine F.ok sc_law (fun vs H Q E h => ?_) (fun cdv A outer s H vs Q E hr h => ?_)
  · obtain ⟨a, ns, rfl, hS, h63, hB, q⟩ := h
    rfl
  obtain ⟨a, ns, rfl, hS, h63, hB, q⟩ := h
  refine ⟨_, (pss_cut (ps_set (i := 1) sc_law.nd rfl (Or.inr rfl) (pe_fn c__law_low hr rfl (pa_cons (pe_fn c__law_cell_at hr rfl (pa_cons (pv 0) (pa_cons pe_int pa_nil))) pa_nil)))
     (pss_cut (ps_set (i := 2) sc_law.nd rfl (Or.inr rfl) (pe_fn c__law_high hr rfl (pa_cons (pv 1) (pa_cons (pe_fn c__law_cell_at hr rfl (pa_cons (pv 0) (pa_cons pe_int pa_nil))) pa_nil))))
     (pss_cons (ps_set (i := 3) sc_law.nd rfl (Or.inl rfl) (pe_fn c__law_cell_at hr rfl (pa_cons (pv 0) (pa_cons pe_int pa_nil))))
     (pss_cut (ps_set (i := 4) sc_law.nd rfl (Or.inl rfl) (pe_mk k_Numbers pass1 hr rfl (pa_cons (pv 1) (pa_cons (pv 2) pa_nil))))
     (pss_cut (ps_comp (i := 5) sc_law.nd rfl (Or.inl rfl) (pi_list (pe_slice sl_list (pv 0) (po_some pe_int) (po_some pe_int))) (cmpOk_free (N := ["cell", "low", "high"]) (fr := [1, 2]) (cl := [("low", s.heap.objs.size + 1), ("high", s.heap.objs.size + 1 + 1)]) rfl rfl (by decide +kernel) (by decide +kernel) rfl (by decide +kernel) rfl rfl rfl (List.forall_mem_cons.mpr ⟨rfl, List.forall_mem_cons.mpr ⟨rfl, List.forall_mem_nil _⟩⟩) rfl) rfl (fun _ _ _ _ => pif_nil) (fun _ _ _ _ => (pe_fn c__law_part hr rfl (pa_cons (pv 0) (pa_cons (pv 1) (pa_cons (pv 2) pa_nil))))))
     (pss_cut (ps_set (i := 6) sc_law.nd rfl (Or.inl rfl) (pe_fn c__law_merged hr rfl (pa_cons (pe_comp (pi_list (pe_slice sl_list (pv 0) (po_some pe_int) (po_some pe_int))) (cmpOk_free (N := ["cell", "low", "high"]) (fr := [1, 2]) (cl := [("low", s.heap.objs.size + 1), ("high", s.heap.objs.size + 1 + 1)]) rfl rfl (by decide +kernel) (by decide +kernel) rfl (by decide +kernel) rfl rfl rfl (List.forall_mem_cons.mpr ⟨rfl, List.forall_mem_cons.mpr ⟨rfl, List.forall_mem_nil _⟩⟩) rfl) rfl (fun _ _ _ _ => pif_nil) (fun _ _ _ _ => (pe_fn c__law_pair hr rfl (pa_cons (pv 0) (pa_cons (pv 1) (pa_cons (pv 2) pa_nil)))))) pa_nil)))
     (pss_cut (ps_if (pt_cmpR op_eq (pe_callB call_len_seq rfl bl.len_ PySem.boot_len (pa_cons (pv 5) pa_nil)) pe_int (nomark _))
     (pss_cons (ps_set (i := 5) sc_law.nd rfl (Or.inl rfl) (pe_lst (pa_cons pe_str pa_nil)))
     (pss_one (ps_set (i := 6) sc_law.nd rfl (Or.inl rfl) (pe_lst (pa_cons (pe_tup (pa_cons (pv 1) (pa_cons (pv 2) pa_nil))) pa_nil)))))
     pss_nil)
     (pss_cut (ps_set (i := 7) sc_law.nd rfl (Or.inl rfl) (pe_cmpR op_eq (pe_op op_mod (pe_op op_mod (pe_op op_mul (pe_op op_mod (pv 3) pe_int) pe_int) pe_int) pe_int) pe_int (nomark _)))
     (pss_cut (ps_set (i := 8) sc_law.nd rfl (Or.inl rfl) (pe_cmpR op_eq (pe_op op_mod (pe_op op_mod (pe_op op_mul (pe_op op_mod (pv 3) pe_int) pe_int) pe_int) pe_int) pe_int (nomark _)))
     (pss_cut (ps_if (pt_val (pv 8))
     (pss_cons (ps_set (i := 9) sc_law.nd rfl (Or.inl rfl) (pe_op op_mod (pe_op op_mod (pe_op op_mul (pe_op op_mod (pv 3) pe_int) pe_int) pe_int) (pe_callB call_len_seq rfl bl.len_ PySem.boot_len (pa_cons (pv 5) pa_nil))))
     (pss_one (ps_asg (pe_fn c__law_odd hr rfl (pa_cons (pv 3) (pa_cons (pv 1) (pa_cons (pv 2) (pa_cons (pv 7) (pa_cons (pe_cmpR op_eq (pe_callB call_len_seq rfl bl.len_ PySem.boot_len (pa_cons (pv 5) pa_nil)) pe_int (nomark _)) (pa_cons (pe_cmpR op_eq (pv 9) pe_int (nomark _)) pa_nil))))))) (pg_sub (pv 5) (pv 9) set_list))))
     pss_nil)
     (pss_cut (ps_set (i := 10) sc_law.nd rfl (Or.inl rfl) (pe_bm PySem.F.plainAttrs_str PySem.F.slot_str_join PySem.F.type_str_join mt_join pe_str (pa_cons (pv 5) pa_nil)))
     (pss_cut (ps_if (pt_val (pv 7))
     (pss_cons (ps_set (i := 10) sc_law.nd rfl (Or.inl rfl) (pe_op op_add_str pe_str (pv 10)))
     (pss_one (ps_set (i := 6) sc_law.nd rfl (Or.inl rfl) (pe_fn c__law_others hr rfl (pa_cons (pv 6) (pa_cons (pv 1) (pa_cons (pv 2) pa_nil)))))))
     pss_nil)
     (pss_cons (ps_if (pt_val (pv 8))
     (pss_one (ps_ret (pe_fn c__law_refused hr rfl (pa_cons (pv 4) (pa_cons (pv 10) pa_nil)))))
     pss_nil)
     (pss_cons (ps_set (i := 11) sc_law.nd rfl (Or.inl rfl) (pe_fnE c_read_cell pass1 hr rfl (pa_cons (pv 4) (pa_cons (pv 10) pa_nil))))
     (pss_cons (ps_if (pt_not (pt_val (pe_fn c__law_alike hr rfl (pa_cons (pv 11) (pa_cons (pv 6) pa_nil)))))
     (pss_one (ps_ret pe_bl))
     pss_nil)
     (pss_cons (ps_expr (pe_bm PySem.F.plainAttrs_list PySem.F.slot_list_insert PySem.F.type_list_insert mt_insert (pv 11) (pa_cons pe_int (pa_cons (pe_tup (pa_cons (pv 1) (pa_cons (pv 1) pa_nil))) pa_nil))))
     (pss_cons (ps_expr (pe_bm PySem.F.plainAttrs_list PySem.F.slot_list_append PySem.F.type_list_append mt_append (pv 11) (pa_cons (pe_tup (pa_cons (pv 1) (pa_cons (pv 1) pa_nil))) pa_nil)))
     (pss_one (ps_ret (pe_fn c__law_alike hr rfl (pa_cons (pe_fnE c_read_cell pass1 hr rfl (pa_cons (pv 4) (pa_cons (pv 10) pa_nil))) (pa_cons (pv 6) pa_nil)))))))))))))))))))))), ?_⟩
  refine ⟨fun σ' H' => H' = H ∧ ∃ lo : Int, bnd lo ∧ σ' = [some (.ref a), some (.int lo), none, none, none, none, none, none, none, none, none, none], ?_, ?_⟩
  · exact ⟨_, rfl, a, ns, 0, rfl, hS, hB, by decide, fun c hc => ⟨c, rfl, hc, fun lo hlo => ⟨rfl, lo, hlo, rfl⟩⟩⟩
  rintro σ1 H1 ⟨rfl, lo, bl1, rfl⟩
  refine ⟨fun σ' H' => Same H1 H' ∧ ∃ hi : Int, lo ≤ hi ∧ bnd hi ∧ σ' = [some (.ref a), some (.int lo), some (.int hi), none, none, none, none, none, none, none, none, none], ?_, ?_⟩
  · exact ⟨_, rfl, _, rfl, a, ns, 1, rfl, hS, hB, by decide, fun c hc => ⟨lo, c, rfl, bl1, hc, fun hi H' s' h1 h2 => ⟨s', hi, h1, h2, rfl⟩⟩⟩
  rintro σ2 H2 ⟨s2, hi, lh, bl2, rfl⟩
  have hS2 := s2.seq hS
  refine ⟨_, rfl, a, ns, 2, rfl, hS2, hB, by decide, fun hd _ => ?_⟩
  refine ⟨fun σ' H' => Same H2 H' ∧ ∃ dm : Addr, Num cNumbers H' dm lo hi ∧ σ' = [some (.ref a), some (.int lo), some (.int hi), some (.int hd), some (.ref dm), none, none, none, none, none, none, none], ?_, ?_⟩
  · refine ⟨_, rfl, _, rfl, fun x2 dx2 hx2 hdx2 hxd2 => ⟨x2, dx2, lo, hi, rfl, upd_same, fun _ => ⟨rfl, ?_⟩, fun gt => by omega⟩⟩
    exact ⟨mkd_same (C := cNumbers) lo hi hx2 hdx2 hxd2, x2, mkd_num cNumbers _ x2 dx2 lo hi, rfl⟩
  rintro σ3 H3 ⟨s3, dm, hD, rfl⟩
  have hS3 := s3.seq hS2
  obtain ⟨ms, em, lm, hm⟩ := cut100 ns h63
  refine ⟨fun σ' H' => Same H3 H' ∧ ∃ pt : Addr, H3 pt = none ∧ H' pt = some (.lst ((ms.map (part17 lo hi)).map V.str)) ∧ σ' = [some (.ref a), some (.int lo), some (.int hi), some (.int hd), some (.ref dm), some (.ref pt), none, none, none, none, none, none], ?_, ?_⟩
  · refine ⟨_, rfl, _, rfl, _, rfl, a, _, rfl, hS3, fun p1 hp1 => ?_⟩
    rw [em]
    have t2 : Same H3 (upd H3 p1 (.lst (ms.map V.int))) := same_new hp1 _
    have e1 : upd H3 p1 (.lst (ms.map V.int)) p1 = some (.lst (ms.map V.int)) := upd_same
    generalize upd H3 p1 (.lst (ms.map V.int)) = H4 at t2 e1 ⊢
    refine ⟨p1, rfl, ⟨_, SqL.of e1⟩, comp_list (xs := ms.map V.int) (fun D i xs H' => Same H4 H' ∧ H' D = some (.lst xs) ∧ xs = ((ms.take i).map (part17 lo hi)).map V.str)
      (fun D hD_ => ⟨same_new hD_ _, upd_same, rfl⟩) (fun D i xs H' hD_ _ h => h.1.seq (SqL.of e1)) (fun D i x xs H' hD_ e h => ?_) (fun D xs H' hD_ h => ?_)⟩
    · obtain ⟨sm, eD, rfl⟩ := h
      obtain ⟨c, rfl, ec⟩ := of_map e
      have hi_ : i < (ms.map V.int).length := (List.getElem?_eq_some_iff.mp e).1
      have hlm : (ms.map V.int).length = ms.length := List.length_map _
      refine ⟨_, rfl, _, rfl, _, rfl, c, lo, hi, rfl, hB c (hm c (List.mem_of_getElem? ec)), lh, bl1, bl2, fun H5 s5 => CYes.mk hi_ (s5 _ _ eD) (small1000 (by simp; omega)) ⟨(sm.trans s5).upd hD_, upd_same, ?_⟩⟩
      rw [take_snoc ec, List.map_append, List.map_append]
      rfl
    · obtain ⟨sm, eD, rfl⟩ := h
      rw [List.length_map, List.take_length] at eD
      exact ⟨t2.trans sm, D, t2.free hD_, eD, rfl⟩
  rintro σ4 H4 ⟨s4, pt, hpt, ept, rfl⟩
  refine ⟨fun σ' H' => Same H4 H' ∧ ∃ (du : Addr) (ys : List V) (R : Prs), H' du = some (.lst ys) ∧ pt ≠ du ∧ PL H' ys R ∧ TidI R (ms.map (pr17 lo hi)) ∧ ys.length ≤ 60 ∧ σ' = [some (.ref a), some (.int lo), some (.int hi), some (.int hd), some (.ref dm), some (.ref pt), some (.ref du), none, none, none, none, none], ?_, ?_⟩
  · refine ⟨_, rfl, _, rfl, _, rfl, a, _, rfl, s4.seq hS3, fun p1 hp1 => ?_⟩
    rw [em]
    have t2 : Same H4 (upd H4 p1 (.lst (ms.map V.int))) := same_new hp1 _
    have e1 : upd H4 p1 (.lst (ms.map V.int)) p1 = some (.lst (ms.map V.int)) := upd_same
    generalize upd H4 p1 (.lst (ms.map V.int)) = H5 at t2 e1 ⊢
    refine ⟨p1, rfl, ⟨_, SqL.of e1⟩, comp_list (xs := ms.map V.int) (fun D i xs H' => Same H5 H' ∧ H' D = some (.lst xs) ∧ PL H' xs ((ms.take i).map (pr17 lo hi)))
      (fun D hD_ => ⟨same_new hD_ _, upd_same, .nil⟩) (fun D i xs H' hD_ _ h => h.1.seq (SqL.of e1)) (fun D i x xs H' hD_ e h => ?_) (fun D xs H' hD_ h => ?_)⟩
    · obtain ⟨sm, eD, hP⟩ := h
      obtain ⟨c, rfl, ec⟩ := of_map e
      have hi_ : i < (ms.map V.int).length := (List.getElem?_eq_some_iff.mp e).1
      have hlm : (ms.map V.int).length = ms.length := List.length_map _
      have hxl := hP.length
      rw [List.length_map, List.length_take] at hxl
      refine ⟨_, rfl, _, rfl, _, rfl, c, lo, hi, rfl, hB c (hm c (List.mem_of_getElem? ec)), lh, fun t H6 s6 et => CYes.mk hi_ (s6 _ _ eD) (small1000 (by omega)) ⟨(sm.trans s6).upd hD_, upd_same, ?_⟩⟩
      rw [take_snoc ec, List.map_append]
      exact ((hP.mono s6.tups).mono (sameT_lst (s6 _ _ eD))).snoc (sameT_lst (s6 _ _ eD) _ _ et)
    · obtain ⟨sm, eD, hP⟩ := h
      rw [List.length_map, List.take_length] at hP
      have hxl := hP.length
      rw [List.length_map] at hxl
      refine ⟨D, xs, _, rfl, SqL.of eD, hP, by omega, fun p hp => ?_, fun r H6 ys R s6 hr er hR ti hl => ⟨(t2.trans sm).trans s6, r, ys, R, er, ne_of_none ((t2.trans sm) _ _ ept) hr, hR, ti, by omega, rfl⟩⟩
      obtain ⟨c, _, rfl⟩ := List.mem_map.mp hp
      exact (pr17_in c lh).2.1
  rintro σ5 H5 ⟨s5, du, ys, R, edu, npd, hR, ti, hyl, rfl⟩
  have hml : (ms.map (part17 lo hi)).length = ms.length := List.length_map _
  refine ⟨fun σ' H' => Same H3 H' ∧ ∃ (pt du : Addr) (W : List Str) (ys : List V) (R ps : Prs), H3 pt = none ∧ H' pt = some (.lst (W.map V.str)) ∧ H' du = some (.lst ys) ∧ pt ≠ du ∧ PL H' ys R ∧ Pt7 (lo, hi) W ps ∧ Apart R ∧ (∀ n, inP R n = inP ps n) ∧ (∀ r ∈ R, lo ≤ r.1 ∧ r.2 ≤ hi) ∧ ys.length ≤ 60 ∧ σ' = [some (.ref a), some (.int lo), some (.int hi), some (.int hd), some (.ref dm), some (.ref pt), some (.ref du), none, none, none, none, none], ?_, ?_⟩
  · refine ⟨_, rfl, pt, _, rfl, .inl (SqL.of (s5 _ _ ept)), rfl, _, rfl, ite2 (fun g0 => ?_) (fun g0 => ?_)⟩
    · refine ⟨(by show 1 ≤ sizeLine; decide), fun p hp => ?_⟩
      have t5 := same_new hp (.lst [.str (Str.ofString "-")])
      have e5 : upd H5 p (.lst [.str (Str.ofString "-")]) p = some (.lst ([bar1].map V.str)) := upd_same
      generalize upd H5 p (.lst [.str (Str.ofString "-")]) = H6 at t5 e5 ⊢
      refine ⟨_, rfl, _, rfl, (by show 2 ≤ sizeLine; decide), fun u hu => ⟨(by show 1 ≤ sizeLine; decide), fun r hr => ?_⟩⟩
      have t6 := (same_new hu (.tup [.int lo, .int hi])).trans (same_new hr (.lst [.ref u]))
      refine ⟨((s4.trans s5).trans t5).trans t6, p, r, [bar1], [.ref u], [(lo, hi)], [(lo, hi)], (s4.trans s5).free hp, t6 _ _ e5, upd_same, ne_of_none ((same_new hu _) _ _ e5) hr, .cons ⟨u, rfl, whole_fin hu hr⟩ .nil, ⟨by simp, by show 1 ≤ 60; decide, fun w hw => ?_, .inl ⟨rfl, rfl⟩⟩, ap_one lh, fun _ => rfl, fun x hx => ?_, by show 1 ≤ 60; decide, rfl⟩
      · rw [show w = bar1 by simpa using hw]
        exact ⟨by decide +kernel, Sm.of _ (by decide +kernel), by decide +kernel⟩
      · rw [show x = (lo, hi) by simpa using hx]
        exact ⟨Int.le_refl _, Int.le_refl _⟩
    · have g0' := dec_int_f g0
      have hall : ∀ p ∈ ms.map (pr17 lo hi), lo ≤ p.1 ∧ p.2 ≤ hi := fun p hp => by
        obtain ⟨c, _, rfl⟩ := List.mem_map.mp hp
        have := pr17_in c lh
        omega
      have hrd : allP (partOf (.inl (lo, hi))) (ms.map (part17 lo hi)) = some (ms.map (pr17 lo hi)) := allP_map fun c _ => part17_rd c lh bl1 bl2
      refine ⟨s4.trans s5, pt, du, ms.map (part17 lo hi), ys, R, ms.map (pr17 lo hi), hpt, s5 _ _ ept, edu, npd, hR, ⟨fun e => g0' (by rw [e]; rfl), by omega, fun w hw => ?_, .inr ⟨fun e => ?_, hrd⟩⟩, ti.ap, ti.mem, sub_in ti hall, hyl, rfl⟩
      · obtain ⟨c, _, rfl⟩ := List.mem_map.mp hw
        obtain ⟨ch, hl⟩ := part17_chars c lh bl1 bl2
        refine ⟨fun m => by rcases ch _ m with z | z | z <;> omega, ⟨by omega, fun x hx => ?_⟩, take_no fun m => by rcases ch _ m with z | z | z <;> omega⟩
        have : x ≤ 57 := by rcases ch x hx with z | z | z <;> omega
        exact Nat.lt_of_le_of_lt this (by decide)
      · rw [e] at hrd
        unfold allP at hrd
        rw [part_bar] at hrd
        cases hrd
  clear edu npd hR ti hyl hpt ept s4 s5 hml
  rintro σ6 H6 ⟨s6, pt, du, W, ys, R, ps, hpt, ept, edu, npd, hR, pts, aR, hRn, inR_, hyl, rfl⟩
  have hWl : (W.map V.str).length = W.length := List.length_map _
  have wne : 1 ≤ W.length := by
    cases hq : W with
    | nil => exact absurd hq pts.ne
    | cons => simp
  refine ⟨fun σ' H' => H' = H6 ∧ ∃ op : Bool, σ' = [some (.ref a), some (.int lo), some (.int hi), some (.int hd), some (.ref dm), some (.ref pt), some (.ref du), some (.bl op), none, none, none, none], ?_, ?_⟩
  · exact ⟨_, rfl, _, _, rfl, rfl, (by show (0 : Int) < 10009; decide), _, _, rfl, rfl, .inr ⟨by decide, by decide⟩, _, _, rfl, rfl, (by show (0 : Int) < 10009; decide), _, _, rfl, rfl, (by show (0 : Int) < 2; decide), rfl, rfl, _, rfl⟩
  rintro σ7 H7 ⟨rfl, op, rfl⟩
  refine ⟨fun σ' H' => H' = H7 ∧ ∃ sp : Bool, σ' = [some (.ref a), some (.int lo), some (.int hi), some (.int hd), some (.ref dm), some (.ref pt), some (.ref du), some (.bl op), some (.bl sp), none, none, none], ?_, ?_⟩
  · exact ⟨_, rfl, _, _, rfl, rfl, (by show (0 : Int) < 10007; decide), _, _, rfl, rfl, .inr ⟨by decide, by decide⟩, _, _, rfl, rfl, (by show (0 : Int) < 10007; decide), _, _, rfl, rfl, (by show (0 : Int) < 4; decide), rfl, rfl, _, rfl⟩
  rintro σ8 H8 ⟨rfl, sp, rfl⟩
  refine ⟨fun σ' H' => Same H3 H' ∧ ∃ (c9 : Option V) (W : List Str), H' pt = some (.lst (W.map V.str)) ∧ H' du = some (.lst ys) ∧ PL H' ys R ∧ W.length ≤ 60 ∧ (∀ w ∈ W, w.length ≤ 600) ∧ Tx7 (lo, hi) ps sp op (Txt.join mk2 W) ∧ σ' = [some (.ref a), some (.int lo), some (.int hi), some (.int hd), some (.ref dm), some (.ref pt), some (.ref du), some (.bl op), some (.bl sp), c9, none, none], ?_, ?_⟩
  · refine ⟨_, rfl, _, rfl, ?_⟩
    cases sp with
    | false => exact iteF ⟨s6, _, W, ept, edu, hR, pts.few, fun w hw_ => (pts.ok w hw_).2.1.len, tx7_good pts op, rfl⟩
    | true =>
      have hp : (0 : Int) < (((W.map V.str).length : Nat) : Int) := by omega
      have q0 := Int.emod_nonneg (hd % 10037 * 619 % 10037) (Int.ne_of_gt hp)
      have q1 := Int.emod_lt_of_pos (hd % 10037 * 619 % 10037) hp
      refine iteT ⟨_, rfl, _, _, rfl, rfl, (by show (0 : Int) < 10037; decide), _, _, rfl, rfl, .inr ⟨by decide, by decide⟩, _, _, rfl, rfl, (by show (0 : Int) < 10037; decide), _, rfl, pt, _, rfl, .inl (SqL.of ept), _, _, rfl, rfl, hp, ?_⟩
      generalize hd % 10037 * 619 % 10037 % (((W.map V.str).length : Nat) : Int) = k at q0 q1 ⊢
      refine ⟨_, rfl, _, rfl, _, rfl, _, rfl, _, rfl, pt, _, rfl, .inl (SqL.of ept), rfl, _, rfl, rfl, hd, lo, hi, op, _, _, rfl, lh, bl1, bl2, fun y H9 s9 ho => ?_⟩
      have hix : ixN (W.map V.str).length k = some k.toNat := by
        unfold ixN
        rw [if_pos q0, if_pos (by omega)]
      have e1 : decide (V.int (((W.map V.str).length : Nat) : Int) = V.int 1) = decide (W.length = 1) := by
        rw [Bool.eq_iff_iff, decide_eq_true_iff, decide_eq_true_iff, hWl]
        constructor
        · intro z; have := V.int.inj z; omega
        · intro z; rw [z]; rfl
      have e2 : decide (V.int k = V.int 0) = decide (k.toNat = 0) := by
        rw [Bool.eq_iff_iff, decide_eq_true_iff, decide_eq_true_iff]
        constructor
        · intro z; have := V.int.inj z; omega
        · intro z; rw [show k = 0 by omega]
      rw [e1, e2] at ho
      refine ⟨_, rfl, _, rfl, pt, _, _, _, rfl, rfl, s9 _ _ ept, hix, (s6.trans s9).upd hpt, _, W.set k.toNat y, by rw [upd_same, List.map_set], (upd_ne npd.symm).trans (s9 _ _ edu), (hR.mono s9.tups).mono (sameT_lst (s9 _ _ ept)), by rw [List.length_set]; exact pts.few, fun w hw_ => ?_, tx7_odd pts (by omega) ho, rfl⟩
      rcases List.mem_or_eq_of_mem_set hw_ with z | z
      · exact (pts.ok w z).2.1.len
      · rw [z]; exact ho.sm.len
  clear ept edu hR s6 hWl wne pts
  rintro σ9 H9 ⟨s9, c9, W, ept, edu, hR, lW, hWl, tx, rfl⟩
  have tl_ := tx.len
  refine ⟨fun σ' H' => H' = H9 ∧ σ' = [some (.ref a), some (.int lo), some (.int hi), some (.int hd), some (.ref dm), some (.ref pt), some (.ref du), some (.bl op), some (.bl sp), c9, some (.str (Txt.join mk2 W)), none], ?_, ?_⟩
  · exact ⟨rfl, _, rfl, mk2, pt, W, rfl, rfl, SqL.of ept, (by decide +kernel), jsum hWl lW (by decide), rfl, rfl⟩
  generalize Txt.join mk2 W = t at tx tl_
  rintro σ10 H10 ⟨rfl, rfl⟩
  have hRl := hR.length
  refine ⟨fun σ' H' => Same H3 H' ∧ ∃ (du : Addr) (ys : List V) (S : Prs) (t' : Str), H' du = some (.lst ys) ∧ PL H' ys S ∧ Apart S ∧ S.length ≤ 101 ∧ (∀ n, inP S n = if op = true then (inR n (lo, hi) && !inP ps n) else inP ps n) ∧ t' = (if op = true then nott ++ t else t) ∧ σ' = [some (.ref a), some (.int lo), some (.int hi), some (.int hd), some (.ref dm), some (.ref pt), some (.ref du), some (.bl op), some (.bl sp), c9, some (.str t'), none], ?_, ?_⟩
  · refine ⟨_, rfl, _, rfl, ?_⟩
    cases op with
    | true =>
      refine iteT ⟨_, rfl, _, _, rfl, rfl, len100 (by show 4 + _ ≤ 100010; omega), ?_⟩
      refine ⟨_, rfl, _, rfl, _, rfl, du, ys, R, lo, hi, rfl, SqL.of edu, hR, aR, inR_, lh, by omega, fun r H' ys2 S s' hr er hS aS hnS hl2 => ⟨s9.trans s', r, ys2, S, _, er, hS, aS, by rw [← hS.length]; exact hl2, fun n => ?_, rfl, rfl⟩⟩
      rw [hnS, if_pos rfl, hRn]
    | false => exact iteF ⟨s9, du, ys, R, _, edu, hR, aR, by omega, fun n => by rw [hRn, if_neg Bool.false_ne_true], rfl, rfl⟩
  clear edu hR s9 aR hRn inR_ hyl hRl npd
  rintro σ11 H11 ⟨s11, du, ys, S, t', edu, hS_, aS, lS, hSn, et, rfl⟩
  have nl : (nott ++ t).length = 4 + t.length := by rw [len_ap]; rfl
  have tl2 : t'.length ≤ 100004 := by rw [et]; split <;> omega
  have tst : Txt.startswith t' (Str.ofString "not ") = op := by
    rw [et]
    cases op with
    | true => rw [if_pos rfl]; exact starts_nott _
    | false => rw [if_neg Bool.false_ne_true]; exact tx.st rfl
  have ty : t = (if op = true then Txt.slice t' (some 4) none else t') := by
    rw [et]
    cases op with
    | true => rw [if_pos rfl, if_pos rfl, slice4]
    | false => rw [if_neg Bool.false_ne_true, if_neg Bool.false_ne_true]
  have hD11 := Num.same hD s11
  refine ⟨_, rfl, _, rfl, ?_⟩
  cases sp with
  | true => exact iteT ⟨_, rfl, _, rfl, dm, (lo, hi), t', t, op, rfl, hD11, lh, len100 (by omega), tst, ty, len100 (by omega), tx.sm, tx.few, tx.no rfl, fun H' _ => q H'⟩
  | false =>
  refine iteF ?_
  obtain ⟨qs, hqs, hqn⟩ := tx.ok rfl
  have same : ∀ {R2 : Prs}, Apart R2 → (∀ n, inP R2 n = if op = true then (inR n (lo, hi) && !inP qs n) else inP qs n) → R2 = S := fun {R2} a2 h2 => a2.uniq aS fun n => by rw [h2, hSn, hqn]
  refine ⟨_, rfl, _, rfl, dm, (lo, hi), t', t, op, rfl, hD11, lh, len100 (by omega), tst, ty, len100 (by omega), tx.sm, tx.few, fun qs' hps l H14 xs R2 s14 hl_ el hR2 aR2 hn2 hxl => ?_, fun hn => by rw [hqs] at hn; cases hn⟩
  rw [hqs] at hps
  cases hps
  have eR := same aR2 hn2
  subst eR
  refine ⟨_, rfl, _, rfl, l, du, xs, ys, R2, rfl, el, s14 _ _ edu, hR2, hS_.mono s14.tups, by omega, ⟨_, rfl, iteF ?_⟩⟩
  refine ⟨_, rfl, .inl ⟨rfl, _, SqL.of el⟩, _, rfl, _, rfl, (by show 2 ≤ sizeLine; decide), fun u hu => ⟨l, xs, 0, 0, .ref u, rfl, rfl, rfl, ret_r1 el hu, Nat.zero_le _, Nat.lt_of_le_of_lt hxl (by decide), ?_⟩⟩
  have s15 : Same H11 (upd (upd H14 u (.tup [.int lo, .int lo])) l (.lst (xs.take 0 ++ .ref u :: xs.drop 0))) := (s14.trans (same_new hu _)).upd hl_
  have e15 : upd (upd H14 u (.tup [.int lo, .int lo])) l (.lst (xs.take 0 ++ .ref u :: xs.drop 0)) l = some (.lst (xs.take 0 ++ .ref u :: xs.drop 0)) := upd_same
  generalize upd (upd H14 u (.tup [.int lo, .int lo])) l (.lst (xs.take 0 ++ .ref u :: xs.drop 0)) = H15 at s15 e15 ⊢
  refine ⟨_, rfl, .inl ⟨rfl, _, SqL.of e15⟩, _, rfl, _, rfl, (by show 2 ≤ sizeLine; decide), fun u2 hu2 => ⟨l, _, _, rfl, rfl, ret_r1 e15 hu2, small1000 (by simp; omega), ?_⟩⟩
  have s16 : Same H11 (upd (upd H15 u2 (.tup [.int lo, .int lo])) l (.lst ((xs.take 0 ++ .ref u :: xs.drop 0) ++ [.ref u2]))) := (s15.trans (same_new hu2 _)).upd hl_
  generalize upd (upd H15 u2 (.tup [.int lo, .int lo])) l (.lst ((xs.take 0 ++ .ref u :: xs.drop 0) ++ [.ref u2])) = H16 at s16 ⊢
  refine ⟨_, rfl, _, rfl, dm, (lo, hi), t', t, op, rfl, Num.same hD11 s16, lh, len100 (by omega), tst, ty, len100 (by omega), tx.sm, tx.few, fun qs' hps l2 H17 xs2 R3 s17 hl2 el2 hR3 aR3 hn3 hxl2 => ?_, fun hn => by rw [hqs] at hn; cases hn⟩
  rw [hqs] at hps
  cases hps
  have eR3 := same aR3 hn3
  subst eR3
  have s18 := s16.trans s17
  exact ⟨_, rfl, l2, du, xs2, ys, R3, rfl, el2, s18 _ _ edu, hR3, hS_.mono s18.tups, by omega, q H17⟩
end
theorem ls1 {P : List Value → Prop} (h : ∀ a, P [a]) : ∀ us : List Value, us.length = 1 → P us
  | [_], _ => h _
theorem ls2 {P : List Value → Prop} (h : ∀ a b, P [a, b]) : ∀ us : List Value, us.length = 2 → P us
  | [_, _], _ => h _ _
theorem ls3 {P : List Value → Prop} (h : ∀ a b c, P [a, b, c]) : ∀ us : List Value, us.length = 3 → P us
  | [_, _, _], _ => h _ _ _
theorem ls6 {P : List Value → Prop} (h : ∀ a b c d e f, P [a, b, c, d, e, f]) : ∀ us : List Value, us.length = 6 → P us
  | [_, _, _, _, _, _], _ => h _ _ _ _ _ _
theorem all_mk {l : PySem.W.OpenLaw} {w : World} {K : PySem.W.Frag} {h : Heap} {mg : Str → Option Value} {fa f0 f1 f2 f3 f4 f5 f6 f7 f8 f9 f10 f11 f12 f13 f14 f15 f16 f17 f18 f19 f20 f21 f22 f23 f24 f25 f26 f27 f28 f29 f30 f31 : Addr} (X : K.In h) (G : h.Ns mainGlobals mg) (hfa : mg "law" = some (.ref fa))
    {od0 an0 od1 an1 od2 an2 od3 an3 od4 an4 od5 an5 od6 an6 od7 an7 od8 an8 od9 an9 od10 an10 od11 an11 od12 an12 od13 an13 od14 an14 od15 an15 od16 an16 od17 an17 od18 an18 od19 an19 od20 an20 od21 an21 od22 an22 od23 an23 od24 an24 od25 an25 od26 an26 od27 an27 od28 an28 od29 an29 od30 an30 od31 an31 : Option Addr} {sl0 sl1 sl2 sl3 sl4 sl5 sl6 sl7 sl8 sl9 sl10 sl11 sl12 sl13 sl14 sl15 sl16 sl17 sl18 sl19 sl20 sl21 sl22 sl23 sl24 sl25 sl26 sl27 sl28 sl29 sl30 sl31 : Array (Option Value)} {oc0 kV0 dc0 pm0 cd0 ct0 oc1 kV1 dc1 pm1 cd1 ct1 oc2 kV2 dc2 pm2 cd2 ct2 oc3 kV3 dc3 pm3 cd3 ct3 oc4 kV4 dc4 pm4 cd4 ct4 oc5 kV5 dc5 pm5 cd5 ct5 oc6 kV6 dc6 pm6 cd6 ct6 oc7 kV7 dc7 pm7 cd7 ct7 oc8 kV8 dc8 pm8 cd8 ct8 oc9 kV9 dc9 pm9 cd9 ct9 oc10 kV10 dc10 pm10 cd10 ct10 oc11 kV11 dc11 pm11 cd11 ct11 oc12 kV12 dc12 pm12 cd12 ct12 oc13 kV13 dc13 pm13 cd13 ct13 oc14 kV14 dc14 pm14 cd14 ct14 oc15 kV15 dc15 pm15 cd15 ct15 oc16 kV16 dc16 pm16 cd16 ct16 oc17 kV17 dc17 pm17 cd17 ct17 oc18 kV18 dc18 pm18 cd18 ct18 oc19 kV19 dc19 pm19 cd19 ct19 oc20 kV20 dc20 pm20 cd20 ct20 oc21 kV21 dc21 pm21 cd21 ct21 oc22 kV22 dc22 pm22 cd22 ct22 oc23 kV23 dc23 pm23 cd23 ct23 oc24 kV24 dc24 pm24 cd24 ct24 oc25 kV25 dc25 pm25 cd25 ct25 oc26 kV26 dc26 pm26 cd26 ct26 oc27 kV27 dc27 pm27 cd27 ct27 oc28 kV28 dc28 pm28 cd28 ct28 oc29 kV29 dc29 pm29 cd29 ct29 oc30 kV30 dc30 pm30 cd30 ct30 oc31 kV31 dc31 pm31 cd31 ct31 : Value}
    {cTableError cBadNumber cBadDomain cBadCell cOutside cDomain cNumbers cWords : Addr}
    (n_TableError : PySem.W.nsIn K mainGlobals "TableError" = some (some (.ref cTableError)))
    (n_BadNumber : PySem.W.nsIn K mainGlobals "BadNumber" = some (some (.ref cBadNumber)))
    (n_BadDomain : PySem.W.nsIn K mainGlobals "BadDomain" = some (some (.ref cBadDomain)))
    (n_BadCell : PySem.W.nsIn K mainGlobals "BadCell" = some (some (.ref cBadCell)))
    (n_Outside : PySem.W.nsIn K mainGlobals "Outside" = some (some (.ref cOutside)))
    (n_Domain : PySem.W.nsIn K mainGlobals "Domain" = some (some (.ref cDomain)))
    (n_Numbers : PySem.W.nsIn K mainGlobals "Numbers" = some (some (.ref cNumbers)))
    (n_Words : PySem.W.nsIn K mainGlobals "Words" = some (some (.ref cWords)))
    (a0 : PySem.W.nsIn K mainGlobals "all_among" = some (some (.ref f0))) (l0 : K.lookup f0 = some ⟨oc0, od0, .func (PySem.W.fnOf "all_among" "all_among" (defArgs s_all_among) (defBody s_all_among) (defScope s_all_among) .none kV0 dc0 pm0 an0 cd0 ct0), sl0⟩) (c0 : PySem.W.codeIn K cd0 "all_among" = true) (k0 : PySem.W.keepIn K (.ref f0) = true)
    (a1 : PySem.W.nsIn K mainGlobals "is_number" = some (some (.ref f1))) (l1 : K.lookup f1 = some ⟨oc1, od1, .func (PySem.W.fnOf "is_number" "is_number" (defArgs s_is_number) (defBody s_is_number) (defScope s_is_number) .none kV1 dc1 pm1 an1 cd1 ct1), sl1⟩) (c1 : PySem.W.codeIn K cd1 "is_number" = true) (k1 : PySem.W.keepIn K (.ref f1) = true)
    (a2 : PySem.W.nsIn K mainGlobals "number_of" = some (some (.ref f2))) (l2 : K.lookup f2 = some ⟨oc2, od2, .func (PySem.W.fnOf "number_of" "number_of" (defArgs s_number_of) (defBody s_number_of) (defScope s_number_of) .none kV2 dc2 pm2 an2 cd2 ct2), sl2⟩) (c2 : PySem.W.codeIn K cd2 "number_of" = true) (k2 : PySem.W.keepIn K (.ref f2) = true)
    (a3 : PySem.W.nsIn K mainGlobals "is_whole" = some (some (.ref f3))) (l3 : K.lookup f3 = some ⟨oc3, od3, .func (PySem.W.fnOf "is_whole" "is_whole" (defArgs s_is_whole) (defBody s_is_whole) (defScope s_is_whole) .none kV3 dc3 pm3 an3 cd3 ct3), sl3⟩) (c3 : PySem.W.codeIn K cd3 "is_whole" = true) (k3 : PySem.W.keepIn K (.ref f3) = true)
    (a4 : PySem.W.nsIn K mainGlobals "tidy" = some (some (.ref f4))) (l4 : K.lookup f4 = some ⟨oc4, od4, .func (PySem.W.fnOf "tidy" "tidy" (defArgs s_tidy) (defBody s_tidy) (defScope s_tidy) .none kV4 dc4 pm4 an4 cd4 ct4), sl4⟩) (c4 : PySem.W.codeIn K cd4 "tidy" = true) (k4 : PySem.W.keepIn K (.ref f4) = true)
    (a5 : PySem.W.nsIn K mainGlobals "both" = some (some (.ref f5))) (l5 : K.lookup f5 = some ⟨oc5, od5, .func (PySem.W.fnOf "both" "both" (defArgs s_both) (defBody s_both) (defScope s_both) .none kV5 dc5 pm5 an5 cd5 ct5), sl5⟩) (c5 : PySem.W.codeIn K cd5 "both" = true) (k5 : PySem.W.keepIn K (.ref f5) = true)
    (a6 : PySem.W.nsIn K mainGlobals "without" = some (some (.ref f6))) (l6 : K.lookup f6 = some ⟨oc6, od6, .func (PySem.W.fnOf "without" "without" (defArgs s_without) (defBody s_without) (defScope s_without) .none kV6 dc6 pm6 an6 cd6 ct6), sl6⟩) (c6 : PySem.W.codeIn K cd6 "without" = true) (k6 : PySem.W.keepIn K (.ref f6) = true)
    (a7 : PySem.W.nsIn K mainGlobals "gaps" = some (some (.ref f7))) (l7 : K.lookup f7 = some ⟨oc7, od7, .func (PySem.W.fnOf "gaps" "gaps" (defArgs s_gaps) (defBody s_gaps) (defScope s_gaps) .none kV7 dc7 pm7 an7 cd7 ct7), sl7⟩) (c7 : PySem.W.codeIn K cd7 "gaps" = true) (k7 : PySem.W.keepIn K (.ref f7) = true)
    (a8 : PySem.W.nsIn K mainGlobals "read_cell" = some (some (.ref f8))) (l8 : K.lookup f8 = some ⟨oc8, od8, .func (PySem.W.fnOf "read_cell" "read_cell" (defArgs s_read_cell) (defBody s_read_cell) (defScope s_read_cell) .none kV8 dc8 pm8 an8 cd8 ct8), sl8⟩) (c8 : PySem.W.codeIn K cd8 "read_cell" = true) (k8 : PySem.W.keepIn K (.ref f8) = true)
    (a9 : PySem.W.nsIn K mainGlobals "read_set" = some (some (.ref f9))) (l9 : K.lookup f9 = some ⟨oc9, od9, .func (PySem.W.fnOf "read_set" "read_set" (defArgs s_read_set) (defBody s_read_set) (defScope s_read_set) .none kV9 dc9 pm9 an9 cd9 ct9), sl9⟩) (c9 : PySem.W.codeIn K cd9 "read_set" = true) (k9 : PySem.W.keepIn K (.ref f9) = true)
    (a10 : PySem.W.nsIn K mainGlobals "read_part" = some (some (.ref f10))) (l10 : K.lookup f10 = some ⟨oc10, od10, .func (PySem.W.fnOf "read_part" "read_part" (defArgs s_read_part) (defBody s_read_part) (defScope s_read_part) .none kV10 dc10 pm10 an10 cd10 ct10), sl10⟩) (c10 : PySem.W.codeIn K cd10 "read_part" = true) (k10 : PySem.W.keepIn K (.ref f10) = true)
    (a11 : PySem.W.nsIn K mainGlobals "read_range" = some (some (.ref f11))) (l11 : K.lookup f11 = some ⟨oc11, od11, .func (PySem.W.fnOf "read_range" "read_range" (defArgs s_read_range) (defBody s_read_range) (defScope s_read_range) .none kV11 dc11 pm11 an11 cd11 ct11), sl11⟩) (c11 : PySem.W.codeIn K cd11 "read_range" = true) (k11 : PySem.W.keepIn K (.ref f11) = true)
    (a12 : PySem.W.nsIn K mainGlobals "code_in_cell" = some (some (.ref f12))) (l12 : K.lookup f12 = some ⟨oc12, od12, .func (PySem.W.fnOf "code_in_cell" "code_in_cell" (defArgs s_code_in_cell) (defBody s_code_in_cell) (defScope s_code_in_cell) .none kV12 dc12 pm12 an12 cd12 ct12), sl12⟩) (c12 : PySem.W.codeIn K cd12 "code_in_cell" = true) (k12 : PySem.W.keepIn K (.ref f12) = true)
    (a13 : PySem.W.nsIn K mainGlobals "read_value" = some (some (.ref f13))) (l13 : K.lookup f13 = some ⟨oc13, od13, .func (PySem.W.fnOf "read_value" "read_value" (defArgs s_read_value) (defBody s_read_value) (defScope s_read_value) .none kV13 dc13 pm13 an13 cd13 ct13), sl13⟩) (c13 : PySem.W.codeIn K cd13 "read_value" = true) (k13 : PySem.W.keepIn K (.ref f13) = true)
    (a14 : PySem.W.nsIn K mainGlobals "_law_cell_at" = some (some (.ref f14))) (l14 : K.lookup f14 = some ⟨oc14, od14, .func (PySem.W.fnOf "_law_cell_at" "_law_cell_at" (defArgs s_law_cell_at) (defBody s_law_cell_at) (defScope s_law_cell_at) .none kV14 dc14 pm14 an14 cd14 ct14), sl14⟩) (c14 : PySem.W.codeIn K cd14 "_law_cell_at" = true) (k14 : PySem.W.keepIn K (.ref f14) = true)
    (a15 : PySem.W.nsIn K mainGlobals "_law_low" = some (some (.ref f15))) (l15 : K.lookup f15 = some ⟨oc15, od15, .func (PySem.W.fnOf "_law_low" "_law_low" (defArgs s_law_low) (defBody s_law_low) (defScope s_law_low) .none kV15 dc15 pm15 an15 cd15 ct15), sl15⟩) (c15 : PySem.W.codeIn K cd15 "_law_low" = true) (k15 : PySem.W.keepIn K (.ref f15) = true)
    (a16 : PySem.W.nsIn K mainGlobals "_law_high" = some (some (.ref f16))) (l16 : K.lookup f16 = some ⟨oc16, od16, .func (PySem.W.fnOf "_law_high" "_law_high" (defArgs s_law_high) (defBody s_law_high) (defScope s_law_high) .none kV16 dc16 pm16 an16 cd16 ct16), sl16⟩) (c16 : PySem.W.codeIn K cd16 "_law_high" = true) (k16 : PySem.W.keepIn K (.ref f16) = true)
    (a17 : PySem.W.nsIn K mainGlobals "_law_pair" = some (some (.ref f17))) (l17 : K.lookup f17 = some ⟨oc17, od17, .func (PySem.W.fnOf "_law_pair" "_law_pair" (defArgs s_law_pair) (defBody s_law_pair) (defScope s_law_pair) .none kV17 dc17 pm17 an17 cd17 ct17), sl17⟩) (c17 : PySem.W.codeIn K cd17 "_law_pair" = true) (k17 : PySem.W.keepIn K (.ref f17) = true)
    (a18 : PySem.W.nsIn K mainGlobals "_law_part" = some (some (.ref f18))) (l18 : K.lookup f18 = some ⟨oc18, od18, .func (PySem.W.fnOf "_law_part" "_law_part" (defArgs s_law_part) (defBody s_law_part) (defScope s_law_part) .none kV18 dc18 pm18 an18 cd18 ct18), sl18⟩) (c18 : PySem.W.codeIn K cd18 "_law_part" = true) (k18 : PySem.W.keepIn K (.ref f18) = true)
    (a19 : PySem.W.nsIn K mainGlobals "_law_odd" = some (some (.ref f19))) (l19 : K.lookup f19 = some ⟨oc19, od19, .func (PySem.W.fnOf "_law_odd" "_law_odd" (defArgs s_law_odd) (defBody s_law_odd) (defScope s_law_odd) .none kV19 dc19 pm19 an19 cd19 ct19), sl19⟩) (c19 : PySem.W.codeIn K cd19 "_law_odd" = true) (k19 : PySem.W.keepIn K (.ref f19) = true)
    (a20 : PySem.W.nsIn K mainGlobals "_law_merged" = some (some (.ref f20))) (l20 : K.lookup f20 = some ⟨oc20, od20, .func (PySem.W.fnOf "_law_merged" "_law_merged" (defArgs s_law_merged) (defBody s_law_merged) (defScope s_law_merged) .none kV20 dc20 pm20 an20 cd20 ct20), sl20⟩) (c20 : PySem.W.codeIn K cd20 "_law_merged" = true) (k20 : PySem.W.keepIn K (.ref f20) = true)
    (a21 : PySem.W.nsIn K mainGlobals "_law_others" = some (some (.ref f21))) (l21 : K.lookup f21 = some ⟨oc21, od21, .func (PySem.W.fnOf "_law_others" "_law_others" (defArgs s_law_others) (defBody s_law_others) (defScope s_law_others) .none kV21 dc21 pm21 an21 cd21 ct21), sl21⟩) (c21 : PySem.W.codeIn K cd21 "_law_others" = true) (k21 : PySem.W.keepIn K (.ref f21) = true)
    (a22 : PySem.W.nsIn K mainGlobals "_law_alike" = some (some (.ref f22))) (l22 : K.lookup f22 = some ⟨oc22, od22, .func (PySem.W.fnOf "_law_alike" "_law_alike" (defArgs s_law_alike) (defBody s_law_alike) (defScope s_law_alike) .none kV22 dc22 pm22 an22 cd22 ct22), sl22⟩) (c22 : PySem.W.codeIn K cd22 "_law_alike" = true) (k22 : PySem.W.keepIn K (.ref f22) = true)
    (a23 : PySem.W.nsIn K mainGlobals "_law_refused" = some (some (.ref f23))) (l23 : K.lookup f23 = some ⟨oc23, od23, .func (PySem.W.fnOf "_law_refused" "_law_refused" (defArgs s_law_refused) (defBody s_law_refused) (defScope s_law_refused) .none kV23 dc23 pm23 an23 cd23 ct23), sl23⟩) (c23 : PySem.W.codeIn K cd23 "_law_refused" = true) (k23 : PySem.W.keepIn K (.ref f23) = true)
    (i24 : PySem.W.findIn K (.ref cNumbers) "__init__" = some (some (.ref f24))) (if24 : PySem.W.isFn K (.ref f24) = true) (im24 : PySem.W.makesIn K cNumbers = true) (ik24 : PySem.W.keepIn K (.ref cNumbers) = true) (l24 : K.lookup f24 = some ⟨oc24, od24, .func (PySem.W.fnOf "__init__" "Numbers.__init__" (defArgs s_Numbers___init___Numbers) (defBody s_Numbers___init___Numbers) (defScope s_Numbers___init___Numbers) .none kV24 dc24 pm24 an24 cd24 ct24), sl24⟩) (c24 : PySem.W.codeIn K cd24 "Numbers.__init__" = true) (k24 : PySem.W.keepIn K (.ref f24) = true)
    (b_s25 : PySem.W.specialIn K (.ref cDomain) "__getattribute__" = some (some (.builtin "type.__getattribute__"))) (b_r25 : PySem.W.readsIn K cDomain (.type "type") = true) (b_a25 : PySem.W.findCls K (.ref cDomain) (.type "type") "__init__" = some (.val (.ref f25))) (l25 : K.lookup f25 = some ⟨oc25, od25, .func (PySem.W.fnOf "__init__" "Domain.__init__" (defArgs s_Domain___init___Numbers) (defBody s_Domain___init___Numbers) (defScope s_Domain___init___Numbers) .none kV25 dc25 pm25 an25 cd25 ct25), sl25⟩) (c25 : PySem.W.codeIn K cd25 "Domain.__init__" = true) (k25 : PySem.W.keepIn K (.ref f25) = true)
    (m26 : PySem.W.findIn K (.ref cNumbers) "whole" = some (some (.ref f26))) (mf26 : PySem.W.isFn K (.ref f26) = true) (l26 : K.lookup f26 = some ⟨oc26, od26, .func (PySem.W.fnOf "whole" "Domain.whole" (defArgs s_Domain_whole_Numbers) (defBody s_Domain_whole_Numbers) (defScope s_Domain_whole_Numbers) .none kV26 dc26 pm26 an26 cd26 ct26), sl26⟩) (c26 : PySem.W.codeIn K cd26 "Domain.whole" = true) (k26 : PySem.W.keepIn K (.ref f26) = true)
    (m27 : PySem.W.findIn K (.ref cNumbers) "code" = some (some (.ref f27))) (mf27 : PySem.W.isFn K (.ref f27) = true) (l27 : K.lookup f27 = some ⟨oc27, od27, .func (PySem.W.fnOf "code" "Domain.code" (defArgs s_Domain_code_Numbers) (defBody s_Domain_code_Numbers) (defScope s_Domain_code_Numbers) .none kV27 dc27 pm27 an27 cd27 ct27), sl27⟩) (c27 : PySem.W.codeIn K cd27 "Domain.code" = true) (k27 : PySem.W.keepIn K (.ref f27) = true)
    (m28 : PySem.W.findIn K (.ref cNumbers) "borne_code" = some (some (.ref f28))) (mf28 : PySem.W.isFn K (.ref f28) = true) (l28 : K.lookup f28 = some ⟨oc28, od28, .func (PySem.W.fnOf "borne_code" "Numbers.borne_code" (defArgs s_Numbers_borne_code_Numbers) (defBody s_Numbers_borne_code_Numbers) (defScope s_Numbers_borne_code_Numbers) .none kV28 dc28 pm28 an28 cd28 ct28), sl28⟩) (c28 : PySem.W.codeIn K cd28 "Numbers.borne_code" = true) (k28 : PySem.W.keepIn K (.ref f28) = true)
    (m29 : PySem.W.findIn K (.ref cNumbers) "bears" = some (some (.ref f29))) (mf29 : PySem.W.isFn K (.ref f29) = true) (l29 : K.lookup f29 = some ⟨oc29, od29, .func (PySem.W.fnOf "bears" "Numbers.bears" (defArgs s_Numbers_bears_Numbers) (defBody s_Numbers_bears_Numbers) (defScope s_Numbers_bears_Numbers) .none kV29 dc29 pm29 an29 cd29 ct29), sl29⟩) (c29 : PySem.W.codeIn K cd29 "Numbers.bears" = true) (k29 : PySem.W.keepIn K (.ref f29) = true)
    (m30 : PySem.W.findIn K (.ref cNumbers) "has_code" = some (some (.ref f30))) (mf30 : PySem.W.isFn K (.ref f30) = true) (l30 : K.lookup f30 = some ⟨oc30, od30, .func (PySem.W.fnOf "has_code" "Domain.has_code" (defArgs s_Domain_has_code_Numbers) (defBody s_Domain_has_code_Numbers) (defScope s_Domain_has_code_Numbers) .none kV30 dc30 pm30 an30 cd30 ct30), sl30⟩) (c30 : PySem.W.codeIn K cd30 "Domain.has_code" = true) (k30 : PySem.W.keepIn K (.ref f30) = true)
    (a31 : PySem.W.nsIn K mainGlobals "law" = some (some (.ref f31))) (l31 : K.lookup f31 = some ⟨oc31, od31, .func (PySem.W.fnOf "law" "law" (defArgs s_law) (defBody s_law) (defScope s_law) .none kV31 dc31 pm31 an31 cd31 ct31), sl31⟩) (c31 : PySem.W.codeIn K cd31 "law" = true) (k31 : PySem.W.keepIn K (.ref f31) = true)
    (z0 : PySem.W.nsIn K mainGlobals "len" = some none)
    (z1 : PySem.W.nsIn K mainGlobals "int" = some none)
    (z2 : PySem.W.nsIn K mainGlobals "isinstance" = some none)
    (z3 : PySem.W.nsIn K mainGlobals "bool" = some none)
    (z4 : PySem.W.nsIn K mainGlobals "sorted" = some none)
    (z5 : PySem.W.nsIn K mainGlobals "max" = some none)
    (z6 : PySem.W.nsIn K mainGlobals "min" = some none)
    (z7 : PySem.W.nsIn K mainGlobals "str" = some none)
    (z8 : PySem.W.nsIn K mainGlobals "abs" = some none)
    (z9 : PySem.W.nsIn K mainGlobals "range" = some none)
    (z10 : PySem.W.nsIn K mainGlobals "list" = some none)
    (z11 : PySem.W.nsIn K mainGlobals "tuple" = some none)
    (z12 : PySem.W.nsIn K mainGlobals "ValueError" = some none)
    {w0 : Value} (y0 : PySem.W.nsIn K mainGlobals "MOST_FIGURES" = some (some w0)) (x0 : RelV (V.int 60) w0)
    {w1 : Value} (y1 : PySem.W.nsIn K mainGlobals "FIGURES" = some (some w1)) (x1 : RelV (V.str "0123456789") w1)
    {w2 : Value} (y2 : PySem.W.nsIn K mainGlobals "NOT" = some (some w2)) (x2 : RelV (V.str "not ") w2)
    {w3 : Value} (y3 : PySem.W.nsIn K mainGlobals "ALL" = some (some w3)) (x3 : RelV (V.str "-") w3)
    {w4 : Value} (y4 : PySem.W.nsIn K mainGlobals "UP_TO" = some (some w4)) (x4 : RelV (V.str "..") w4)
    (x_BadNumber : PySem.W.excIn K cBadNumber [.type "ValueError", .type "Exception", .type "BaseException", .type "object"] "ValueError.__new__" = true)
    (l0_BadNumber : PySem.W.findIn K (.ref cBadNumber) "__getattribute__" = some (some (.builtin "BaseException.__getattribute__")))
    (l1_BadNumber : PySem.W.findIn K (.ref cBadNumber) "__getattr__" = some none)
    (l2_BadNumber : PySem.W.findIn K (.ref cBadNumber) "__class__" = some (some (.builtin "object.__class__")))
    (l3_BadNumber : PySem.W.specialIn K (.builtin "object.__class__") "__get__" = some (some (.builtin "getset_descriptor.__get__")))
    (l4_BadNumber : PySem.W.takesIn K (.builtin "object.__class__") = some true)
    (l5_BadNumber : PySem.W.mroIn K cBadNumber (.type "object") = some true)
    (l6_BadNumber : PySem.W.mroIn K cBadNumber (.type "BaseException") = some true)
    (l7_BadNumber : PySem.W.kitCls K (.ref cBadNumber) (.ref cBadNumber) = some true)
    (x_BadDomain : PySem.W.excIn K cBadDomain [.type "ValueError", .type "Exception", .type "BaseException", .type "object"] "ValueError.__new__" = true)
    (l0_BadDomain : PySem.W.findIn K (.ref cBadDomain) "__getattribute__" = some (some (.builtin "BaseException.__getattribute__")))
    (l1_BadDomain : PySem.W.findIn K (.ref cBadDomain) "__getattr__" = some none)
    (l2_BadDomain : PySem.W.findIn K (.ref cBadDomain) "__class__" = some (some (.builtin "object.__class__")))
    (l3_BadDomain : PySem.W.specialIn K (.builtin "object.__class__") "__get__" = some (some (.builtin "getset_descriptor.__get__")))
    (l4_BadDomain : PySem.W.takesIn K (.builtin "object.__class__") = some true)
    (l5_BadDomain : PySem.W.mroIn K cBadDomain (.type "object") = some true)
    (l6_BadDomain : PySem.W.mroIn K cBadDomain (.type "BaseException") = some true)
    (l7_BadDomain : PySem.W.kitCls K (.ref cBadDomain) (.ref cBadDomain) = some true)
    (x_BadCell : PySem.W.excIn K cBadCell [.type "ValueError", .type "Exception", .type "BaseException", .type "object"] "ValueError.__new__" = true)
    (l0_BadCell : PySem.W.findIn K (.ref cBadCell) "__getattribute__" = some (some (.builtin "BaseException.__getattribute__")))
    (l1_BadCell : PySem.W.findIn K (.ref cBadCell) "__getattr__" = some none)
    (l2_BadCell : PySem.W.findIn K (.ref cBadCell) "__class__" = some (some (.builtin "object.__class__")))
    (l3_BadCell : PySem.W.specialIn K (.builtin "object.__class__") "__get__" = some (some (.builtin "getset_descriptor.__get__")))
    (l4_BadCell : PySem.W.takesIn K (.builtin "object.__class__") = some true)
    (l5_BadCell : PySem.W.mroIn K cBadCell (.type "object") = some true)
    (l6_BadCell : PySem.W.mroIn K cBadCell (.type "BaseException") = some true)
    (l7_BadCell : PySem.W.kitCls K (.ref cBadCell) (.ref cBadCell) = some true)
    (x_Outside : PySem.W.excIn K cOutside [.type "ValueError", .type "Exception", .type "BaseException", .type "object"] "ValueError.__new__" = true)
    (l0_Outside : PySem.W.findIn K (.ref cOutside) "__getattribute__" = some (some (.builtin "BaseException.__getattribute__")))
    (l1_Outside : PySem.W.findIn K (.ref cOutside) "__getattr__" = some none)
    (l2_Outside : PySem.W.findIn K (.ref cOutside) "__class__" = some (some (.builtin "object.__class__")))
    (l3_Outside : PySem.W.specialIn K (.builtin "object.__class__") "__get__" = some (some (.builtin "getset_descriptor.__get__")))
    (l4_Outside : PySem.W.takesIn K (.builtin "object.__class__") = some true)
    (l5_Outside : PySem.W.mroIn K cOutside (.type "object") = some true)
    (l6_Outside : PySem.W.mroIn K cOutside (.type "BaseException") = some true)
    (l7_Outside : PySem.W.kitCls K (.ref cOutside) (.ref cOutside) = some true)
    (pg_Numbers : PySem.W.plainGet K cNumbers Str.empty = true) (hd_Numbers : PySem.W.hasDictIn K cNumbers = true) (po_Numbers : PySem.W.plainOver K cNumbers = true) (sa_Numbers : PySem.W.findIn K (.ref cNumbers) "__setattr__" = some (some (.builtin "object.__setattr__")))
    (ta_Numbers : PySem.W.findIn K (.ref cNumbers) "__class__" = some (some (.builtin "object.__class__"))) (tn_Numbers : PySem.W.specialIn K (.builtin "object.__class__") "__get__" = some (some (.builtin "getset_descriptor.__get__"))) (tt_Numbers : PySem.W.takesIn K (.builtin "object.__class__") = some true) (tm_Numbers : PySem.W.mroIn K cNumbers (.type "object") = some true)
    (na_Numbers_low : PySem.W.findIn K (.ref cNumbers) "low" = some none)
    (na_Numbers_high : PySem.W.findIn K (.ref cNumbers) "high" = some none)
    (f_nw : PySem.W.kitOne K (.ref cNumbers) (.ref cWords) = some false)
    (f_x1 : PySem.W.exmAny K (.ref cBadNumber) [.ref cBadNumber, .ref cOutside] = some true)
    (f_x2 : PySem.W.exmAny K (.ref cOutside) [.ref cBadNumber, .ref cOutside] = some true)
    (f_c0 : PySem.W.exmOne K (.ref cBadCell) (.ref cTableError) = some true)
    (f_c1 : PySem.W.kitOne K (.ref cBadCell) (.ref cBadCell) = some true)
    (f_c2 : PySem.W.kitOne K (.ref cBadCell) (.type "ValueError") = some true)
    (f_c3 : PySem.W.kitAny K (.ref cBadCell) [.ref cBadNumber, .ref cOutside] = some false)
    : ∃ fd : FuncData, (∀ (s : Shared) (v : Value), BindsTo s fd ⟨[v], []⟩ [("script", v)]) ∧ ∀ base : Heap, K.In base → base.Ns mainGlobals mg → FnOk l.prog w K mg base CX0 12 fa fd ["script"] (sp_law K) := by
  have e := hfa.symm.trans (PySem.W.mg_of X G a31)
  cases e
  have F0 := fun_mk (st := s_all_among) l0 c0 k0
  have b0 := F0.binds (ps := ["text", "signs"]) fun _ _ _ _ _ _ us hl => ls2 (P := fun us => bindArgs _ { pos := us } = pure (List.zip _ us)) (fun _ _ => rfl) us hl
  have F1 := fun_mk (st := s_is_number) l1 c1 k1
  have b1 := F1.binds (ps := ["text"]) fun _ _ _ _ _ _ us hl => ls1 (P := fun us => bindArgs _ { pos := us } = pure (List.zip _ us)) (fun _ => rfl) us hl
  have F2 := fun_mk (st := s_number_of) l2 c2 k2
  have b2 := F2.binds (ps := ["text"]) fun _ _ _ _ _ _ us hl => ls1 (P := fun us => bindArgs _ { pos := us } = pure (List.zip _ us)) (fun _ => rfl) us hl
  have F3 := fun_mk (st := s_is_whole) l3 c3 k3
  have b3 := F3.binds (ps := ["value"]) fun _ _ _ _ _ _ us hl => ls1 (P := fun us => bindArgs _ { pos := us } = pure (List.zip _ us)) (fun _ => rfl) us hl
  have F4 := fun_mk (st := s_tidy) l4 c4 k4
  have b4 := F4.binds (ps := ["pairs"]) fun _ _ _ _ _ _ us hl => ls1 (P := fun us => bindArgs _ { pos := us } = pure (List.zip _ us)) (fun _ => rfl) us hl
  have F5 := fun_mk (st := s_both) l5 c5 k5
  have b5 := F5.binds (ps := ["ones", "others"]) fun _ _ _ _ _ _ us hl => ls2 (P := fun us => bindArgs _ { pos := us } = pure (List.zip _ us)) (fun _ _ => rfl) us hl
  have F6 := fun_mk (st := s_without) l6 c6 k6
  have b6 := F6.binds (ps := ["ones", "others"]) fun _ _ _ _ _ _ us hl => ls2 (P := fun us => bindArgs _ { pos := us } = pure (List.zip _ us)) (fun _ _ => rfl) us hl
  have F7 := fun_mk (st := s_gaps) l7 c7 k7
  have b7 := F7.binds (ps := ["spans", "low", "high"]) fun _ _ _ _ _ _ us hl => ls3 (P := fun us => bindArgs _ { pos := us } = pure (List.zip _ us)) (fun _ _ _ => rfl) us hl
  have F8 := fun_mk (st := s_read_cell) l8 c8 k8
  have b8 := F8.binds (ps := ["domain", "text"]) fun _ _ _ _ _ _ us hl => ls2 (P := fun us => bindArgs _ { pos := us } = pure (List.zip _ us)) (fun _ _ => rfl) us hl
  have F9 := fun_mk (st := s_read_set) l9 c9 k9
  have b9 := F9.binds (ps := ["domain", "text"]) fun _ _ _ _ _ _ us hl => ls2 (P := fun us => bindArgs _ { pos := us } = pure (List.zip _ us)) (fun _ _ => rfl) us hl
  have F10 := fun_mk (st := s_read_part) l10 c10 k10
  have b10 := F10.binds (ps := ["domain", "part"]) fun _ _ _ _ _ _ us hl => ls2 (P := fun us => bindArgs _ { pos := us } = pure (List.zip _ us)) (fun _ _ => rfl) us hl
  have F11 := fun_mk (st := s_read_range) l11 c11 k11
  have b11 := F11.binds (ps := ["domain", "part"]) fun _ _ _ _ _ _ us hl => ls2 (P := fun us => bindArgs _ { pos := us } = pure (List.zip _ us)) (fun _ _ => rfl) us hl
  have F12 := fun_mk (st := s_code_in_cell) l12 c12 k12
  have b12 := F12.binds (ps := ["domain", "text"]) fun _ _ _ _ _ _ us hl => ls2 (P := fun us => bindArgs _ { pos := us } = pure (List.zip _ us)) (fun _ _ => rfl) us hl
  have F13 := fun_mk (st := s_read_value) l13 c13 k13
  have b13 := F13.binds (ps := ["domain", "text"]) fun _ _ _ _ _ _ us hl => ls2 (P := fun us => bindArgs _ { pos := us } = pure (List.zip _ us)) (fun _ _ => rfl) us hl
  have F14 := fun_mk (st := s_law_cell_at) l14 c14 k14
  have b14 := F14.binds (ps := ["script", "k"]) fun _ _ _ _ _ _ us hl => ls2 (P := fun us => bindArgs _ { pos := us } = pure (List.zip _ us)) (fun _ _ => rfl) us hl
  have F15 := fun_mk (st := s_law_low) l15 c15 k15
  have b15 := F15.binds (ps := ["cell"]) fun _ _ _ _ _ _ us hl => ls1 (P := fun us => bindArgs _ { pos := us } = pure (List.zip _ us)) (fun _ => rfl) us hl
  have F16 := fun_mk (st := s_law_high) l16 c16 k16
  have b16 := F16.binds (ps := ["low", "cell"]) fun _ _ _ _ _ _ us hl => ls2 (P := fun us => bindArgs _ { pos := us } = pure (List.zip _ us)) (fun _ _ => rfl) us hl
  have F17 := fun_mk (st := s_law_pair) l17 c17 k17
  have b17 := F17.binds (ps := ["cell", "low", "high"]) fun _ _ _ _ _ _ us hl => ls3 (P := fun us => bindArgs _ { pos := us } = pure (List.zip _ us)) (fun _ _ _ => rfl) us hl
  have F18 := fun_mk (st := s_law_part) l18 c18 k18
  have b18 := F18.binds (ps := ["cell", "low", "high"]) fun _ _ _ _ _ _ us hl => ls3 (P := fun us => bindArgs _ { pos := us } = pure (List.zip _ us)) (fun _ _ _ => rfl) us hl
  have F19 := fun_mk (st := s_law_odd) l19 c19 k19
  have b19 := F19.binds (ps := ["head", "low", "high", "opposite", "single", "first"]) fun _ _ _ _ _ _ us hl => ls6 (P := fun us => bindArgs _ { pos := us } = pure (List.zip _ us)) (fun _ _ _ _ _ _ => rfl) us hl
  have F20 := fun_mk (st := s_law_merged) l20 c20 k20
  have b20 := F20.binds (ps := ["pairs"]) fun _ _ _ _ _ _ us hl => ls1 (P := fun us => bindArgs _ { pos := us } = pure (List.zip _ us)) (fun _ => rfl) us hl
  have F21 := fun_mk (st := s_law_others) l21 c21 k21
  have b21 := F21.binds (ps := ["spans", "low", "high"]) fun _ _ _ _ _ _ us hl => ls3 (P := fun us => bindArgs _ { pos := us } = pure (List.zip _ us)) (fun _ _ _ => rfl) us hl
  have F22 := fun_mk (st := s_law_alike) l22 c22 k22
  have b22 := F22.binds (ps := ["found", "due"]) fun _ _ _ _ _ _ us hl => ls2 (P := fun us => bindArgs _ { pos := us } = pure (List.zip _ us)) (fun _ _ => rfl) us hl
  have F23 := fun_mk (st := s_law_refused) l23 c23 k23
  have b23 := F23.binds (ps := ["domain", "text"]) fun _ _ _ _ _ _ us hl => ls2 (P := fun us => bindArgs _ { pos := us } = pure (List.zip _ us)) (fun _ _ => rfl) us hl
  have F24 := fun_mk (st := s_Numbers___init___Numbers) l24 c24 k24
  have b24 := F24.binds (ps := ["self", "low", "high"]) fun _ _ _ _ _ _ us hl => ls3 (P := fun us => bindArgs _ { pos := us } = pure (List.zip _ us)) (fun _ _ _ => rfl) us hl
  have F25 := fun_mk (st := s_Domain___init___Numbers) l25 c25 k25
  have b25 := F25.binds (ps := ["self", "low", "high"]) fun _ _ _ _ _ _ us hl => ls3 (P := fun us => bindArgs _ { pos := us } = pure (List.zip _ us)) (fun _ _ _ => rfl) us hl
  have F26 := fun_mk (st := s_Domain_whole_Numbers) l26 c26 k26
  have b26 := F26.binds (ps := ["self"]) fun _ _ _ _ _ _ us hl => ls1 (P := fun us => bindArgs _ { pos := us } = pure (List.zip _ us)) (fun _ => rfl) us hl
  have F27 := fun_mk (st := s_Domain_code_Numbers) l27 c27 k27
  have b27 := F27.binds (ps := ["self", "value"]) fun _ _ _ _ _ _ us hl => ls2 (P := fun us => bindArgs _ { pos := us } = pure (List.zip _ us)) (fun _ _ => rfl) us hl
  have F28 := fun_mk (st := s_Numbers_borne_code_Numbers) l28 c28 k28
  have b28 := F28.binds (ps := ["self", "value"]) fun _ _ _ _ _ _ us hl => ls2 (P := fun us => bindArgs _ { pos := us } = pure (List.zip _ us)) (fun _ _ => rfl) us hl
  have F29 := fun_mk (st := s_Numbers_bears_Numbers) l29 c29 k29
  have b29 := F29.binds (ps := ["self", "value"]) fun _ _ _ _ _ _ us hl => ls2 (P := fun us => bindArgs _ { pos := us } = pure (List.zip _ us)) (fun _ _ => rfl) us hl
  have F30 := fun_mk (st := s_Domain_has_code_Numbers) l30 c30 k30
  have b30 := F30.binds (ps := ["self", "value"]) fun _ _ _ _ _ _ us hl => ls2 (P := fun us => bindArgs _ { pos := us } = pure (List.zip _ us)) (fun _ _ => rfl) us hl
  have F31 := fun_mk (st := s_law) l31 c31 k31
  have b31 := F31.binds (ps := ["script"]) fun _ _ _ _ _ _ us hl => ls1 (P := fun us => bindArgs _ { pos := us } = pure (List.zip _ us)) (fun _ => rfl) us hl
  have bl : Bl K mg cTableError cBadNumber cBadDomain cBadCell cOutside cDomain cNumbers cWords := ⟨PySem.W.mg_of X G n_TableError, n_TableError, PySem.W.mg_of X G n_BadNumber, n_BadNumber, PySem.W.mg_of X G n_BadDomain, n_BadDomain, PySem.W.mg_of X G n_BadCell, n_BadCell, PySem.W.mg_of X G n_Outside, n_Outside, PySem.W.mg_of X G n_Domain, n_Domain, PySem.W.mg_of X G n_Numbers, n_Numbers, PySem.W.mg_of X G n_Words, n_Words, ExcCls.value x_BadNumber, ⟨l0_BadNumber, l1_BadNumber, l2_BadNumber, l3_BadNumber, l4_BadNumber, l5_BadNumber, l6_BadNumber, l7_BadNumber⟩, ExcCls.value x_BadDomain, ⟨l0_BadDomain, l1_BadDomain, l2_BadDomain, l3_BadDomain, l4_BadDomain, l5_BadDomain, l6_BadDomain, l7_BadDomain⟩, ExcCls.value x_BadCell, ⟨l0_BadCell, l1_BadCell, l2_BadCell, l3_BadCell, l4_BadCell, l5_BadCell, l6_BadCell, l7_BadCell⟩, ExcCls.value x_Outside, ⟨l0_Outside, l1_Outside, l2_Outside, l3_Outside, l4_Outside, l5_Outside, l6_Outside, l7_Outside⟩, ⟨pg_Numbers, hd_Numbers, po_Numbers, sa_Numbers⟩, ⟨⟨pg_Numbers, hd_Numbers, po_Numbers, sa_Numbers⟩, ta_Numbers, tn_Numbers, tt_Numbers, tm_Numbers⟩, na_Numbers_low, na_Numbers_high, f_nw, f_x1, f_x2, f_c0, f_c1, f_c2, f_c3, PySem.W.mg_none_of X G z0, PySem.W.mg_none_of X G z1, PySem.W.mg_none_of X G z2, PySem.W.mg_none_of X G z3, PySem.W.mg_none_of X G z4, PySem.W.mg_none_of X G z5, PySem.W.mg_none_of X G z6, PySem.W.mg_none_of X G z7, PySem.W.mg_none_of X G z8, PySem.W.mg_none_of X G z9, PySem.W.mg_none_of X G z10, PySem.W.mg_none_of X G z11, PySem.W.mg_none_of X G z12, ⟨_, PySem.W.mg_of X G y0, x0⟩, ⟨_, PySem.W.mg_of X G y1, x1⟩, ⟨_, PySem.W.mg_of X G y2, x2⟩, ⟨_, PySem.W.mg_of X G y3, x3⟩, ⟨_, PySem.W.mg_of X G y4, x4⟩⟩
  refine ⟨PySem.W.fnOf "law" "law" (defArgs s_law) (defBody s_law) (defScope s_law) .none kV31 dc31 pm31 an31 cd31 ct31, fun s v => .of_eq rfl, fun base _ _ => ?_⟩
  have O0 := ok_all_among (P := l.prog) (w := w) (base := base) F0 bl 
  have C_all_among : Callee l.prog w K mg base 1 "all_among" ["text", "signs"] (sp_all_among K cTableError cBadNumber cBadDomain cBadCell cOutside cDomain cNumbers cWords) := ⟨_, _, O0, b0, k0, PySem.W.mg_of X G a0⟩
  have O3 := ok_is_whole (P := l.prog) (w := w) (base := base) F3 bl 
  have C_is_whole : Callee l.prog w K mg base 1 "is_whole" ["value"] (sp_is_whole K cTableError cBadNumber cBadDomain cBadCell cOutside cDomain cNumbers cWords) := ⟨_, _, O3, b3, k3, PySem.W.mg_of X G a3⟩
  have O4 := ok_tidy (P := l.prog) (w := w) (base := base) F4 bl 
  have C_tidy : Callee l.prog w K mg base 1 "tidy" ["pairs"] (sp_tidy K cTableError cBadNumber cBadDomain cBadCell cOutside cDomain cNumbers cWords) := ⟨_, _, O4, b4, k4, PySem.W.mg_of X G a4⟩
  have O5 := ok_both (P := l.prog) (w := w) (base := base) F5 bl 
  have C_both : Callee l.prog w K mg base 1 "both" ["ones", "others"] (sp_both K cTableError cBadNumber cBadDomain cBadCell cOutside cDomain cNumbers cWords) := ⟨_, _, O5, b5, k5, PySem.W.mg_of X G a5⟩
  have O7 := ok_gaps (P := l.prog) (w := w) (base := base) F7 bl 
  have C_gaps : Callee l.prog w K mg base 1 "gaps" ["spans", "low", "high"] (sp_gaps K cTableError cBadNumber cBadDomain cBadCell cOutside cDomain cNumbers cWords) := ⟨_, _, O7, b7, k7, PySem.W.mg_of X G a7⟩
  have O14 := ok_law_cell_at (P := l.prog) (w := w) (base := base) F14 bl 
  have C_law_cell_at : Callee l.prog w K mg base 1 "_law_cell_at" ["script", "k"] (sp_law_cell_at K cTableError cBadNumber cBadDomain cBadCell cOutside cDomain cNumbers cWords) := ⟨_, _, O14, b14, k14, PySem.W.mg_of X G a14⟩
  have O15 := ok_law_low (P := l.prog) (w := w) (base := base) F15 bl 
  have C_law_low : Callee l.prog w K mg base 1 "_law_low" ["cell"] (sp_law_low K cTableError cBadNumber cBadDomain cBadCell cOutside cDomain cNumbers cWords) := ⟨_, _, O15, b15, k15, PySem.W.mg_of X G a15⟩
  have O16 := ok_law_high (P := l.prog) (w := w) (base := base) F16 bl 
  have C_law_high : Callee l.prog w K mg base 1 "_law_high" ["low", "cell"] (sp_law_high K cTableError cBadNumber cBadDomain cBadCell cOutside cDomain cNumbers cWords) := ⟨_, _, O16, b16, k16, PySem.W.mg_of X G a16⟩
  have O17 := ok_law_pair (P := l.prog) (w := w) (base := base) F17 bl 
  have C_law_pair : Callee l.prog w K mg base 1 "_law_pair" ["cell", "low", "high"] (sp_law_pair K cTableError cBadNumber cBadDomain cBadCell cOutside cDomain cNumbers cWords) := ⟨_, _, O17, b17, k17, PySem.W.mg_of X G a17⟩
  have O19 := ok_law_odd (P := l.prog) (w := w) (base := base) F19 bl 
  have C_law_odd : Callee l.prog w K mg base 1 "_law_odd" ["head", "low", "high", "opposite", "single", "first"] (sp_law_odd K cTableError cBadNumber cBadDomain cBadCell cOutside cDomain cNumbers cWords) := ⟨_, _, O19, b19, k19, PySem.W.mg_of X G a19⟩
  have O20 := ok_law_merged (P := l.prog) (w := w) (base := base) F20 bl 
  have C_law_merged : Callee l.prog w K mg base 1 "_law_merged" ["pairs"] (sp_law_merged K cTableError cBadNumber cBadDomain cBadCell cOutside cDomain cNumbers cWords) := ⟨_, _, O20, b20, k20, PySem.W.mg_of X G a20⟩
  have O21 := ok_law_others (P := l.prog) (w := w) (base := base) F21 bl 
  have C_law_others : Callee l.prog w K mg base 1 "_law_others" ["spans", "low", "high"] (sp_law_others K cTableError cBadNumber cBadDomain cBadCell cOutside cDomain cNumbers cWords) := ⟨_, _, O21, b21, k21, PySem.W.mg_of X G a21⟩
  have O22 := ok_law_alike (P := l.prog) (w := w) (base := base) F22 bl 
  have C_law_alike : Callee l.prog w K mg base 1 "_law_alike" ["found", "due"] (sp_law_alike K cTableError cBadNumber cBadDomain cBadCell cOutside cDomain cNumbers cWords) := ⟨_, _, O22, b22, k22, PySem.W.mg_of X G a22⟩
  have O25 := ok_Domain___init___Numbers (P := l.prog) (w := w) (base := base) F25 bl 
  have B_Domain___init___Numbers : BCallee CX0 l.prog w K mg base 1 "Domain" "__init__" ["self", "low", "high"] (sp_Domain___init___Numbers K cTableError cBadNumber cBadDomain cBadCell cOutside cDomain cNumbers cWords) := ⟨_, _, _, ⟨b_s25, b_r25, b_a25, k25⟩, O25, b25, PySem.W.mg_of X G n_Domain⟩
  have O26 := ok_Domain_whole_Numbers (P := l.prog) (w := w) (base := base) F26 bl 
  have M_Domain_whole_Numbers : MCallee CX0 l.prog w K mg base 1 cNumbers "whole" ["self"] (sp_Domain_whole_Numbers K cTableError cBadNumber cBadDomain cBadCell cOutside cDomain cNumbers cWords) := ⟨_, _, ⟨m26, mf26, k26⟩, O26, b26⟩
  have O28 := ok_Numbers_borne_code_Numbers (P := l.prog) (w := w) (base := base) F28 bl 
  have M_Numbers_borne_code_Numbers : MCallee CX0 l.prog w K mg base 1 cNumbers "borne_code" ["self", "value"] (sp_Numbers_borne_code_Numbers K cTableError cBadNumber cBadDomain cBadCell cOutside cDomain cNumbers cWords) := ⟨_, _, ⟨m28, mf28, k28⟩, O28, b28⟩
  have O1 := ok_is_number (P := l.prog) (w := w) (base := base) F1 bl (C_all_among.mono (by decide))
  have C_is_number : Callee l.prog w K mg base 2 "is_number" ["text"] (sp_is_number K cTableError cBadNumber cBadDomain cBadCell cOutside cDomain cNumbers cWords) := ⟨_, _, O1, b1, k1, PySem.W.mg_of X G a1⟩
  have O6 := ok_without (P := l.prog) (w := w) (base := base) F6 bl (C_both.mono (by decide)) (C_gaps.mono (by decide))
  have C_without : Callee l.prog w K mg base 2 "without" ["ones", "others"] (sp_without K cTableError cBadNumber cBadDomain cBadCell cOutside cDomain cNumbers cWords) := ⟨_, _, O6, b6, k6, PySem.W.mg_of X G a6⟩
  have O18 := ok_law_part (P := l.prog) (w := w) (base := base) F18 bl (C_law_pair.mono (by decide))
  have C_law_part : Callee l.prog w K mg base 2 "_law_part" ["cell", "low", "high"] (sp_law_part K cTableError cBadNumber cBadDomain cBadCell cOutside cDomain cNumbers cWords) := ⟨_, _, O18, b18, k18, PySem.W.mg_of X G a18⟩
  have O24 := ok_Numbers___init___Numbers (P := l.prog) (w := w) (base := base) F24 bl (B_Domain___init___Numbers.mono (by decide))
  have K_Numbers___init___Numbers : MkCallee (CX1 l.prog w) l.prog w K mg base 2 "Numbers" cNumbers ["self", "low", "high"] (sp_Numbers___init___Numbers K cTableError cBadNumber cBadDomain cBadCell cOutside cDomain cNumbers cWords) := ⟨_, _, ⟨im24, i24, if24, ik24⟩, O24, b24, PySem.W.mg_of X G n_Numbers⟩
  have O30 := ok_Domain_has_code_Numbers (P := l.prog) (w := w) (base := base) F30 bl (C_is_whole.mono (by decide))
  have M_Domain_has_code_Numbers : MCallee CX0 l.prog w K mg base 2 cNumbers "has_code" ["self", "value"] (sp_Domain_has_code_Numbers K cTableError cBadNumber cBadDomain cBadCell cOutside cDomain cNumbers cWords) := ⟨_, _, ⟨m30, mf30, k30⟩, O30, b30⟩
  have O2 := ok_number_of (P := l.prog) (w := w) (base := base) F2 bl (C_is_number.mono (by decide))
  have C_number_of : CalleeX l.prog w K mg base 3 "number_of" ["text"] (sp_number_of K cTableError cBadNumber cBadDomain cBadCell cOutside cDomain cNumbers cWords) := ⟨_, _, O2, b2, k2, PySem.W.mg_of X G a2⟩
  have O29 := ok_Numbers_bears_Numbers (P := l.prog) (w := w) (base := base) F29 bl (M_Domain_has_code_Numbers.mono (by decide))
  have M_Numbers_bears_Numbers : MCallee CX0 l.prog w K mg base 3 cNumbers "bears" ["self", "value"] (sp_Numbers_bears_Numbers K cTableError cBadNumber cBadDomain cBadCell cOutside cDomain cNumbers cWords) := ⟨_, _, ⟨m29, mf29, k29⟩, O29, b29⟩
  have O27 := ok_Domain_code_Numbers (P := l.prog) (w := w) (base := base) F27 bl (M_Numbers_borne_code_Numbers.mono (by decide)) (M_Numbers_bears_Numbers.mono (by decide))
  have M_Domain_code_Numbers : MCallee (CX1 l.prog w) l.prog w K mg base 4 cNumbers "code" ["self", "value"] (sp_Domain_code_Numbers K cTableError cBadNumber cBadDomain cBadCell cOutside cDomain cNumbers cWords) := ⟨_, _, ⟨m27, mf27, k27⟩, O27, b27⟩
  have O13 := ok_read_value (P := l.prog) (w := w) (base := base) F13 bl (M_Domain_code_Numbers.mono (by decide)) (C_number_of.mono (by decide))
  have C_read_value : CalleeX l.prog w K mg base 5 "read_value" ["domain", "text"] (sp_read_value K cTableError cBadNumber cBadDomain cBadCell cOutside cDomain cNumbers cWords) := ⟨_, _, O13, b13, k13, PySem.W.mg_of X G a13⟩
  have O12 := ok_code_in_cell (P := l.prog) (w := w) (base := base) F12 bl (C_read_value.mono (by decide))
  have C_code_in_cell : CalleeX l.prog w K mg base 6 "code_in_cell" ["domain", "text"] (sp_code_in_cell K cTableError cBadNumber cBadDomain cBadCell cOutside cDomain cNumbers cWords) := ⟨_, _, O12, b12, k12, PySem.W.mg_of X G a12⟩
  have O11 := ok_read_range (P := l.prog) (w := w) (base := base) F11 bl (C_code_in_cell.mono (by decide))
  have C_read_range : CalleeX l.prog w K mg base 7 "read_range" ["domain", "part"] (sp_read_range K cTableError cBadNumber cBadDomain cBadCell cOutside cDomain cNumbers cWords) := ⟨_, _, O11, b11, k11, PySem.W.mg_of X G a11⟩
  have O10 := ok_read_part (P := l.prog) (w := w) (base := base) F10 bl (C_code_in_cell.mono (by decide)) (C_read_range.mono (by decide))
  have C_read_part : CalleeX l.prog w K mg base 8 "read_part" ["domain", "part"] (sp_read_part K cTableError cBadNumber cBadDomain cBadCell cOutside cDomain cNumbers cWords) := ⟨_, _, O10, b10, k10, PySem.W.mg_of X G a10⟩
  have O9 := ok_read_set (P := l.prog) (w := w) (base := base) F9 bl (C_tidy.mono (by decide)) (M_Domain_whole_Numbers.mono (by decide)) (C_read_part.mono (by decide))
  have C_read_set : CalleeX l.prog w K mg base 9 "read_set" ["domain", "text"] (sp_read_set K cTableError cBadNumber cBadDomain cBadCell cOutside cDomain cNumbers cWords) := ⟨_, _, O9, b9, k9, PySem.W.mg_of X G a9⟩
  have O8 := ok_read_cell (P := l.prog) (w := w) (base := base) F8 bl (C_read_set.mono (by decide)) (C_without.mono (by decide)) (M_Domain_whole_Numbers.mono (by decide))
  have C_read_cell : CalleeX l.prog w K mg base 10 "read_cell" ["domain", "text"] (sp_read_cell K cTableError cBadNumber cBadDomain cBadCell cOutside cDomain cNumbers cWords) := ⟨_, _, O8, b8, k8, PySem.W.mg_of X G a8⟩
  have O23 := ok_law_refused (P := l.prog) (w := w) (base := base) F23 bl (C_read_cell.mono (by decide))
  have C_law_refused : Callee l.prog w K mg base 11 "_law_refused" ["domain", "text"] (sp_law_refused K cTableError cBadNumber cBadDomain cBadCell cOutside cDomain cNumbers cWords) := ⟨_, _, O23, b23, k23, PySem.W.mg_of X G a23⟩
  exact ok_law F31 bl (C_law_low.mono (by decide)) (C_law_high.mono (by decide)) (C_law_cell_at.mono (by decide)) (K_Numbers___init___Numbers.mono (by decide)) (C_law_merged.mono (by decide)) (C_read_cell.mono (by decide)) (C_law_alike.mono (by decide)) (C_law_part.mono (by decide)) (C_law_odd.mono (by decide)) (C_law_others.mono (by decide)) (C_law_refused.mono (by decide)) (C_law_pair.mono (by decide))
theorem walk {l : PySem.W.OpenLaw} {q : Program} {loose : List Str} {XP : (Str → Option Value) → Heap → Prop} {YP : World → Heap → Prop} {d : DefRec} {K : Params → PySem.W.Frag} (hn : l.most = some 63) (hdf : d.params.defaults = [])
    (hY : ∀ (w : World) (h : Heap), YP w h → (K w.params).In h)
    (F : ∀ (w : World) (mg : Str → Option Value) (fa : Addr) (h : Heap), (K w.params).In h → h.Ns mainGlobals mg → mg d.name = some (.ref fa) →
      ∃ fd : FuncData, (∀ (s : Shared) (u : Value), BindsTo s fd ⟨[u], []⟩ [("script", u)]) ∧ ∀ base : Heap, (K w.params).In base → base.Ns mainGlobals mg → FnOk l.prog w (K w.params) mg base CX0 12 fa fd ["script"] (sp_law (K w.params))) :
    PySem.W.WalkO q loose XP YP l.row.toRowW d [] (fun f vs => PySem.call f vs) :=
  L2.walk_ofB (n := 63) (k := 12) (x := "script") (CX := fun _ => CX0) (sp := fun w => sp_law (K w.params)) hn (by decide) hdf ⟨rfl, by decide, by decide⟩ hY F (fun _ _ a ns hl hb _ hS => ⟨a, ns, rfl, hS, hl, hb, fun _ => rfl⟩) fun _ _ _ _ _ z => z
end My
def PySem.W.Fast.tw1702314378111980325 : Unit := ()
def PySem.W.Fast.tw3908732693413781021 : Unit := ()
def PySem.W.Fast.tw11689653270257484579 : Unit := ()
def PySem.W.Fast.tw14396713220447280346 : Unit := ()
def PySem.W.Fast.tw16229255417919297849 : Unit := ()
def PySem.W.Fast.tw5181690514381523329 : Unit := ()
def PySem.W.Fast.tw2764237488536236452 : Unit := ()
def PySem.W.Fast.tw4870162144765471630 : Unit := ()
def PySem.W.Fast.tw12278658903490812683 : Unit := ()
def PySem.W.Fast.tw17596631382452441077 : Unit := ()
def PySem.W.Fast.tw5301757049681597061 : Unit := ()
def PySem.W.Fast.tw8337999212393120765 : Unit := ()
def PySem.W.Fast.tw5551721147586024045 : Unit := ()
def PySem.W.Fast.tw14601415951568097142 : Unit := ()
def PySem.W.Fast.tw5010448991958555877 : Unit := ()
def PySem.W.Fast.tw12700371580381409082 : Unit := ()
def PySem.W.Fast.tw17718634745366692306 : Unit := ()
def PySem.W.Fast.tw6631369261812213297 : Unit := ()
def PySem.W.Fast.tw4077181716860384541 : Unit := ()
def PySem.W.Fast.tw18069331394443171550 : Unit := ()
def PySem.W.Fast.tw6674178194440680070 : Unit := ()
def PySem.W.Fast.tw17878581916709048022 : Unit := ()
def PySem.W.Fast.tw5139236963432851961 : Unit := ()
def PySem.W.Fast.tw1819385992252289736 : Unit := ()
def PySem.W.Fast.tw6403276429375665908 : Unit := ()
def PySem.W.Fast.tw11654841948088184425 : Unit := ()
def PySem.W.Fast.tw5285348095309072057 : Unit := ()
def PySem.W.Fast.tw12927542193886203680 : Unit := ()
def PySem.W.Fast.tw3656701513243902654 : Unit := ()
def PySem.W.Fast.tw7268382596831676885 : Unit := ()
def PySem.W.Fast.tw7780126735065110094 : Unit := ()
def PySem.W.Fast.tw3020432579364373534 : Unit := ()
def PySem.W.Fast.tw7911843628500170928 : Unit := ()
def PySem.W.Fast.tw6296796744972054393 : Unit := ()
def PySem.W.Fast.tw18092122660238538385 : Unit := ()
def PySem.W.Fast.tw7034598900232266842 : Unit := ()
def PySem.W.Fast.tw1697568375801090066 : Unit := ()
def PySem.W.Fast.tw7581271611159509397 : Unit := ()
def PySem.W.Fast.tw9794067081947556009 : Unit := ()
def PySem.W.Fast.tw7889598757969913539 : Unit := ()
def PySem.W.Fast.tw7004171100978613296 : Unit := ()
def PySem.W.Fast.tw5072293628544247748 : Unit := ()
def PySem.W.Fast.tw15251105145498662048 : Unit := ()
def PySem.W.Fast.tw1075820063527461903 : Unit := ()
def PySem.W.Fast.tw8408929966520224481 : Unit := ()
def PySem.W.Fast.tw4974318603624192552 : Unit := ()
def PySem.W.Fast.tw14867932469199036489 : Unit := ()
def PySem.W.Fast.tw2976733860639987760 : Unit := ()
def PySem.W.Fast.tw1510336149626377 : Unit := ()
def PySem.W.Fast.tw7406133288055252200 : Unit := ()
def PySem.W.Fast.tw18386094603677278576 : Unit := ()
def PySem.W.Fast.tw16285956103360491041 : Unit := ()
def PySem.W.Fast.tw8324609141281624183 : Unit := ()
def PySem.W.Fast.tw1411018931331184583 : Unit := ()
def PySem.W.Fast.tw12450945521330166113 : Unit := ()
def PySem.W.Fast.tw4377311746213936485 : Unit := ()
def PySem.W.Fast.tw17516438557881281853 : Unit := ()
def PySem.W.Fast.tw16629891406169112125 : Unit := ()
def PySem.W.Fast.tw4675051656139146385 : Unit := ()
def PySem.W.Fast.tw4280566531028615061 : Unit := ()
def PySem.W.Fast.tw17347304897438803076 : Unit := ()
def PySem.W.Fast.tw6571045978606928398 : Unit := ()
def PySem.W.Fast.tw16924887964171754790 : Unit := ()
def PySem.W.Fast.tw11408195129389251702 : Unit := ()
def PySem.W.Fast.tw5496732848514469778 : Unit := ()
def PySem.W.Fast.tw6549292398898132475 : Unit := ()
def PySem.W.Fast.tw11788122268925298948 : Unit := ()
def PySem.W.Fast.tw6845005456766564104 : Unit := ()
def PySem.W.Fast.tw15042121802854162439 : Unit := ()
def PySem.W.Fast.tw5982274384680475455 : Unit := ()
def PySem.W.Fast.tw18165820678465528415 : Unit := ()
def PySem.W.Fast.tw9301345241956107061 : Unit := ()
def PySem.W.Fast.tw1870965405279513130 : Unit := ()
def PySem.W.Fast.tw15963782628188912837 : Unit := ()
def PySem.W.Fast.tw4482595401767293246 : Unit := ()
def PySem.W.Fast.tw1958095580922158610 : Unit := ()
def PySem.W.Fast.tw16189157783496761284 : Unit := ()
def PySem.W.Fast.tw7959428879577401925 : Unit := ()
def PySem.W.Fast.tw12021453840580978937 : Unit := ()
def PySem.W.Fast.tw11155851678610973928 : Unit := ()
def PySem.W.Fast.tw5960857160004573841 : Unit := ()
def PySem.W.Fast.tw18355577966075199511 : Unit := ()
def PySem.W.Fast.tw5368885872136674563 : Unit := ()
def PySem.W.Fast.tw2350174541230415139 : Unit := ()
def PySem.W.Fast.tw13605367048391796575 : Unit := ()
def PySem.W.Fast.tw16458153226301873680 : Unit := ()
def PySem.W.Fast.tw6827529643746878104 : Unit := ()
def PySem.W.Fast.tw16081533600928107268 : Unit := ()
def PySem.W.Fast.tw7093547448189185127 : Unit := ()
def PySem.W.Fast.tw14748442943935789768 : Unit := ()
def PySem.W.Fast.tw10899351159008407956 : Unit := ()
def PySem.W.Fast.tw617603670102837747 : Unit := ()
def PySem.W.Fast.tw17905103830691476027 : Unit := ()
def PySem.W.Fast.tw1110521981638388847 : Unit := ()
def PySem.W.Fast.tw17733958025392551681 : Unit := ()
def PySem.W.Fast.tw9780652594230640550 : Unit := ()
def PySem.W.Fast.tw15990212413219869480 : Unit := ()
def PySem.W.Fast.tw7598305120202154296 : Unit := ()
def PySem.W.Fast.tw11073097051003811537 : Unit := ()
def PySem.W.Fast.tw14280498091733251428 : Unit := ()
def PySem.W.Fast.tw12511423521280558457 : Unit := ()
def PySem.W.Fast.tw3065578901519248620 : Unit := ()
def PySem.W.Fast.tw8145950224390486087 : Unit := ()
def PySem.W.Fast.tw12008497597894627054 : Unit := ()
def PySem.W.Fast.tw1760896160173059538 : Unit := ()
def PySem.W.Fast.tw9027302936813063157 : Unit := ()
def PySem.W.Fast.tw8499444345485566643 : Unit := ()
def PySem.W.Fast.tw11125604104460151280 : Unit := ()
def PySem.W.Fast.tw4944067037849297470 : Unit := ()
def PySem.W.Fast.tw10769876942077376023 : Unit := ()
def PySem.W.Fast.tw16240297569247982135 : Unit := ()
def PySem.W.Fast.tw9861311887880446282 : Unit := ()
def PySem.W.Fast.tw8783800882109652654 : Unit := ()
def PySem.W.Fast.tw15009940984406605338 : Unit := ()
def PySem.W.Fast.tw16474242108601582914 : Unit := ()
def PySem.W.Fast.tw7716960603641976304 : Unit := ()
def PySem.W.Fast.tw494471560996630421 : Unit := ()
def PySem.W.Fast.tw2096477166318117859 : Unit := ()
def PySem.W.Fast.tw2401451860764271351 : Unit := ()
def PySem.W.Fast.tw4356710593182718776 : Unit := ()
def PySem.W.Fast.tw9848519269868321983 : Unit := ()
def PySem.W.Fast.tw4436376237691901921 : Unit := ()
def PySem.W.Fast.tw10248752786198119373 : Unit := ()
def PySem.W.Fast.tw6458922208731741334 : Unit := ()
def PySem.W.Fast.tw14325915147438150507 : Unit := ()
def PySem.W.Fast.tw16714154224719898668 : Unit := ()
def PySem.W.Fast.tw8019972952599589752 : Unit := ()
def PySem.W.Fast.tw11959789685822686586 : Unit := ()
def PySem.W.Fast.tw16079173108965054168 : Unit := ()
def PySem.W.Fast.tw8988490456384635369 : Unit := ()
def PySem.W.Fast.tw9065250939046813318 : Unit := ()
def PySem.W.Fast.tw426286425072264409 : Unit := ()
def PySem.W.Fast.tw8744974182309672420 : Unit := ()
def PySem.W.Fast.tw10723391051689445484 : Unit := ()
def PySem.W.Fast.tw4324951209151885874 : Unit := ()
def PySem.W.Fast.tw14424414637030705851 : Unit := ()
def PySem.W.Fast.tw12922801052257166608 : Unit := ()
def PySem.W.Fast.tw12492266387387848301 : Unit := ()
def PySem.W.Fast.tw18382981512523953524 : Unit := ()
def PySem.W.Fast.tw10193708917449804958 : Unit := ()
def PySem.W.Fast.tw8511322191690363313 : Unit := ()
def PySem.W.Fast.tw3614733758620305205 : Unit := ()
def PySem.W.Fast.tw9327693915616478681 : Unit := ()
def PySem.W.Fast.tw14521070523366312735 : Unit := ()
def PySem.W.Fast.tw8567438434009633334 : Unit := ()
def PySem.W.Fast.tw10050584955871468850 : Unit := ()
def PySem.W.Fast.tw501469501186621093 : Unit := ()
def PySem.W.Fast.tw45333473208575780 : Unit := ()
def PySem.W.Fast.tw14253348071615744158 : Unit := ()
def PySem.W.Fast.tw15840412956570972932 : Unit := ()
def PySem.W.Fast.tw16549755902415587341 : Unit := ()
def PySem.W.Fast.tw256495173635909678 : Unit := ()
def PySem.W.Fast.tw610366997543277470 : Unit := ()
def PySem.W.Fast.tw7378844702770710613 : Unit := ()
def PySem.W.Fast.tw13646645734582837872 : Unit := ()
def PySem.W.Fast.tw1879225196273768701 : Unit := ()
def PySem.W.Fast.tw1474133137730999948 : Unit := ()
def PySem.W.Fast.tw5121426284761845384 : Unit := ()
def PySem.W.Fast.tw4470250557218475314 : Unit := ()
def PySem.W.Fast.tw9881231021150039487 : Unit := ()
def PySem.W.Fast.tw629570986379947344 : Unit := ()
def PySem.W.Fast.tw11137141462120817705 : Unit := ()
def PySem.W.Fast.tw8584686667883735107 : Unit := ()
def PySem.W.Fast.tw17248517263297514368 : Unit := ()
def PySem.W.Fast.tw2227522626110752628 : Unit := ()
def PySem.W.Fast.tw9502442155837328820 : Unit := ()
def PySem.W.Fast.tw12408775546895132870 : Unit := ()
def PySem.W.Fast.tw5038915203673523297 : Unit := ()
def PySem.W.Fast.tw9661402302815490395 : Unit := ()
def PySem.W.Fast.tw7268114939713114446 : Unit := ()
def PySem.W.Fast.tw7985020785374536708 : Unit := ()
def PySem.W.Fast.tw18109020071823851903 : Unit := ()
def PySem.W.Fast.tw5567751474044660027 : Unit := ()
def PySem.W.Fast.tw9382132097214250328 : Unit := ()
def PySem.W.Fast.tw10585209596012944663 : Unit := ()
def PySem.W.Fast.tw8059710410566579002 : Unit := ()
def PySem.W.Fast.tw4681082687376873621 : Unit := ()
def PySem.W.Fast.tw4782738118611626855 : Unit := ()
def PySem.W.Fast.tw1083636626689164527 : Unit := ()
def PySem.W.Fast.tw12057942983844120699 : Unit := ()
def PySem.W.Fast.tw2514917065846707185 : Unit := ()
def PySem.W.Fast.tw1652768446768687426 : Unit := ()
def PySem.W.Fast.tw3157958935189474178 : Unit := ()
def PySem.W.Fast.tw13122319865255481507 : Unit := ()
def PySem.W.Fast.tw15762733248009642741 : Unit := ()
def PySem.W.Fast.tw10144591554609217132 : Unit := ()
def PySem.W.Fast.tw473540802787565084 : Unit := ()
def PySem.W.Fast.tw10835232359914634894 : Unit := ()
def PySem.W.Fast.tw10931544841905796066 : Unit := ()
def PySem.W.Fast.tw14370019173215817001 : Unit := ()
def PySem.W.Fast.tw167292406578353529 : Unit := ()
def PySem.W.Fast.tw18256717265114643787 : Unit := ()
def PySem.W.Fast.tw6927162803010294086 : Unit := ()
def PySem.W.Fast.tw4693806687164150275 : Unit := ()
def PySem.W.Fast.tw7008973487103737824 : Unit := ()
def PySem.W.Fast.tw11840627761151617925 : Unit := ()
def PySem.W.Fast.tw7886225875262317839 : Unit := ()
def PySem.W.Fast.tw16449284662374606454 : Unit := ()
def PySem.W.Fast.tw8611065335994003577 : Unit := ()
def PySem.W.Fast.tw17416718294502665686 : Unit := ()
def PySem.W.Fast.tw5485495827890842249 : Unit := ()
def PySem.W.Fast.tw5465568389243187657 : Unit := ()
def PySem.W.Fast.tw15973554883498556164 : Unit := ()
def PySem.W.Fast.tw14999483335374343361 : Unit := ()
def PySem.W.Fast.tw8196639856985838110 : Unit := ()
def PySem.W.Fast.tw3485592985780067826 : Unit := ()
def PySem.W.Fast.tw18158863772401485906 : Unit := ()
def PySem.W.Fast.tw8359585586025684352 : Unit := ()
def PySem.W.Fast.tw15971905828157106776 : Unit := ()
def PySem.W.Fast.tw8851689901878414858 : Unit := ()
def PySem.W.Fast.tw3383362627788913821 : Unit := ()
def PySem.W.Fast.tw16914658610483136720 : Unit := ()
def PySem.W.Fast.tw2414273762943160758 : Unit := ()
def PySem.W.Fast.tw12316638790883111525 : Unit := ()
def PySem.W.Fast.tw4227022696689475148 : Unit := ()
def PySem.W.Fast.tw17402110022552110052 : Unit := ()
def PySem.W.Fast.tw6146594402817104037 : Unit := ()
def PySem.W.Fast.tw9074380700147443584 : Unit := ()
def PySem.W.Fast.tw2842166651384013273 : Unit := ()
def PySem.W.Fast.tw414608951932545874 : Unit := ()
def PySem.W.Fast.tw7124895035751845613 : Unit := ()
def PySem.W.Fast.tw5228534183240609875 : Unit := ()
def PySem.W.Fast.tw4175048046705619792 : Unit := ()
def PySem.W.Fast.tw10574517910134635486 : Unit := ()
def PySem.W.Fast.tw9651191538453695577 : Unit := ()
def PySem.W.Fast.tw5762944903354400036 : Unit := ()
def PySem.W.Fast.tw3600996998428159735 : Unit := ()
def PySem.W.Fast.tw5814398145936298435 : Unit := ()
def PySem.W.Fast.tw15117175608657999728 : Unit := ()
def PySem.W.Fast.tw1884811822657344366 : Unit := ()
def PySem.W.Fast.tw1127077875798252933 : Unit := ()
def PySem.W.Fast.tw5330439616852410576 : Unit := ()
def PySem.W.Fast.tw4456717094030648869 : Unit := ()
def PySem.W.Fast.tw14457902352366375044 : Unit := ()
def PySem.W.Fast.tw6512880369714671952 : Unit := ()
def PySem.W.Fast.tw7747357825227478088 : Unit := ()
def PySem.W.Fast.tw10603521812534450909 : Unit := ()
def PySem.W.Fast.tw9883538230517283243 : Unit := ()
def PySem.W.Fast.tw1820855176092835298 : Unit := ()
def PySem.W.Fast.tw685619849735090980 : Unit := ()
def PySem.W.Fast.tw10664231647610097823 : Unit := ()
def PySem.W.Fast.tw5493567035857575561 : Unit := ()
def PySem.W.Fast.tw14619232864869494043 : Unit := ()
def PySem.W.Fast.tw16963454887318086937 : Unit := ()
def PySem.W.Fast.tw11798354836939718673 : Unit := ()
def PySem.W.Fast.tw1860352771725454239 : Unit := ()
def PySem.W.Fast.tw17475032808875624358 : Unit := ()
def PySem.W.Fast.tw4335235748565376099 : Unit := ()
def PySem.W.Fast.tw6019424781244509939 : Unit := ()
def PySem.W.Fast.tw17197442897627210253 : Unit := ()
def PySem.W.Fast.tw14886310515467150960 : Unit := ()
def PySem.W.Fast.tw4993167283274858835 : Unit := ()
def PySem.W.Fast.tw10386169513992175123 : Unit := ()
def PySem.W.Fast.tw11889275373781913209 : Unit := ()
def PySem.W.Fast.tw6960943594509403465 : Unit := ()
def PySem.W.Fast.tw14627842294990560049 : Unit := ()
def PySem.W.Fast.tw14663110022016602896 : Unit := ()
def PySem.W.Fast.tw11391709294838742442 : Unit := ()
def PySem.W.Fast.tw9420118260166638517 : Unit := ()
def PySem.W.Fast.tw7927391552421670156 : Unit := ()
def PySem.W.Fast.tw15707454670473073180 : Unit := ()
def PySem.W.Fast.tw8642526292951385309 : Unit := ()
def PySem.W.Fast.tw3420055892883167976 : Unit := ()
def PySem.W.Fast.tw15198800731112474568 : Unit := ()
def PySem.W.Fast.tw5565853690435501303 : Unit := ()
def PySem.W.Fast.tw14998567693679309943 : Unit := ()
def PySem.W.Fast.tw11891204469527421254 : Unit := ()
def PySem.W.Fast.tw16788879902443564931 : Unit := ()
def PySem.W.Fast.tw10093610251098016043 : Unit := ()
def PySem.W.Fast.tw922797678795889069 : Unit := ()
def PySem.W.Fast.tw8801120805258216103 : Unit := ()
def PySem.W.Fast.tw10335242844300397166 : Unit := ()
def PySem.W.Fast.tw17081562655479533088 : Unit := ()
def PySem.W.Fast.tw5537312558232240463 : Unit := ()
def PySem.W.Fast.tw12004643104709411768 : Unit := ()
def PySem.W.Fast.tw3504959540387690910 : Unit := ()
def PySem.W.Fast.tw1241191544989596758 : Unit := ()
def PySem.W.Fast.tw15287279640822455745 : Unit := ()
def PySem.W.Fast.tw16816589979695450662 : Unit := ()
def PySem.W.Fast.tw17285490325827458833 : Unit := ()
def PySem.W.Fast.tw3649272885142824253 : Unit := ()
def PySem.W.Fast.tw7327596912809897125 : Unit := ()
def PySem.W.Fast.tw11099314746170881236 : Unit := ()
def PySem.W.Fast.tw15532268103565044339 : Unit := ()
def PySem.W.Fast.tw17543695576178350352 : Unit := ()
def PySem.W.Fast.tw1772418853185192642 : Unit := ()
def PySem.W.Fast.tw10755218223217949648 : Unit := ()
def PySem.W.Fast.tw13041881048191979944 : Unit := ()
def PySem.W.Fast.tw3618643922297292115 : Unit := ()
def PySem.W.Fast.tw14727685979944263667 : Unit := ()
def PySem.W.Fast.tw13870034999965498284 : Unit := ()
def PySem.W.Fast.tw12643294113033955305 : Unit := ()
def PySem.W.Fast.tw10333630584157727888 : Unit := ()
def PySem.W.Fast.tw6224064181528444530 : Unit := ()
def PySem.W.Fast.tw7113830746320484536 : Unit := ()
def PySem.W.Fast.tw9953192304447798851 : Unit := ()
def PySem.W.Fast.tw7972551351834735157 : Unit := ()
def PySem.W.Fast.tw14919396664505345886 : Unit := ()
def PySem.W.Fast.tw17726335818334450531 : Unit := ()
def PySem.W.Fast.tw12859277725662828608 : Unit := ()
def PySem.W.Fast.tw4611956598436139503 : Unit := ()
def PySem.W.Fast.tw17650792544097809301 : Unit := ()
def PySem.W.Fast.tw9578192402021870847 : Unit := ()
def PySem.W.Fast.tw16861779475512191848 : Unit := ()
def PySem.W.Fast.tw17104723892429893248 : Unit := ()
def PySem.W.Fast.tw18237894707505747943 : Unit := ()
def PySem.W.Fast.tw3039354891764792891 : Unit := ()
def PySem.W.Fast.tw3129684648461847361 : Unit := ()
def PySem.W.Fast.tw12910787221135822755 : Unit := ()
def PySem.W.Fast.tw16359887076631315257 : Unit := ()
def PySem.W.Fast.tw12065914380673066983 : Unit := ()
def PySem.W.Fast.tw6667669220891169304 : Unit := ()
def PySem.W.Fast.tw11932435016313689567 : Unit := ()
def PySem.W.Fast.tw8940433991949879664 : Unit := ()
def PySem.W.Fast.tw10436555957666705642 : Unit := ()
def PySem.W.Fast.tw2800594450232348128 : Unit := ()
def PySem.W.Fast.tw1253307174960162520 : Unit := ()
def PySem.W.Fast.tw10239992830004601069 : Unit := ()
def PySem.W.Fast.tw16131243861473501675 : Unit := ()
def PySem.W.Fast.tw16882372644395640544 : Unit := ()
def PySem.W.Fast.tw14487466724072216483 : Unit := ()
def PySem.W.Fast.tw5741591695753930488 : Unit := ()
def PySem.W.Fast.tw540706478094759691 : Unit := ()
def PySem.W.Fast.tw4690415851672758565 : Unit := ()
def PySem.W.Fast.tw7821617637856392215 : Unit := ()
def PySem.W.Fast.tw471302104604248550 : Unit := ()
def PySem.W.Fast.tw2834425931885518258 : Unit := ()
def PySem.W.Fast.tw6896037337915274471 : Unit := ()
def PySem.W.Fast.tw10015043671378813532 : Unit := ()
def PySem.W.Fast.tw2245622312420817939 : Unit := ()
def PySem.W.Fast.tw8411080641018849849 : Unit := ()
def PySem.W.Fast.tw2127253152433962624 : Unit := ()
def PySem.W.Fast.tw17476348546841751619 : Unit := ()
def PySem.W.Fast.tw8496264469806534408 : Unit := ()
def PySem.W.Fast.tw12989552025076270852 : Unit := ()
def PySem.W.Fast.tw2577397859995138577 : Unit := ()
def PySem.W.Fast.tw8263261176155458559 : Unit := ()
def PySem.W.Fast.tw5634684576190987302 : Unit := ()
def PySem.W.Fast.tw16916714301253313029 : Unit := ()
def PySem.W.Fast.tw3771081068339213212 : Unit := ()
def PySem.W.Fast.tw14508744069630328158 : Unit := ()
def PySem.W.Fast.tw17367214293075695088 : Unit := ()
def PySem.W.Fast.tw12702808126961923803 : Unit := ()
def PySem.W.Fast.tw7592966677705404622 : Unit := ()
def PySem.W.Fast.tw13525270941439492324 : Unit := ()
def PySem.W.Fast.tw6181733338303856753 : Unit := ()
def PySem.W.Fast.tw17791537427716074353 : Unit := ()
def PySem.W.Fast.tw8368973796838506356 : Unit := ()
def PySem.W.Fast.tw983938970184014302 : Unit := ()
def PySem.W.Fast.tw6115084455311809136 : Unit := ()
def PySem.W.Fast.tw15675949064736277005 : Unit := ()
def PySem.W.Fast.tw4548308334851166610 : Unit := ()
def PySem.W.Fast.tw15581312014663359777 : Unit := ()
def PySem.W.Fast.tw11190454839668938286 : Unit := ()
def PySem.W.Fast.tw17199575708194570306 : Unit := ()
def PySem.W.Fast.tw3910978343021394840 : Unit := ()
def PySem.W.Fast.tw18348362664849750475 : Unit := ()
def PySem.W.Fast.tw6153636540643367888 : Unit := ()
def PySem.W.Fast.tw4195627196086676778 : Unit := ()
def PySem.W.Fast.tw12162643569775186538 : Unit := ()
def PySem.W.Fast.tw8508699735753454613 : Unit := ()
def PySem.W.Fast.tw18098565537079956523 : Unit := ()
def PySem.W.Fast.tw11665097646622169165 : Unit := ()
def PySem.W.Fast.tw2641774225769889463 : Unit := ()
def PySem.W.Fast.tw14483132837255040325 : Unit := ()
def PySem.W.Fast.tw4943436953861682670 : Unit := ()
def PySem.W.Fast.tw1703981943827393808 : Unit := ()
def PySem.W.Fast.tw9630588064071712359 : Unit := ()
def PySem.W.Fast.tw3654457983457784388 : Unit := ()
def PySem.W.Fast.tw342635278718285621 : Unit := ()
def PySem.W.Fast.tw14862823499083698919 : Unit := ()
def PySem.W.Fast.tw13414752460047633293 : Unit := ()
def PySem.W.Fast.tw3418703602071211840 : Unit := ()
def PySem.W.Fast.tw11042575286328896624 : Unit := ()
def PySem.W.Fast.tw14370909484791526298 : Unit := ()
def PySem.W.Fast.tw3067455577976557059 : Unit := ()
def PySem.W.Fast.tw14234829990979295607 : Unit := ()
def PySem.W.Fast.tw13833934670626642087 : Unit := ()
def PySem.W.Fast.tw14943657172947964494 : Unit := ()
def PySem.W.Fast.tw17107452549719470854 : Unit := ()
def PySem.W.Fast.tw2085773195443827831 : Unit := ()
def PySem.W.Fast.tw1227828061264390285 : Unit := ()
def PySem.W.Fast.tw10094648421397491697 : Unit := ()
def PySem.W.Fast.tw7829217823984164874 : Unit := ()
def PySem.W.Fast.tw6991959034236903687 : Unit := ()
def PySem.W.Fast.tw6542356320787295046 : Unit := ()
def PySem.W.Fast.tw4963256803823027614 : Unit := ()
def PySem.W.Fast.tw17448665564386437628 : Unit := ()
def PySem.W.Fast.tw2258655032822849191 : Unit := ()
def PySem.W.Fast.tw15233635473190853897 : Unit := ()
def PySem.W.Fast.tw1309411278119889589 : Unit := ()
def PySem.W.Fast.tw16378322466054268266 : Unit := ()
def PySem.W.Fast.tw17131577369761042526 : Unit := ()
def PySem.W.Fast.tw15089440248865759457 : Unit := ()
def PySem.W.Fast.tw13254835923608439792 : Unit := ()
def PySem.W.Fast.tw15118530517036006165 : Unit := ()
def PySem.W.Fast.tw15785588017569654011 : Unit := ()
def PySem.W.Fast.tw11415737423852037057 : Unit := ()
def PySem.W.Fast.tw16636628228724129161 : Unit := ()
def PySem.W.Fast.tw16033981440689633890 : Unit := ()
def PySem.W.Fast.tw12232619015770505069 : Unit := ()
def PySem.W.Fast.tw10934572150254538886 : Unit := ()
def PySem.W.Fast.tw5553052139269570738 : Unit := ()
def PySem.W.Fast.tw10010511276375441304 : Unit := ()
def PySem.W.Fast.tw11381053834791331254 : Unit := ()
def PySem.W.Fast.tw3703395938618078207 : Unit := ()
def PySem.W.Fast.tw17883734220284039164 : Unit := ()
def PySem.W.Fast.tw13373084562639621274 : Unit := ()
def PySem.W.Fast.tw5105088989751579934 : Unit := ()
def PySem.W.Fast.tw15501893234232121189 : Unit := ()
def PySem.W.Fast.tw11380090780813533185 : Unit := ()
def PySem.W.Fast.tw6966683492029182684 : Unit := ()
def PySem.W.Fast.tw18014308053401810052 : Unit := ()
def PySem.W.Fast.tw197756547080373277 : Unit := ()
def PySem.W.Fast.tw18381584312953732706 : Unit := ()
def PySem.W.Fast.tw576057725381842036 : Unit := ()
def PySem.W.Fast.tw3140553990450654370 : Unit := ()
def PySem.W.Fast.tw12208346135052519305 : Unit := ()
def PySem.W.Fast.tw8622939815642682497 : Unit := ()
def PySem.W.Fast.tw16203300608121057886 : Unit := ()
def PySem.W.Fast.tw604816052448651495 : Unit := ()
def PySem.W.Fast.tw2744750442547692945 : Unit := ()
def PySem.W.Fast.tw10477305357007705967 : Unit := ()
def PySem.W.Fast.tw6980976246255791070 : Unit := ()
def PySem.W.Fast.tw14585146955349158275 : Unit := ()
def PySem.W.Fast.tw16489967576779187134 : Unit := ()
def PySem.W.Fast.tw5074226370214197215 : Unit := ()
def PySem.W.Fast.tw6120193901724686707 : Unit := ()
def PySem.W.Fast.tw10200356823401201015 : Unit := ()
def PySem.W.Fast.tw13325074930182516343 : Unit := ()
def PySem.W.Fast.tw2123153548675677706 : Unit := ()
def PySem.W.Fast.tw6910368560838409355 : Unit := ()
def PySem.W.Fast.tw14356872772063899944 : Unit := ()
def PySem.W.Fast.tw12735944529772817094 : Unit := ()
def PySem.W.Fast.tw4953603092867685057 : Unit := ()
def PySem.W.Fast.tw4128531006526667608 : Unit := ()
def PySem.W.Fast.tw7524882099547337005 : Unit := ()
def PySem.W.Fast.tw10328366876864485432 : Unit := ()
def PySem.W.Fast.tw4052166093251653960 : Unit := ()
def PySem.W.Fast.tw15763603541953585631 : Unit := ()
def PySem.W.Fast.tw5612164355455127792 : Unit := ()
def PySem.W.Fast.tw3599448547530898027 : Unit := ()
def PySem.W.Fast.tw10290073746203914027 : Unit := ()
def PySem.W.Fast.tw471970476443766435 : Unit := ()
def PySem.W.Fast.tw10641588340898848394 : Unit := ()
def PySem.W.Fast.tw6865438728256391769 : Unit := ()
def PySem.W.Fast.tw6259115237080297080 : Unit := ()
def PySem.W.Fast.tw13589581743755721923 : Unit := ()
def PySem.W.Fast.tw5369133093478660144 : Unit := ()
def PySem.W.Fast.tw11786325331006110018 : Unit := ()
def PySem.W.Fast.tw633880886829084892 : Unit := ()
def PySem.W.Fast.tw17411109228835678827 : Unit := ()
def PySem.W.Fast.tw2915669593901239836 : Unit := ()
def PySem.W.Fast.tw15443370727844425501 : Unit := ()
def PySem.W.Fast.tw13451097555466210079 : Unit := ()
def PySem.W.Fast.tw11470086335131518249 : Unit := ()
def PySem.W.Fast.tw17731011739945996421 : Unit := ()
def PySem.W.Fast.tw5212940532464827537 : Unit := ()
def PySem.W.Fast.tw5786814227720242181 : Unit := ()
def PySem.W.Fast.tw13373834575064008721 : Unit := ()
def PySem.W.Fast.tw568692898298007745 : Unit := ()
def PySem.W.Fast.tw768594378515432135 : Unit := ()
def PySem.W.Fast.tw5341975609184526913 : Unit := ()
def PySem.W.Fast.tw4839234455893581280 : Unit := ()
def PySem.W.Fast.tw1061772785525338077 : Unit := ()
def PySem.W.Fast.tw1927395812200415017 : Unit := ()
def PySem.W.Fast.tw17446260955392894402 : Unit := ()
def PySem.W.Fast.tw1212187788239390940 : Unit := ()
def PySem.W.Fast.tw5711694210827293089 : Unit := ()
def PySem.W.Fast.tw17238063665720362208 : Unit := ()
def PySem.W.Fast.tw6354859451965444172 : Unit := ()
def PySem.W.Fast.tw5280018653691296513 : Unit := ()
def PySem.W.Fast.tw10258536313923760997 : Unit := ()
def PySem.W.Fast.tw1582040044434227382 : Unit := ()
def PySem.W.Fast.tw7988326781883076379 : Unit := ()
def PySem.W.Fast.tw3297629190733165746 : Unit := ()
def PySem.W.Fast.tw3724148308751853828 : Unit := ()
def PySem.W.Fast.tw5729250575274902546 : Unit := ()
def PySem.W.Fast.tw13670693792570011456 : Unit := ()
def PySem.W.Fast.tw8562424108247169480 : Unit := ()
def PySem.W.Fast.tw11105756648105600124 : Unit := ()
def PySem.W.Fast.tw4765565387144519103 : Unit := ()
def PySem.W.Fast.tw9459644036807251397 : Unit := ()
def PySem.W.Fast.tw5484233381543056800 : Unit := ()
open PySem PySem.W PyProof.Rows
set_option maxRecDepth 100000 in
set_option maxHeartbeats 0 in
theorem PySem.Challenge.cw_rowjudge_k17_fields_of_numbers_holds : PySem.Challenge.rw_rowjudge_k17_fields_of_numbers.Holds := by
  w_on; o_law; k_head; (case hw => w_witness2)
  k_fill
  refine My.walk (l := PySem.Challenge.rw_rowjudge_k17_fields_of_numbers) rfl rfl (fun w h Y => PySem.W.kIn_of Y) ?F
  case F =>
    intro w mg fa h KX G hmg
    refine' My.all_mk KX G hmg ?n_TableError ?n_BadNumber ?n_BadDomain ?n_BadCell ?n_Outside ?n_Domain ?n_Numbers ?n_Words ?a0 ?l0 ?c0 ?k0 ?a1 ?l1 ?c1 ?k1 ?a2 ?l2 ?c2 ?k2 ?a3 ?l3 ?c3 ?k3 ?a4 ?l4 ?c4 ?k4 ?a5 ?l5 ?c5 ?k5 ?a6 ?l6 ?c6 ?k6 ?a7 ?l7 ?c7 ?k7 ?a8 ?l8 ?c8 ?k8 ?a9 ?l9 ?c9 ?k9 ?a10 ?l10 ?c10 ?k10 ?a11 ?l11 ?c11 ?k11 ?a12 ?l12 ?c12 ?k12 ?a13 ?l13 ?c13 ?k13 ?a14 ?l14 ?c14 ?k14 ?a15 ?l15 ?c15 ?k15 ?a16 ?l16 ?c16 ?k16 ?a17 ?l17 ?c17 ?k17 ?a18 ?l18 ?c18 ?k18 ?a19 ?l19 ?c19 ?k19 ?a20 ?l20 ?c20 ?k20 ?a21 ?l21 ?c21 ?k21 ?a22 ?l22 ?c22 ?k22 ?a23 ?l23 ?c23 ?k23 ?i24 ?if24 ?im24 ?ik24 ?l24 ?c24 ?k24 ?b_s25 ?b_r25 ?b_a25 ?l25 ?c25 ?k25 ?m26 ?mf26 ?l26 ?c26 ?k26 ?m27 ?mf27 ?l27 ?c27 ?k27 ?m28 ?mf28 ?l28 ?c28 ?k28 ?m29 ?mf29 ?l29 ?c29 ?k29 ?m30 ?mf30 ?l30 ?c30 ?k30 ?a31 ?l31 ?c31 ?k31 ?z0 ?z1 ?z2 ?z3 ?z4 ?z5 ?z6 ?z7 ?z8 ?z9 ?z10 ?z11 ?z12 ?y0 ?x0 ?y1 ?x1 ?y2 ?x2 ?y3 ?x3 ?y4 ?x4 ?x_BadNumber ?l0_BadNumber ?l1_BadNumber ?l2_BadNumber ?l3_BadNumber ?l4_BadNumber ?l5_BadNumber ?l6_BadNumber ?l7_BadNumber ?x_BadDomain ?l0_BadDomain ?l1_BadDomain ?l2_BadDomain ?l3_BadDomain ?l4_BadDomain ?l5_BadDomain ?l6_BadDomain ?l7_BadDomain ?x_BadCell ?l0_BadCell ?l1_BadCell ?l2_BadCell ?l3_BadCell ?l4_BadCell ?l5_BadCell ?l6_BadCell ?l7_BadCell ?x_Outside ?l0_Outside ?l1_Outside ?l2_Outside ?l3_Outside ?l4_Outside ?l5_Outside ?l6_Outside ?l7_Outside ?pg_Numbers ?hd_Numbers ?po_Numbers ?sa_Numbers ?ta_Numbers ?tn_Numbers ?tt_Numbers ?tm_Numbers ?na_Numbers_low ?na_Numbers_high ?f_nw ?f_x1 ?f_x2 ?f_c0 ?f_c1 ?f_c2 ?f_c3
    (case n_TableError => k_is)
    (case n_BadNumber => k_is)
    (case n_BadDomain => k_is)
    (case n_BadCell => k_is)
    (case n_Outside => k_is)
    (case n_Domain => k_is)
    (case n_Numbers => k_is)
    (case n_Words => k_is)
    (case a0 => k_is); (case l0 => k_is); (case c0 => k_is); (case k0 => k_is)
    (case a1 => k_is); (case l1 => k_is); (case c1 => k_is); (case k1 => k_is)
    (case a2 => k_is); (case l2 => k_is); (case c2 => k_is); (case k2 => k_is)
    (case a3 => k_is); (case l3 => k_is); (case c3 => k_is); (case k3 => k_is)
    (case a4 => k_is); (case l4 => k_is); (case c4 => k_is); (case k4 => k_is)
    (case a5 => k_is); (case l5 => k_is); (case c5 => k_is); (case k5 => k_is)
    (case a6 => k_is); (case l6 => k_is); (case c6 => k_is); (case k6 => k_is)
    (case a7 => k_is); (case l7 => k_is); (case c7 => k_is); (case k7 => k_is)
    (case a8 => k_is); (case l8 => k_is); (case c8 => k_is); (case k8 => k_is)
    (case a9 => k_is); (case l9 => k_is); (case c9 => k_is); (case k9 => k_is)
    (case a10 => k_is); (case l10 => k_is); (case c10 => k_is); (case k10 => k_is)
    (case a11 => k_is); (case l11 => k_is); (case c11 => k_is); (case k11 => k_is)
    (case a12 => k_is); (case l12 => k_is); (case c12 => k_is); (case k12 => k_is)
    (case a13 => k_is); (case l13 => k_is); (case c13 => k_is); (case k13 => k_is)
    (case a14 => k_is); (case l14 => k_is); (case c14 => k_is); (case k14 => k_is)
    (case a15 => k_is); (case l15 => k_is); (case c15 => k_is); (case k15 => k_is)
    (case a16 => k_is); (case l16 => k_is); (case c16 => k_is); (case k16 => k_is)
    (case a17 => k_is); (case l17 => k_is); (case c17 => k_is); (case k17 => k_is)
    (case a18 => k_is); (case l18 => k_is); (case c18 => k_is); (case k18 => k_is)
    (case a19 => k_is); (case l19 => k_is); (case c19 => k_is); (case k19 => k_is)
    (case a20 => k_is); (case l20 => k_is); (case c20 => k_is); (case k20 => k_is)
    (case a21 => k_is); (case l21 => k_is); (case c21 => k_is); (case k21 => k_is)
    (case a22 => k_is); (case l22 => k_is); (case c22 => k_is); (case k22 => k_is)
    (case a23 => k_is); (case l23 => k_is); (case c23 => k_is); (case k23 => k_is)
    (case i24 => k_is); (case if24 => k_is); (case im24 => k_is); (case ik24 => k_is); (case l24 => k_is); (case c24 => k_is); (case k24 => k_is)
    (case b_s25 => k_is); (case b_r25 => k_is); (case b_a25 => k_is); (case l25 => k_is); (case c25 => k_is); (case k25 => k_is)
    (case m26 => k_is); (case mf26 => k_is); (case l26 => k_is); (case c26 => k_is); (case k26 => k_is)
    (case m27 => k_is); (case mf27 => k_is); (case l27 => k_is); (case c27 => k_is); (case k27 => k_is)
    (case m28 => k_is); (case mf28 => k_is); (case l28 => k_is); (case c28 => k_is); (case k28 => k_is)
    (case m29 => k_is); (case mf29 => k_is); (case l29 => k_is); (case c29 => k_is); (case k29 => k_is)
    (case m30 => k_is); (case mf30 => k_is); (case l30 => k_is); (case c30 => k_is); (case k30 => k_is)
    (case a31 => k_is); (case l31 => k_is); (case c31 => k_is); (case k31 => k_is)
    (case z0 => k_is)
    (case z1 => k_is)
    (case z2 => k_is)
    (case z3 => k_is)
    (case z4 => k_is)
    (case z5 => k_is)
    (case z6 => k_is)
    (case z7 => k_is)
    (case z8 => k_is)
    (case z9 => k_is)
    (case z10 => k_is)
    (case z11 => k_is)
    (case z12 => k_is)
    (case y0 => k_is)
    (case x0 => exact ⟨_, rfl⟩)
    (case y1 => k_is)
    (case x1 => exact ⟨_, rfl⟩)
    (case y2 => k_is)
    (case x2 => exact ⟨_, rfl⟩)
    (case y3 => k_is)
    (case x3 => exact ⟨_, rfl⟩)
    (case y4 => k_is)
    (case x4 => exact ⟨_, rfl⟩)
    (case pg_Numbers => first | k_is | rfl | with_unfolding_all rfl)
    (case hd_Numbers => first | k_is | rfl | with_unfolding_all rfl)
    (case po_Numbers => first | k_is | rfl | with_unfolding_all rfl)
    (case sa_Numbers => first | k_is | rfl | with_unfolding_all rfl)
    (case ta_Numbers => first | k_is | rfl | with_unfolding_all rfl)
    (case tn_Numbers => first | k_is | rfl | with_unfolding_all rfl)
    (case tt_Numbers => first | k_is | rfl | with_unfolding_all rfl)
    (case tm_Numbers => first | k_is | rfl | with_unfolding_all rfl)
    (case na_Numbers_low => first | k_is | rfl | with_unfolding_all rfl)
    (case na_Numbers_high => first | k_is | rfl | with_unfolding_all rfl)
    (case x_BadNumber => first | rfl | with_unfolding_all rfl)
    (case l0_BadNumber => first | k_is | rfl | with_unfolding_all rfl)
    (case l1_BadNumber => first | k_is | rfl | with_unfolding_all rfl)
    (case l2_BadNumber => first | k_is | rfl | with_unfolding_all rfl)
    (case l3_BadNumber => first | k_is | rfl | with_unfolding_all rfl)
    (case l4_BadNumber => first | k_is | rfl | with_unfolding_all rfl)
    (case l5_BadNumber => first | k_is | rfl | with_unfolding_all rfl)
    (case l6_BadNumber => first | k_is | rfl | with_unfolding_all rfl)
    (case l7_BadNumber => first | k_is | rfl | with_unfolding_all rfl)
    (case x_BadDomain => first | rfl | with_unfolding_all rfl)
    (case l0_BadDomain => first | k_is | rfl | with_unfolding_all rfl)
    (case l1_BadDomain => first | k_is | rfl | with_unfolding_all rfl)
    (case l2_BadDomain => first | k_is | rfl | with_unfolding_all rfl)
    (case l3_BadDomain => first | k_is | rfl | with_unfolding_all rfl)
    (case l4_BadDomain => first | k_is | rfl | with_unfolding_all rfl)
    (case l5_BadDomain => first | k_is | rfl | with_unfolding_all rfl)
    (case l6_BadDomain => first | k_is | rfl | with_unfolding_all rfl)
    (case l7_BadDomain => first | k_is | rfl | with_unfolding_all rfl)
    (case x_BadCell => first | rfl | with_unfolding_all rfl)
    (case l0_BadCell => first | k_is | rfl | with_unfolding_all rfl)
    (case l1_BadCell => first | k_is | rfl | with_unfolding_all rfl)
    (case l2_BadCell => first | k_is | rfl | with_unfolding_all rfl)
    (case l3_BadCell => first | k_is | rfl | with_unfolding_all rfl)
    (case l4_BadCell => first | k_is | rfl | with_unfolding_all rfl)
    (case l5_BadCell => first | k_is | rfl | with_unfolding_all rfl)
    (case l6_BadCell => first | k_is | rfl | with_unfolding_all rfl)
    (case l7_BadCell => first | k_is | rfl | with_unfolding_all rfl)
    (case x_Outside => first | rfl | with_unfolding_all rfl)
    (case l0_Outside => first | k_is | rfl | with_unfolding_all rfl)
    (case l1_Outside => first | k_is | rfl | with_unfolding_all rfl)
    (case l2_Outside => first | k_is | rfl | with_unfolding_all rfl)
    (case l3_Outside => first | k_is | rfl | with_unfolding_all rfl)
    (case l4_Outside => first | k_is | rfl | with_unfolding_all rfl)
    (case l5_Outside => first | k_is | rfl | with_unfolding_all rfl)
    (case l6_Outside => first | k_is | rfl | with_unfolding_all rfl)
    (case l7_Outside => first | k_is | rfl | with_unfolding_all rfl)
    (case f_nw => first | k_is | rfl | with_unfolding_all rfl)
    (case f_x1 => first | k_is | rfl | with_unfolding_all rfl)
    (case f_x2 => first | k_is | rfl | with_unfolding_all rfl)
    (case f_c0 => first | k_is | rfl | with_unfolding_all rfl)
    (case f_c1 => first | k_is | rfl | with_unfolding_all rfl)
    (case f_c2 => first | k_is | rfl | with_unfolding_all rfl)
    (case f_c3 => first | k_is | rfl | with_unfolding_all rfl)


