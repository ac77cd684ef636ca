import PyProof.Rows.All
import Wide.All
import OpenK.AllK
import Wide.FinOn
import Lean
import PyProof.EqAt
import PyProof.EqKinds
import PyProof.TupleCall
import KE.KIntText
import KE.KTryMore
import KE.KIsAll
import PyProof.ZipIter
import KE.KRevIter
import PyProof.AttrMissHeap
import KE.KDictOf
import PyProof.DictUpdate
import PyProof.DictList
import PySem.Challenge.RW_rowjudge_k73_rings
set_option Elab.async false
set_option linter.all false
set_option maxRecDepth 100000
/-! THE HAND LAYER, for ints, bools, texts, own classes, LISTS and tuples (index, slices, in, append, pop ..), calls, loops. Paste it whole ahead of your own text; what your proof does not reach may be deleted. -/
namespace L2
open PySem PySem.Spec PyProof.Rows

/-- a key: an int or a str -/
abbrev Key := Sum Int Str
def keyIs : Key → Value → Bool
  | .inl k, v => Value.isInt k v
  | .inr x, v => Value.isStrOf x v
def keyH (w : World) : Key → Int
  | .inl k => hashInt k
  | .inr x => hashStr w x
theorem keyIs_shape : ∀ {k : Key} {v : Value}, keyIs k v = true → (∃ i t, k = Sum.inl i ∧ v = Value.int i t) ∨ (∃ x t, k = Sum.inr x ∧ v = Value.str x t)
  | .inl i, v, h => by
    obtain ⟨t, e⟩ := Value.isInt_shape (k := i) (v := v) h
    exact .inl ⟨i, t, rfl, e⟩
  | .inr x, v, h => by
    obtain ⟨t, e⟩ := Value.isStrOf_shape (x := x) (v := v) h
    exact .inr ⟨x, t, rfl, e⟩
theorem keyIs_str (x : Str) (t : Tok) : keyIs (.inr x) (.str x t) = true := by simp [keyIs, Value.isStrOf]
theorem key_ll (a b : Int) : decide ((Sum.inl a : Key) = Sum.inl b) = (a == b) := by
  by_cases e : a = b
  · subst e; simp
  · have h : ¬ (Sum.inl a : Key) = Sum.inl b := fun q => e (Sum.inl.inj q)
    rw [decide_eq_false h]
    exact (beq_eq_false_iff_ne.mpr e).symm
theorem key_rr (a b : Str) : decide ((Sum.inr a : Key) = Sum.inr b) = decide (a = b) := by
  by_cases e : a = b
  · subst e; simp
  · have h : ¬ (Sum.inr a : Key) = Sum.inr b := fun q => e (Sum.inr.inj q)
    rw [decide_eq_false h, decide_eq_false e]
theorem key_lr (a : Int) (b : Str) : decide ((Sum.inl a : Key) = Sum.inr b) = false := decide_eq_false (fun q => nomatch q)
theorem key_rl (a : Str) (b : Int) : decide ((Sum.inr a : Key) = Sum.inl b) = false := decide_eq_false (fun q => nomatch q)

def mixKind (prog : Program) (w : World) : PySem.KeyKind prog w Key where
  is := keyIs
  hash := keyH w
  inj := fun v a b ha hb => by
    rcases keyIs_shape ha with ⟨i, t, rfl, rfl⟩ | ⟨x, t, rfl, rfl⟩
    · rcases keyIs_shape hb with ⟨j, u, rfl, e⟩ | ⟨y, u, rfl, e⟩
      · injection e with e1 _; rw [e1]
      · exact nomatch e
    · rcases keyIs_shape hb with ⟨j, u, rfl, e⟩ | ⟨y, u, rfl, e⟩
      · exact nomatch e
      · injection e with e1 _; rw [e1]
  byValue := fun k v h => by
    rcases keyIs_shape h with ⟨i, t, rfl, rfl⟩ | ⟨x, t, rfl, rfl⟩ <;> rfl
  pyHash := fun hv h => by
    rcases keyIs_shape hv with ⟨i, t, rfl, rfl⟩ | ⟨x, t, rfl, rfl⟩
    · exact wpAny_pyHash_int h
    · exact wpAny_pyHash_str h
  eqBool := fun hu hv h => by
    rcases keyIs_shape hu with ⟨i, t, rfl, rfl⟩ | ⟨x, t, rfl, rfl⟩
    · rcases keyIs_shape hv with ⟨j, u, rfl, rfl⟩ | ⟨y, u, rfl, rfl⟩
      · rw [key_ll] at h; exact wpAny_eqBool_int h
      · rw [key_lr] at h; exact SeqAt.EqAt.int_str i t y u _ _ _ _ h
    · rcases keyIs_shape hv with ⟨j, u, rfl, rfl⟩ | ⟨y, u, rfl, rfl⟩
      · rw [key_rl] at h; exact SeqAt.EqAt.str_int x t j u _ _ _ _ h
      · rw [key_rr] at h; exact wpAny_eqBool_str h
  «strs» := fun k x t v h => by
    rcases keyIs_shape h with ⟨i, u, rfl, e⟩ | ⟨y, u, rfl, e⟩
    · exact nomatch e
    · injection e with e1 _
      subst e1
      cases v <;> rfl

theorem mixKind_str (prog : Program) (w : World) (x : Str) (t : Tok) : (mixKind prog w).is (.inr x) (.str x t) = true := keyIs_str x t
end L2

namespace L2
open PySem PySem.Spec PyProof.Rows

/-- a value, without the heap -/
inductive V where
  | non | bl (b : Bool) | int (i : Int) | str (x : Str) | byt (b : Array UInt8) | flt (b : UInt64) | ref (a : Addr) | ty (n : String)
  deriving DecidableEq

def RelV : V → Value → Prop
  | .non, u => u = Value.none
  | .bl b, u => u = Value.bool b
  | .int i, u => ∃ t, u = Value.int i t
  | .str x, u => ∃ t, u = Value.str x t
  | .byt b, u => ∃ t, u = Value.bytes b t
  | .flt b, u => ∃ t, u = Value.float b t
  | .ref a, u => u = Value.ref a
  | .ty n, u => u = Value.type n

abbrev Vals : List V → List Value → Prop := Paired RelV
theorem Vals.length {xs : List V} {us : List Value} (r : Vals xs us) : xs.length = us.length := Paired.length r
theorem Vals.get : ∀ {xs : List V} {us : List Value} {i : Nat} {x : V}, Vals xs us → xs[i]? = some x → ∃ u, us[i]? = some u ∧ RelV x u
  | _, _, _, _, .nil, e => by simp at e
  | _, _, 0, _, .cons r _, e => by simp at e; subst e; exact ⟨_, rfl, r⟩
  | _, _, i + 1, x, .cons _ t, e => by
    obtain ⟨u, h1, h2⟩ := Vals.get (i := i) (x := x) t (by simpa using e)
    exact ⟨u, by simpa using h1, h2⟩
theorem Vals.set {x : V} {u : Value} (r : RelV x u) : ∀ {xs : List V} {us : List Value} (i : Nat), Vals xs us → Vals (xs.set i x) (us.set i u)
  | _, _, _, .nil => .nil
  | _, _, 0, .cons _ t => .cons r t
  | _, _, i + 1, .cons q t => .cons q (Vals.set r i t)
theorem Vals.append : ∀ {xs ys : List V} {us ws : List Value}, Vals xs us → Vals ys ws → Vals (xs ++ ys) (us ++ ws)
  | _, _, _, _, .nil, s => s
  | _, _, _, _, .cons r t, s => .cons r (Vals.append t s)
theorem Vals.take : ∀ {xs : List V} {us : List Value} (n : Nat), Vals xs us → Vals (xs.take n) (us.take n)
  | _, _, 0, _ => .nil
  | _, _, _ + 1, .nil => .nil
  | _, _, n + 1, .cons r t => .cons r (Vals.take n t)
theorem Vals.drop : ∀ {xs : List V} {us : List Value} (n : Nat), Vals xs us → Vals (xs.drop n) (us.drop n)
  | _, _, 0, r => r
  | _, _, _ + 1, .nil => .nil
  | _, _, n + 1, .cons _ t => Vals.drop n t
def RelO : Option V → Option Value → Prop
  | some v, some u => RelV v u
  | none, none => True
  | _, _ => False
def KV {κ : Type} : List (κ × V) → List (κ × Value) → Prop := Paired fun (p : κ × V) (q : κ × Value) => p.1 = q.1 ∧ RelV p.2 q.2

/-- a key of a dict (00_mix): an int or a text -/
def kV : Key → V
  | .inl i => .int i
  | .inr x => .str x

/-- what stands at a tracked address -/
inductive HO where
  /-- a list -/
  | lst (xs : List V)
  /-- a tuple (never changes) -/
  | tup (xs : List V)
  /-- a dict whose keys are ints and texts; one whose keys are tuples of ints and texts (the empty one is both) -/
  | dK (kvs : List (Key × V)) | dT (kvs : List (List Key × V))
  /-- a set of ints: its members, its size -/
  | set (S : Int → Bool) (n : Nat)
  /-- an instance of the class at C, its dict at dx, its attributes -/
  | ins (C dx : Addr) (fs : List (Str × V))
  /-- the dict of the instance at x -/
  | own (x : Addr)
  /-- the dict of an exception -/
  | xd (fs : List (Str × V))
  /-- a bound method, f of x -/
  | met (f x : Addr)
  /-- a range object lo, lo + 1, .. below hi -/
  | rng (lo hi : Int)
  /-- a thing that is known to the object (the script; a dict while a loop walks it): read, never written while it is so -/
  | frz (o : Obj) (u : HO)
  /-- a code object's table -/
  | tbl (ps : Array Value)
  /-- any other thing, by what is true of its one object (a def of one's own: SetO a S n := HO.ext fun h => ..) -/
  | ext (φ : Heap → Prop)

abbrev Hp := Addr → Option HO
def upd (H : Hp) (a : Addr) (o : HO) : Hp := fun b => if b = a then some o else H b
theorem upd_same {H : Hp} {a : Addr} {o : HO} : upd H a o a = some o := by unfold upd; rw [if_pos rfl]
theorem upd_ne {H : Hp} {a b : Addr} {o : HO} (h : b ≠ a) : upd H a o b = H b := by unfold upd; rw [if_neg h]
/-- two objects of different content stand apart -/
theorem ne_of {H : Hp} {a b : Addr} {o u : HO} (h : H a = some o) (h' : H b = some u) (d : o ≠ u) : a ≠ b := by
  intro e; subst e; rw [h] at h'; exact d (Option.some.inj h')
theorem ne_of_none {H : Hp} {a b : Addr} {o : HO} (h : H a = some o) (h' : H b = none) : a ≠ b := by
  intro e; subst e; rw [h] at h'; cases h'

section
variable (P : Program) (w : World)
def ObjOk (H : Hp) (h : Heap) (a : Addr) : HO → Prop
  | .lst xs => xs.length ≤ sizeLine ∧ ∃ (its : List Value) (n : Nat), Vals xs its ∧ h.get? a = some { cls := .type "list", data := .seq its.toArray n }
  | .tup xs => xs.length ≤ sizeLine ∧ ∃ its : List Value, Vals xs its ∧ IsTup h a its.toArray
  | .dK kvs => kvs.length ≤ sizeLine ∧ (a == sysModules) = false ∧ ∃ vs, KV kvs vs ∧ h.DictOf (mixKind P w) a vs
  | .dT kvs => kvs.length ≤ sizeLine ∧ (a == sysModules) = false ∧ ∃ xs : List (List Key × Addr × Value),
      Paired (fun (p : List Key × V) (q : List Key × Addr × Value) => p.1 = q.1 ∧ H q.2.1 = some (.tup (p.1.map kV)) ∧ RelV p.2 q.2.2) kvs xs ∧
      ∃ o es ep, h.get? a = some o ∧ o.ExactDict ∧ o.data = .dict es ep ∧ es.toList = xs.map (entryOfKey (tupleKind (mixKind P w))) ∧ (xs.map (·.1)).Nodup
  | .set S n => h.SetOf (intKind P w) a S n
  | .ins C dx fs => H dx = some (.own a) ∧ fs.length ≤ 1000 ∧ dx ≠ a ∧ h.get? a = some (PySem.W.instObj C dx) ∧
      ∃ mA, h.Ns1 dx mA ∧ (∀ f, RelO (fs.lookup f) (mA f)) ∧ PySem.Within mA (fs.map (·.1))
  | .own _ => ∃ o, h.get? a = some o
  | .xd fs => ∃ mA, h.Ns1 a mA ∧ ∀ f, RelO (fs.lookup f) (mA f)
  | .rng lo hi => ∃ t u v, h.get? a = some { cls := .type "range", data := .fields #[.int lo t, .int hi u, .int 1 v] }
  | .frz o u => h.get? a = some o ∧ ObjOk H h a u
  | .tbl ps => h.get? a = some { cls := .none, data := .fields ps }
  | .met f x => h.get? a = some (PySem.W.methodObj (.ref f) (.ref x))
  | .ext φ => φ h ∧ (∃ o, h.get? a = some o) ∧ ∀ h1 h2 : Heap, φ h1 → (∀ o, h1.get? a = some o → h2.get? a = some o) → φ h2
/-- the abstract heap is held -/
def HOk (H : Hp) (h : Heap) : Prop := ∀ a o, H a = some o → ObjOk P w H h a o
end

section
variable {P : Program} {w : World} {H H' : Hp} {h h' : Heap} {a : Addr} {o : HO}
theorem ObjOk.lt (x : ObjOk P w H h a o) : a < h.objs.size := by
  cases o with
  | lst xs => obtain ⟨_, _, _, _, e⟩ := x; exact Heap.lt_size e
  | tup xs => obtain ⟨_, _, _, p⟩ := x; exact p.lt
  | dK kvs => obtain ⟨_, _, _, _, o, _, _, e, _⟩ := x; exact Heap.lt_size e
  | dT kvs => obtain ⟨_, _, _, _, o, _, _, e, _⟩ := x; exact Heap.lt_size e
  | set S n => obtain ⟨o, _, _, _, e, _⟩ := x; exact Heap.lt_size e
  | ins C dx fs => obtain ⟨_, _, _, e, _⟩ := x; exact Heap.lt_size e
  | own y => obtain ⟨_, e⟩ := x; exact Heap.lt_size e
  | xd fs => obtain ⟨_, ⟨_, _, _, e, _⟩, _⟩ := x; exact Heap.lt_size e
  | rng lo hi => obtain ⟨_, _, _, e⟩ := x; exact Heap.lt_size e
  | frz ob u => obtain ⟨e, _⟩ := x; exact Heap.lt_size e
  | tbl ps => exact Heap.lt_size (show h.get? a = some _ from x)
  | met f y => exact Heap.lt_size (show h.get? a = some _ from x)
  | ext φ => obtain ⟨_, ⟨_, e⟩, _⟩ := x; exact Heap.lt_size e
theorem Paired.mapP {α β : Type} {F G : α → β → Prop} : ∀ {l₁ : List α} {l₂ : List β}, Paired F l₁ l₂ → (∀ a b, F a b → G a b) → Paired G l₁ l₂
  | _, _, .nil, _ => .nil
  | _, _, .cons r t, f => .cons (f _ _ r) (Paired.mapP t f)
/-- what an object's description leans on: its own object, its own dict, the tuples -/
theorem ObjOk.stay (x : ObjOk P w H h a o) (k : ∀ b u, (b = a ∨ H b = some (.own a)) → h.get? b = some u → h'.get? b = some u)
    (ho : ∀ b, H b = some (.own a) → H' b = some (.own a)) (ht : ∀ b xs, H b = some (.tup xs) → H' b = some (.tup xs)) : ObjOk P w H' h' a o := by
  induction o with
  | lst xs => obtain ⟨z, its, n, r, e⟩ := x; exact ⟨z, its, n, r, k _ _ (.inl rfl) e⟩
  | tup xs => obtain ⟨z, its, r, ob, e, c⟩ := x; exact ⟨z, its, r, ob, k _ _ (.inl rfl) e, c⟩
  | dK kvs => obtain ⟨z, y, vs, r, ob, es, ep, e, c⟩ := x; exact ⟨z, y, vs, r, ob, es, ep, k _ _ (.inl rfl) e, c⟩
  | dT kvs =>
    obtain ⟨z, y, xs, r, ob, es, ep, e, c⟩ := x
    exact ⟨z, y, xs, Paired.mapP r fun p q z => ⟨z.1, ht _ _ z.2.1, z.2.2⟩, ob, es, ep, k _ _ (.inl rfl) e, c⟩
  | set S n => obtain ⟨ob, es, ep, t, e, c⟩ := x; exact ⟨ob, es, ep, t, k _ _ (.inl rfl) e, c⟩
  | ins C dx fs =>
    obtain ⟨d, z, ne, e, mA, ⟨od, es, ep, e2, c⟩, r⟩ := x
    exact ⟨ho _ d, z, ne, k _ _ (.inl rfl) e, mA, ⟨od, es, ep, k _ _ (.inr d) e2, c⟩, r⟩
  | own y => obtain ⟨ob, e⟩ := x; exact ⟨ob, k _ _ (.inl rfl) e⟩
  | xd fs => obtain ⟨mA, ⟨od, es, ep, e, c⟩, r⟩ := x; exact ⟨mA, ⟨od, es, ep, k _ _ (.inl rfl) e, c⟩, r⟩
  | rng lo hi => obtain ⟨t, u, v, e⟩ := x; exact ⟨t, u, v, k _ _ (.inl rfl) e⟩
  | frz ob u ih => obtain ⟨e, q⟩ := x; exact ⟨k _ _ (.inl rfl) e, ih q⟩
  | tbl ps =>
    have e : h.get? a = some { cls := .none, data := .fields ps } := x
    show h'.get? a = some { cls := .none, data := .fields ps }
    exact k a _ (.inl rfl) e
  | met f y =>
    have e : h.get? a = some (PySem.W.methodObj (.ref f) (.ref y)) := x
    show h'.get? a = some (PySem.W.methodObj (.ref f) (.ref y))
    exact k a _ (.inl rfl) e
  | ext φ => obtain ⟨p, ⟨o, e⟩, st⟩ := x; exact ⟨st _ _ p fun o q => k _ _ (.inl rfl) q, ⟨o, k _ _ (.inl rfl) e⟩, st⟩
theorem HOk.lt (x : HOk P w H h) (e : H a = some o) : a < h.objs.size := (x a o e).lt
theorem HOk.fresh (x : HOk P w H h) (e : h.objs.size ≤ a) : H a = none := by
  cases q : H a with
  | none => rfl
  | some u => exact absurd (Nat.lt_of_lt_of_le (x.lt q) e) (Nat.lt_irrefl _)
/-- every object of the heap is kept -/
theorem HOk.kept (x : HOk P w H h) (k : ∀ b u, h.get? b = some u → h'.get? b = some u) : HOk P w H h' := fun a o e =>
  (x a o e).stay (fun b u _ q => k b u q) (fun _ q => q) fun _ _ q => q
/-- a new object is laid and tracked -/
theorem HOk.laid (x : HOk P w H h) (k : ∀ b u, h.get? b = some u → h'.get? b = some u) (hp : h.objs.size ≤ a) (new : ObjOk P w (upd H a o) h' a o) : HOk P w (upd H a o) h' := fun b u e => by
  have hn := x.fresh hp
  by_cases hb : b = a
  · subst hb; rw [upd_same] at e; cases e; exact new
  · rw [upd_ne hb] at e
    exact (x b u e).stay (fun c v _ q => k c v q) (fun c q => by rw [upd_ne (ne_of_none q hn)]; exact q) fun c xs q => by rw [upd_ne (ne_of_none q hn)]; exact q
end

/-- what may be read as u: it is u, or a known u -/
def Rd (H : Hp) (a : Addr) (u : HO) : Prop := H a = some u ∨ ∃ o, H a = some (.frz o u)
theorem Rd.ok {P : Program} {w : World} {H : Hp} {h : Heap} {a : Addr} {u : HO} (r : Rd H a u) (x : HOk P w H h) : ObjOk P w H h a u := by
  rcases r with r | ⟨o, r⟩
  · exact x a u r
  · obtain ⟨_, q⟩ := x a _ r
    exact q
/-- what may be written -/
def Mut : Option HO → Prop
  | some (.lst _) => True
  | some (.dK _) => True
  | some (.dT _) => True
  | some (.set _ _) => True
  | some (.ins _ _ _) => True
  | some (.ext _) => True
  | _ => False
section
variable {P : Program} {w : World} {H : Hp} {h h' : Heap} {x e : Addr} {o' : HO}
/-- the object at e is changed: x itself, or the dict of the instance x -/
theorem HOk.write (ok : HOk P w H h) (mu : Mut (H x)) (he : e = x ∨ H e = some (.own x)) (k : ∀ b u, b ≠ e → h.get? b = some u → h'.get? b = some u) (heo : ∃ u, h'.get? e = some u)
    (new : ObjOk P w (upd H x o') h' x o') : HOk P w (upd H x o') h' := fun b u q => by
  have nown : ∀ c y, H c = some (.own y) → c ≠ x := fun c y r z => by subst z; rw [r] at mu; exact mu
  have ntup : ∀ c xs, H c = some (.tup xs) → c ≠ x := fun c xs r z => by subst z; rw [r] at mu; exact mu
  by_cases hb : b = x
  · subst hb; rw [upd_same] at q; cases q; exact new
  · rw [upd_ne hb] at q
    by_cases hbe : b = e
    · have q' : H b = some (.own x) := by
        rcases he with z | z
        · exact absurd (hbe.trans z) hb
        · rw [hbe]; exact z
      rw [q] at q'; cases q'
      obtain ⟨v, hv⟩ := heo
      exact ⟨v, by rw [hbe]; exact hv⟩
    · refine (ok b u q).stay (fun c v hc r => k c v ?_ r) (fun c r => by rw [upd_ne (nown c b r)]; exact r) fun c xs r => by rw [upd_ne (ntup c xs r)]; exact r
      rcases hc with rfl | hc
      · exact hbe
      · rintro rfl
        rcases he with z | z
        · exact nown c b hc z
        · rw [hc] at z; cases z; exact hb rfl
end

/-! ### kept unless tracked; of the frames at fs (the callers') the slots may change (an exception that passes writes there); of the records at ex (iterators) nothing is said -/
structure Un (fs ex : List Addr) (H H' : Hp) (h h' : Heap) : Prop where
  keep : ∀ b o, h.get? b = some o → H b = none → b ∉ fs → b ∉ ex → h'.get? b = some o
  slot : ∀ b o, h.get? b = some o → H b = none → b ∈ fs → b ∉ ex → ∃ sl, h'.get? b = some { o with slots := sl }
  free : ∀ b o, h.get? b = some o → H b = none → b ∉ ex → H' b = none
  there : ∀ b o, h.get? b = some o → b ∉ ex → ∃ o', h'.get? b = some o'
  tups : ∀ b xs, H b = some (.tup xs) → H' b = some (.tup xs)
  frzs : ∀ b o u, H b = some (.frz o u) → H' b = some (.frz o u)
  tbls : ∀ b ps, H b = some (.tbl ps) → ∃ more, H' b = some (.tbl (ps ++ more))
section
variable {fs fs' ex ex' : List Addr} {H H1 H2 : Hp} {h h1 h2 h' : Heap} {a x e : Addr} {o : HO}
theorem Un.any (u : Un fs ex H H1 h h1) {b : Addr} {ob : Obj} (q : h.get? b = some ob) (n : H b = none) (hx : b ∉ ex) : ∃ sl, h1.get? b = some { ob with slots := sl } := by
  by_cases hb : b ∈ fs
  · exact u.slot b ob q n hb hx
  · exact ⟨ob.slots, u.keep b ob q n hb hx⟩
theorem Un.kept (k : ∀ b u, h.get? b = some u → h'.get? b = some u) : Un fs ex H H h h' :=
  ⟨fun b ob q _ _ _ => k b ob q, fun b ob q _ _ _ => ⟨ob.slots, k b ob q⟩, fun _ _ _ n _ => n, fun b ob q _ => ⟨ob, k b ob q⟩, fun _ _ q => q, fun _ _ _ q => q, fun _ ps q => ⟨#[], by rw [q]; simp⟩⟩
theorem Un.refl : Un fs ex H H h h := Un.kept fun _ _ q => q
theorem Un.laid (k : ∀ b u, h.get? b = some u → h'.get? b = some u) (hp : h.objs.size ≤ a) (hn : H a = none) : Un fs ex H (upd H a o) h h' where
  keep := fun b u q _ _ _ => k b u q
  slot := fun b u q _ _ _ => ⟨u.slots, k b u q⟩
  free := fun b u q n _ => by rw [upd_ne (Nat.ne_of_lt (Nat.lt_of_lt_of_le (Heap.lt_size q) hp))]; exact n
  there := fun b u q _ => ⟨u, k b u q⟩
  tups := fun b xs q => by rw [upd_ne (ne_of_none q hn)]; exact q
  frzs := fun b u xs q => by rw [upd_ne (ne_of_none q hn)]; exact q
  tbls := fun b ps q => ⟨#[], by rw [upd_ne (ne_of_none q hn), q]; simp⟩
theorem Un.write (mu : Mut (H x)) (he : e = x ∨ H e = some (.own x)) (k : ∀ b u, b ≠ e → h.get? b = some u → h'.get? b = some u) (heo : ∃ u, h'.get? e = some u) : Un fs ex H (upd H x o) h h' := by
  have hx : ∀ b, H b = none → b ≠ x := fun b n z => by subst z; rw [n] at mu; exact mu
  have hb : ∀ b, H b = none → b ≠ e := fun b n z => by
    subst z
    rcases he with r | r
    · exact hx b n r
    · rw [n] at r; cases r
  have hm : ∀ b u, H b = some u → ¬ Mut (some u) → b ≠ x := fun b u q nm z => by subst z; rw [q] at mu; exact nm mu
  refine ⟨fun b u q n _ _ => k b u (hb b n) q, fun b u q n _ _ => ⟨u.slots, k b u (hb b n) q⟩, fun b u q n _ => by rw [upd_ne (hx b n)]; exact n, fun b u q _ => ?_,
    fun b xs q => by rw [upd_ne (hm b _ q fun z => z)]; exact q, fun b u xs q => by rw [upd_ne (hm b _ q fun z => z)]; exact q, fun b ps q => ⟨#[], by rw [upd_ne (hm b _ q fun z => z), q]; simp⟩⟩
  by_cases hbe : b = e
  · subst hbe; exact heo
  · exact ⟨u, k b u hbe q⟩
end

/-! ### the heap without what is tracked -/
def trk (h : Heap) (H : Hp) : List Addr := (List.range h.objs.size).filter fun a => (H a).isSome
def hidT (h : Heap) (H : Hp) : Heap := PySem.W.hideAll h (trk h H)
theorem hidT_size (h : Heap) (H : Hp) : (hidT h H).objs.size = h.objs.size := PySem.W.hideAll_size _ _
theorem hidT_get {h : Heap} {H : Hp} {b : Addr} {o : Obj} (e : h.get? b = some o) (n : H b = none) : (hidT h H).get? b = some o :=
  PySem.W.hideAll_get _ e fun hm => by
    have q : (H b).isSome = true := (List.mem_filter.mp hm).2
    rw [n] at q; simp at q
theorem of_hidT {h : Heap} {H : Hp} {b : Addr} {o : Obj} (e : (hidT h H).get? b = some o) : h.get? b = some o ∧ H b = none := by
  have e' : h.get? b = some o := PySem.W.of_hideAll (trk h H) e
  refine ⟨e', ?_⟩
  cases q : H b with
  | none => rfl
  | some x =>
    have hm : b ∈ trk h H := List.mem_filter.mpr ⟨List.mem_range.mpr (Heap.lt_size e'), by simp [q]⟩
    have z : (hidT h H).get? b = none := PySem.W.hideAll_none (trk h H) hm
    rw [z] at e; cases e

/-! ### OpenK's ledger, filled with every new object but one -/
def allNews (g h : Heap) (L : Addr) : List (Addr × Obj) := (List.range h.objs.size).filterMap fun a => if a = L ∨ (g.get? a).isSome = true then none else (h.get? a).map fun o => (a, o)
def rest (g h : Heap) (L d : Addr) : List (Addr × Obj) := (allNews g h L).filter fun p => decide (p.1 ≠ d)
end L2

namespace L2
open PySem PySem.Spec PyProof.Rows

/-- the module's facts, over the base: the heap at the law's entry without what is tracked there -/
structure Mod (K : PySem.W.Frag) (mg : Str → Option Value) (base : Heap) : Prop where
  kin : K.In base
  glob : base.Ns mainGlobals mg
  blt : ∃ mb, base.Ns builtinsNs mb ∧ ∀ x : Str, x ≠ "__name__" → mb x = bootBuiltins x
  nolimit : base.NoLimit

/-- the context: a def's body (or a comprehension's block) running. base: fixed through the whole law; s₀, H₀: the entry; outer: the frames whose slots others may change (a def's callers); stack: all frames that run;
   ex: iterators that were made ahead of the entry and are walked here (a comprehension's); fn: the names whose cells were made at the entry (a def: all; a comprehension's block: its own); calm: not within an except suite; pn: pins that every state bears; xe: what is wanted of an exception that leaves the code -/
structure Cx where
  prog : Program
  w : World
  K : PySem.W.Frag
  mg : Str → Option Value
  base : Heap
  A : Around
  N : List Str
  s₀ : Shared
  H₀ : Hp
  env : Env
  outer : List Env
  stack : List Env
  ex : List Addr
  fn : Str → Bool
  calm : Bool
  pn : List (Addr × Obj)
  xe : Value → Shared → Prop
/-- the callers' frames -/
def frs (l : List Env) : List Addr := l.filterMap (·.frame)
abbrev Cx.fs (X : Cx) : List Addr := frs X.outer

def Vis (sc : Scope) (x : Str) : Prop := sc.names.lookup x = some .local ∨ sc.names.lookup x = some .cell ∨ sc.names.lookup x = some .free
def Loc (sc : Scope) (x : Str) : Prop := sc.names.lookup x = some .local ∨ sc.names.lookup x = some .cell
def Look (env : Env) (h : Heap) (m : Str → Option Value) (x : Str) (u : Value) : Prop :=
  (env.kindOf x = some .local ∧ m x = some u) ∨ ((env.kindOf x = some .cell ∨ env.kindOf x = some .free) ∧ ∃ c, env.cells.lookup x = some c ∧ h.IsCell c (some u))

structure Cx.Ok (X : Cx) : Prop where
  mod : Mod X.K X.mg X.base
  kind : X.env.scope.kind = .function
  glob : X.env.globals = mainGlobals
  blt : X.env.builtins = builtinsNs
  above : X.s₀.heap.objs.size ≤ X.env.locals
  inj : ∀ x y c, X.env.cells.lookup x = some c → X.env.cells.lookup y = some c → x = y
  has : ∀ x, (X.env.kindOf x = some .cell ∨ X.env.kindOf x = some .free) → ∃ c, X.env.cells.lookup x = some c
  cab : ∀ x c, X.fn x = true → X.env.cells.lookup x = some c → X.s₀.heap.objs.size ≤ c
  hd : X.calm = true → X.A.handled = none
  frames : X.A.frames = some X.stack
  stk : X.stack = X.outer ∨ (X.stack = X.env :: X.outer ∧ X.env.frame = some X.env.locals)
  exf : ∀ b ∈ X.ex, b ≠ X.env.locals ∧ ∀ x c, X.env.cells.lookup x = some c → c ≠ b
  bs : ∀ b o, X.base.get? b = some o → X.s₀.heap.get? b = some o ∧ X.H₀ b = none
  bsz : X.base.objs.size ≤ X.s₀.heap.objs.size
  noex : ∀ b o, X.base.get? b = some o → b ∉ X.ex
  exfs : ∀ b ∈ X.ex, b ∉ X.fs
  funs : X.s₀.heap.FunFrames X.base X.outer
  frf : ∀ b ∈ X.fs, X.H₀ b = none

structure Inv (X : Cx) (pins : List (Addr × Obj)) (σ : List (Option V)) (H : Hp) (s : Shared) : Prop where
  ok : X.Ok
  os : s.os = X.s₀.os
  bare : AllBare s.gens
  base : Un X.fs X.ex X.H₀ H X.s₀.heap s.heap
  loc : ∃ m, s.heap.Ns X.env.locals m ∧ ∀ (i : Nat) (x : Str) (v : V), X.N[i]? = some x → σ[i]? = some (some v) → Vis X.env.scope x → ∃ u, RelV v u ∧ Look X.env s.heap m x u
  cell : ∀ x c, X.env.cells.lookup x = some c → ∃ v, s.heap.IsCell c v
  free : H X.env.locals = none
  freeC : ∀ x c, X.env.cells.lookup x = some c → H c = none
  pin : ∀ p ∈ X.pn ++ pins, s.heap.get? p.1 = some p.2 ∧ H p.1 = none ∧ p.1 ≠ X.env.locals ∧ p.1 ∉ X.fs ∧ ∀ v, p.2.data ≠ .cell v
  hok : HOk X.prog X.w H s.heap
  len : σ.length = X.N.length

section
variable {X : Cx} {pins : List (Addr × Obj)} {σ : List (Option V)} {H H' : Hp} {s : Shared} {h' : Heap}

theorem Cx.Ok.nofr (ok : X.Ok) {b : Addr} {o : Obj} (e : X.base.get? b = some o) : b ∉ X.fs := fun hb => by
  have := (ok.funs.mem hb).1
  rw [e] at this; cases this
theorem Inv.bs (I : Inv X pins σ H s) : ∀ b o, X.base.get? b = some o → s.heap.get? b = some o ∧ H b = none := fun b o e =>
  ⟨I.base.keep b o (I.ok.bs b o e).1 (I.ok.bs b o e).2 (I.ok.nofr e) (I.ok.noex b o e), I.base.free b o (I.ok.bs b o e).1 (I.ok.bs b o e).2 (I.ok.noex b o e)⟩
theorem Inv.bk (I : Inv X pins σ H s) : ∀ b o, X.base.get? b = some o → s.heap.get? b = some o := fun b o e => (I.bs b o e).1
theorem Inv.mod (I : Inv X pins σ H s) : Mod X.K X.mg X.base := I.ok.mod
theorem Inv.kIn (I : Inv X pins σ H s) : X.K.In s.heap := I.ok.mod.kin.keeps I.bk
theorem Inv.lt (I : Inv X pins σ H s) : X.env.locals < s.heap.objs.size := let ⟨_, hn, _⟩ := I.loc; hn.lt
theorem Inv.sz (I : Inv X pins σ H s) : X.s₀.heap.objs.size ≤ s.heap.objs.size := Nat.le_trans I.ok.above (Nat.le_of_lt I.lt)
theorem Inv.nofs (I : Inv X pins σ H s) {a : Addr} (h : s.heap.objs.size ≤ a) : a ∉ X.fs := fun hb => by
  obtain ⟨_, o, ho, _⟩ := I.ok.funs.mem hb
  exact absurd (Nat.lt_of_lt_of_le (Heap.lt_size ho) (Nat.le_trans I.sz h)) (Nat.lt_irrefl _)
theorem Inv.cne (I : Inv X pins σ H s) : ∀ x c, X.env.cells.lookup x = some c → c ≠ X.env.locals := fun x c e z => by
  obtain ⟨v, o, ho, hd⟩ := I.cell x c e
  obtain ⟨m, ⟨o', es, ep, ho', hd', _⟩, _⟩ := I.loc
  rw [z, ho'] at ho; cases ho; rw [hd'] at hd; cases hd
theorem Inv.funs (I : Inv X pins σ H s) : s.heap.FunFrames X.base X.outer := by
  have all : ∀ (l : List Env), (∀ b ∈ frs l, b ∈ X.fs) → X.s₀.heap.FunFrames X.base l → s.heap.FunFrames X.base l := by
    intro l
    induction l with
    | nil => intro _ _; trivial
    | cons env r ih =>
      intro hs hl
      obtain ⟨hk, ⟨L, o, hf, hn, ho, hd⟩, hr⟩ := hl
      have hL : L ∈ X.fs := hs L (by unfold frs; rw [List.filterMap_cons, hf]; exact List.mem_cons_self)
      obtain ⟨sl, e⟩ := I.base.slot L o ho (I.ok.frf L hL) hL fun z => I.ok.exfs L z hL
      exact ⟨hk, ⟨L, _, hf, hn, e, hd⟩, ih (fun b hb => hs b (by unfold frs; rw [List.filterMap_cons, hf]; exact List.mem_cons_of_mem _ hb)) hr⟩
  exact all X.outer (fun _ hb => hb) I.ok.funs

/-- the frames that run, for a call -/
theorem Inv.stack (I : Inv X pins σ H s) : s.heap.FunFrames X.base X.stack := by
  rcases I.ok.stk with e | ⟨e, hf⟩
  · rw [e]; exact I.funs
  · rw [e]
    obtain ⟨m, hn, _⟩ := I.loc
    refine .cons (by rw [I.ok.kind]; decide) hf hn ?_ I.funs
    exact Heap.get?_none_of_le (Nat.le_trans I.ok.bsz I.ok.above)
theorem Inv.stkSub (I : Inv X pins σ H s) : ∀ b ∈ frs X.stack, b ∈ X.env.locals :: X.fs := fun b hb => by
  rcases I.ok.stk with e | ⟨e, hf⟩
  · rw [e] at hb; exact List.mem_cons_of_mem _ hb
  · rw [e] at hb
    unfold frs at hb
    rw [List.filterMap_cons, hf] at hb
    exact hb
theorem Inv.stkFree (I : Inv X pins σ H s) : ∀ b ∈ frs X.stack, H b = none := fun b hb => by
  rcases List.mem_cons.mp (I.stkSub b hb) with e | hb
  · rw [e]; exact I.free
  · obtain ⟨_, o, ho, _⟩ := I.ok.funs.mem hb
    exact I.base.free b o ho (I.ok.frf b hb) fun z => I.ok.exfs b z hb

/-- THE STEP: the untracked objects but the frame and the records at ch are kept (the callers' frames up to slots), the frame's map is kept, the new abstract heap is held -/
theorem Inv.step {g' : Array GenState} {t' : Nat} {d' : Drawn} {ch : List Addr} (I : Inv X pins σ H s)
    (hch : ∀ b ∈ ch, (b ∈ X.ex ∨ X.s₀.heap.objs.size ≤ b) ∧ b ≠ X.env.locals ∧ (∀ x c, X.env.cells.lookup x = some c → c ≠ b) ∧ ∀ p ∈ X.pn ++ pins, p.1 ≠ b)
    (keep : ∀ b o, b ≠ X.env.locals → b ∉ X.fs → b ∉ ch → s.heap.get? b = some o → H b = none → h'.get? b = some o)
    (slot : ∀ b o, b ≠ X.env.locals → b ∈ X.fs → b ∉ ch → s.heap.get? b = some o → H b = none → ∃ sl, h'.get? b = some { o with slots := sl }) (free : ∀ b o, b ∉ ch → s.heap.get? b = some o → H b = none → H' b = none)
    (there : ∀ b o, b ∉ ch → s.heap.get? b = some o → ∃ o', h'.get? b = some o')
    (tups : ∀ b xs, H b = some (.tup xs) → H' b = some (.tup xs)) (frzs : ∀ b o u, H b = some (.frz o u) → H' b = some (.frz o u)) (tbls : ∀ b ps, H b = some (.tbl ps) → ∃ more, H' b = some (.tbl (ps ++ more)))
    (ns : ∀ m, s.heap.Ns X.env.locals m → h'.Ns X.env.locals m) (hok : HOk X.prog X.w H' h') (hg : AllBare g') :
    Inv X pins σ H' { s with heap := h', gens := g', drawn := d', toks := t' } := by
  have neL : ∀ b o, X.s₀.heap.get? b = some o → b ≠ X.env.locals := fun b o e => Nat.ne_of_lt (Nat.lt_of_lt_of_le (Heap.lt_size e) I.ok.above)
  have neC : ∀ b o, X.s₀.heap.get? b = some o → b ∉ X.ex → b ∉ ch := fun b o e hx hb => by
    rcases (hch b hb).1 with z | z
    · exact hx z
    · exact absurd (Nat.lt_of_lt_of_le (Heap.lt_size e) z) (Nat.lt_irrefl _)
  have cellK : ∀ x c, X.env.cells.lookup x = some c → ∀ v, s.heap.IsCell c v → h'.IsCell c v := fun x c e v ⟨o, ho, hd⟩ => by
    have nch : c ∉ ch := fun z => (hch c z).2.2.1 x c e rfl
    by_cases hc : c ∈ X.fs
    · obtain ⟨sl, q⟩ := slot c o (I.cne x c e) hc nch ho (I.freeC x c e)
      exact ⟨_, q, hd⟩
    · exact ⟨o, keep c o (I.cne x c e) hc nch ho (I.freeC x c e), hd⟩
  refine ⟨I.ok, I.os, hg, ⟨fun b o e n hb hx => ?_, fun b o e n hb hx => ?_, fun b o e n hx => ?_, fun b o e hx => ?_, fun b xs e => tups b xs (I.base.tups b xs e), fun b o xs e => frzs b o xs (I.base.frzs b o xs e), fun b ps e => ?_⟩, ?_, fun x c e => ?_, ?_, fun x c e => ?_, fun p hp => ?_, hok, I.len⟩
  · exact keep b o (neL b o e) hb (neC b o e hx) (I.base.keep b o e n hb hx) (I.base.free b o e n hx)
  · obtain ⟨sl, e1⟩ := I.base.slot b o e n hb hx
    obtain ⟨sl', e2⟩ := slot b _ (neL b o e) hb (neC b o e hx) e1 (I.base.free b o e n hx)
    exact ⟨sl', e2⟩
  · obtain ⟨o', e1⟩ := I.base.there b o e hx
    exact free b o' (neC b o e hx) e1 (I.base.free b o e n hx)
  · obtain ⟨o', e1⟩ := I.base.there b o e hx
    exact there b o' (neC b o e hx) e1
  · obtain ⟨m1, e1⟩ := I.base.tbls b ps e
    obtain ⟨m2, e2⟩ := tbls b _ e1
    exact ⟨m1 ++ m2, by rw [e2, Array.append_assoc]⟩
  · obtain ⟨m, hn, hl⟩ := I.loc
    refine ⟨m, ns m hn, fun i x v e1 e2 e3 => ?_⟩
    obtain ⟨u, r, l⟩ := hl i x v e1 e2 e3
    refine ⟨u, r, ?_⟩
    rcases l with l | ⟨k, c, e, z⟩
    · exact .inl l
    · exact .inr ⟨k, c, e, cellK x c e _ z⟩
  · obtain ⟨v, z⟩ := I.cell x c e
    exact ⟨v, cellK x c e v z⟩
  · obtain ⟨m, ⟨o, _, _, ho, _⟩, _⟩ := I.loc
    exact free _ o (fun z => (hch _ z).2.1 rfl) ho I.free
  · obtain ⟨v, o, ho, hd⟩ := I.cell x c e
    exact free c o (fun z => (hch c z).2.2.1 x c e rfl) ho (I.freeC x c e)
  · obtain ⟨e, n, ne, nf, d⟩ := I.pin p hp
    have nch : p.1 ∉ ch := fun z => (hch p.1 z).2.2.2 p hp rfl
    exact ⟨keep p.1 p.2 ne nf nch e n, free p.1 p.2 nch e n, ne, nf, d⟩
/-- .. where the frame's own object is kept too -/
theorem Inv.un {t' : Nat} (I : Inv X pins σ H s) (u : Un X.fs [] H H' s.heap h') (hok : HOk X.prog X.w H' h') : Inv X pins σ H' { s with heap := h', toks := t' } := by
  obtain ⟨m, ⟨o, es, ep, ho, r⟩, _⟩ := id I.loc
  obtain ⟨sl, hL⟩ := u.any ho I.free (by simp)
  exact I.step (g' := s.gens) (d' := s.drawn) (ch := []) (fun _ z => nomatch z) (fun b o _ hb _ e n => u.keep b o e n hb (by simp)) (fun b o _ hb _ e n => u.slot b o e n hb (by simp)) (fun b o _ e n => u.free b o e n (by simp)) (fun b o _ e => u.there b o e (by simp)) u.tups u.frzs u.tbls (fun m' hm => by
    obtain ⟨o', es', ep', ho', r'⟩ := hm
    rw [ho] at ho'; cases ho'
    exact ⟨_, es', ep', hL, r'⟩) hok I.bare
/-- behind a call (or a comprehension's block): the slots of this frame may have changed too, the records at ch may have turned -/
theorem Inv.call {g' : Array GenState} {t' : Nat} {d' : Drawn} {ch : List Addr} (I : Inv X pins σ H s) (u : Un (frs X.stack) ch H H' s.heap h') (hok : HOk X.prog X.w H' h') (hg : AllBare g')
    (hch : ∀ b ∈ ch, (b ∈ X.ex ∨ X.s₀.heap.objs.size ≤ b) ∧ b ≠ X.env.locals ∧ (∀ x c, X.env.cells.lookup x = some c → c ≠ b) ∧ ∀ p ∈ X.pn ++ pins, p.1 ≠ b) :
    Inv X pins σ H' { s with heap := h', gens := g', drawn := d', toks := t' } := by
  obtain ⟨m, ⟨o, es, ep, ho, r⟩, _⟩ := id I.loc
  obtain ⟨sl, hL⟩ := u.any ho I.free fun z => (hch _ z).2.1 rfl
  exact I.step (ch := ch) hch (fun b o hL hb hc e n => u.keep b o e n (fun z => (List.mem_cons.mp (I.stkSub b z)).elim hL hb) hc) (fun b o _ _ hc e n => u.any e n hc) (fun b o hc e n => u.free b o e n hc) (fun b o hc e => u.there b o e hc) u.tups u.frzs u.tbls (fun m' hm => by
    obtain ⟨o', es', ep', ho', r'⟩ := hm
    rw [ho] at ho'; cases ho'
    exact ⟨_, es', ep', hL, r'⟩) hok hg
/-- an untracked record of ours (an iterator) has turned -/
theorem Inv.turned {t' : Nat} {it : Addr} (I : Inv X pins σ H s) (k : ∀ b o, b ≠ it → s.heap.get? b = some o → h'.get? b = some o) (hn : H it = none) (hL : it ≠ X.env.locals)
    (h1 : it ∈ X.ex ∨ X.s₀.heap.objs.size ≤ it) (h2 : ∀ x c, X.env.cells.lookup x = some c → c ≠ it) (h3 : ∀ p ∈ X.pn ++ pins, p.1 ≠ it) : Inv X pins σ H { s with heap := h', toks := t' } := by
  have nit : ∀ b u, H b = some u → b ≠ it := fun b u e z => by rw [z, hn] at e; cases e
  refine I.step (g' := s.gens) (d' := s.drawn) (ch := [it]) (fun b hb => ?_) (fun b o _ _ hc e _ => k b o (fun z => hc (by simp [z])) e) (fun b o _ _ hc e _ => ⟨o.slots, k b o (fun z => hc (by simp [z])) e⟩) (fun _ _ _ _ n => n)
    (fun b o hc e => ⟨o, k b o (fun z => hc (by simp [z])) e⟩) (fun _ _ e => e) (fun _ _ _ e => e) (fun b ps e => ⟨#[], by rw [e]; simp⟩) (fun m hm => ?_) (fun b u e => ?_) I.bare
  · have e : b = it := by simpa using hb
    subst e
    exact ⟨h1, hL, h2, h3⟩
  · obtain ⟨o, es, ep, ho, r⟩ := hm
    exact ⟨o, es, ep, k _ o (Ne.symm hL) ho, r⟩
  · refine (I.hok b u e).stay (fun c v hc q => k c v ?_ q) (fun _ q => q) fun _ _ q => q
    rcases hc with z | z
    · rw [z]; exact nit b u e
    · exact nit c _ z
theorem Inv.tok (I : Inv X pins σ H s) (t : Nat) : Inv X pins σ H { s with toks := t } := I.un (h' := s.heap) (t' := t) Un.refl I.hok
/-- all objects kept -/
theorem Inv.kept {t' : Nat} (I : Inv X pins σ H s) (k : ∀ b u, s.heap.get? b = some u → h'.get? b = some u) : Inv X pins σ H { s with heap := h', toks := t' } := I.un (Un.kept k) (I.hok.kept k)
/-- a new object laid and tracked -/
theorem Inv.laid {a : Addr} {o : HO} {t' : Nat} (I : Inv X pins σ H s) (k : ∀ b u, s.heap.get? b = some u → h'.get? b = some u) (hp : s.heap.objs.size ≤ a) (new : ObjOk X.prog X.w (upd H a o) h' a o) :
    Inv X pins σ (upd H a o) { s with heap := h', toks := t' } := I.un (Un.laid k hp (I.hok.fresh hp)) (I.hok.laid k hp new)
/-- an object written -/
theorem Inv.write {x e : Addr} {o : HO} {t' : Nat} (I : Inv X pins σ H s) (mu : Mut (H x)) (he : e = x ∨ H e = some (.own x)) (k : ∀ b u, b ≠ e → s.heap.get? b = some u → h'.get? b = some u) (heo : ∃ u, h'.get? e = some u)
    (new : ObjOk X.prog X.w (upd H x o) h' x o) : Inv X pins σ (upd H x o) { s with heap := h', toks := t' } := I.un (Un.write mu he k heo) (I.hok.write mu he k heo new)
theorem Inv.pins_of {pins' : List (Addr × Obj)} (I : Inv X pins σ H s) (h : ∀ p ∈ pins', s.heap.get? p.1 = some p.2 ∧ H p.1 = none ∧ p.1 ≠ X.env.locals ∧ p.1 ∉ X.fs ∧ ∀ v, p.2.data ≠ .cell v) : Inv X pins' σ H s :=
  ⟨I.ok, I.os, I.bare, I.base, I.loc, I.cell, I.free, I.freeC, fun p hp => (List.mem_append.mp hp).elim (fun z => I.pin p (List.mem_append_left _ z)) (h p), I.hok, I.len⟩

theorem nodup_ix {N : List Str} (hN : N.Nodup) {i j : Nat} {x : Str} (a : N[i]? = some x) (b : N[j]? = some x) : i = j := by
  obtain ⟨h1, e1⟩ := List.getElem?_eq_some_iff.mp a
  obtain ⟨h2, e2⟩ := List.getElem?_eq_some_iff.mp b
  exact (List.getElem_inj hN).mp (e1.trans e2.symm)

/-- a name is stored; what changed -/
theorem store_ok2 {M : Model} {A : Around} {E : Value → Shared → Prop} {i : Nat} {x : Str} {v : V} {u : Value} {Q : Unit → Shared → Prop} (I : Inv X pins σ H s) (hN : X.N.Nodup) (hi : X.N[i]? = some x) (hx : Loc X.env.scope x) (r : RelV v u)
    (h : ∀ s', Inv X pins (σ.set i (some v)) H s' → (∃ a, Heap.SameBut a s.heap s'.heap ∧ (a = X.env.locals ∨ X.env.cells.lookup x = some a)) → Q () s') (hf : X.fn x = true ∨ X.env.scope.names.lookup x = some .local := by first | exact .inl rfl | exact .inr rfl | assumption) : wpAny M A (storeName X.env x u) Q E s := by
  obtain ⟨m, hn, hl⟩ := id I.loc
  have hcls : (X.env.scope.kind == .class || (X.env.scope.kind == .module && X.env.locals != X.env.globals)) = false := by rw [I.ok.kind]; rfl
  have hiσ : i < σ.length := by rw [I.len]; exact (List.getElem?_eq_some_iff.mp hi).1
  have cne := I.cne
  have tracked : ∀ {a : Addr} {h' : Heap}, (∃ o, s.heap.get? a = some o ∧ H a = none) → Heap.SameBut a s.heap h' → HOk X.prog X.w H h' := fun {a h'} ha hs b ob e => by
    obtain ⟨_, _, hfree⟩ := ha
    refine (I.hok b ob e).stay (fun c w' hc q => (hs.2 c ?_).trans q) (fun _ q => q) fun _ _ q => q
    rintro rfl
    rcases hc with rfl | hc
    · rw [hfree] at e; cases e
    · rw [hfree] at hc; cases hc
  rcases hx with hk | hk
  · refine wpAny_storeName_local hk hn (fun h' hn' hs => ?_) hcls
    obtain ⟨oL, _, _, hoL, _⟩ := id hn
    refine h _ ⟨I.ok, I.os, I.bare, ⟨fun b o e n hb hx => ?_, fun b o e n hb hx => ?_, I.base.free, fun b o e hx => ?_, I.base.tups, I.base.frzs, I.base.tbls⟩, ⟨_, hn', fun j y v' e1 e2 e3 => ?_⟩, fun y c e => ?_, I.free, I.freeC, fun p hp => ?_, tracked ⟨oL, hoL, I.free⟩ hs, by simpa using I.len⟩ ⟨_, hs, .inl rfl⟩
    · exact (hs.2 b (Nat.ne_of_lt (Nat.lt_of_lt_of_le (Heap.lt_size e) I.ok.above))).trans (I.base.keep b o e n hb hx)
    · obtain ⟨sl, e1⟩ := I.base.slot b o e n hb hx
      exact ⟨sl, (hs.2 b (Nat.ne_of_lt (Nat.lt_of_lt_of_le (Heap.lt_size e) I.ok.above))).trans e1⟩
    · obtain ⟨o', e1⟩ := I.base.there b o e hx
      exact ⟨o', (hs.2 b (Nat.ne_of_lt (Nat.lt_of_lt_of_le (Heap.lt_size e) I.ok.above))).trans e1⟩
    · by_cases hj : j = i
      · subst hj
        rw [hi] at e1; cases e1
        rw [List.getElem?_set_self hiσ] at e2
        cases e2
        exact ⟨u, r, .inl ⟨hk, by simp⟩⟩
      · rw [List.getElem?_set_ne (Ne.symm hj)] at e2
        obtain ⟨u', r', q⟩ := hl j y v' e1 e2 e3
        refine ⟨u', r', ?_⟩
        rcases q with ⟨k, e⟩ | ⟨k, c, e, z⟩
        · refine .inl ⟨k, ?_⟩
          have : y ≠ x := fun e => hj (nodup_ix hN e1 (e ▸ hi))
          simp [this, e]
        · exact .inr ⟨k, c, e, z.sameBut hs (cne y c e)⟩
    · obtain ⟨w', z⟩ := I.cell y c e
      exact ⟨w', z.sameBut hs (cne y c e)⟩
    · obtain ⟨e, n, ne, nf, d⟩ := I.pin p hp
      exact ⟨(hs.2 p.1 ne).trans e, n, ne, nf, d⟩
  · have hfn : X.fn x = true := by
      rcases hf with z | z
      · exact z
      · rw [z] at hk; cases hk
    obtain ⟨c, hc⟩ := I.ok.has x (.inl hk)
    obtain ⟨w', z⟩ := I.cell x c hc
    refine wpAny_storeName_cell I.ok.kind hk hc z (fun h' hc' hs => ?_)
    obtain ⟨oc, hoc, hocd⟩ := id z
    refine h { s with heap := h' } ⟨I.ok, I.os, I.bare, ⟨fun b o e n hb hx => ?_, fun b o e n hb hx => ?_, I.base.free, fun b o e hx => ?_, I.base.tups, I.base.frzs, I.base.tbls⟩, ⟨m, hn.sameBut hs (Ne.symm (cne x c hc)), fun j y v' e1 e2 e3 => ?_⟩, fun y c' e => ?_, I.free, I.freeC, fun p hp => ?_, tracked ⟨oc, hoc, I.freeC x c hc⟩ hs, by simpa using I.len⟩ ⟨c, hs, .inr hc⟩
    · exact (hs.2 b (Nat.ne_of_lt (Nat.lt_of_lt_of_le (Heap.lt_size e) (I.ok.cab x c hfn hc)))).trans (I.base.keep b o e n hb hx)
    · obtain ⟨sl, e1⟩ := I.base.slot b o e n hb hx
      exact ⟨sl, (hs.2 b (Nat.ne_of_lt (Nat.lt_of_lt_of_le (Heap.lt_size e) (I.ok.cab x c hfn hc)))).trans e1⟩
    · obtain ⟨o', e1⟩ := I.base.there b o e hx
      exact ⟨o', (hs.2 b (Nat.ne_of_lt (Nat.lt_of_lt_of_le (Heap.lt_size e) (I.ok.cab x c hfn hc)))).trans e1⟩
    · by_cases hj : j = i
      · subst hj
        rw [hi] at e1; cases e1
        rw [List.getElem?_set_self hiσ] at e2
        cases e2
        exact ⟨u, r, .inr ⟨.inl hk, c, hc, hc'⟩⟩
      · rw [List.getElem?_set_ne (Ne.symm hj)] at e2
        obtain ⟨u', r', q⟩ := hl j y v' e1 e2 e3
        refine ⟨u', r', ?_⟩
        rcases q with q | ⟨k, c', e, z'⟩
        · exact .inl q
        · refine .inr ⟨k, c', e, z'.sameBut hs ?_⟩
          rintro rfl
          exact hj (nodup_ix hN e1 (I.ok.inj _ _ _ e hc ▸ hi))
    · by_cases hcc : c' = c
      · subst hcc; exact ⟨_, hc'⟩
      · obtain ⟨w2, z2⟩ := I.cell y c' e
        exact ⟨w2, z2.sameBut hs hcc⟩
    · obtain ⟨e, n, ne, nf, d⟩ := I.pin p hp
      refine ⟨(hs.2 p.1 ?_).trans e, n, ne, nf, d⟩
      intro q
      rw [q, hoc] at e
      have q' : oc = p.2 := Option.some.inj e
      exact d w' (by rw [← q']; exact hocd)
theorem store_ok {M : Model} {A : Around} {E : Value → Shared → Prop} {i : Nat} {x : Str} {v : V} {u : Value} {Q : Unit → Shared → Prop} (I : Inv X pins σ H s) (hN : X.N.Nodup) (hi : X.N[i]? = some x) (hx : Loc X.env.scope x) (r : RelV v u)
    (h : ∀ s', Inv X pins (σ.set i (some v)) H s' → Q () s') (hf : X.fn x = true ∨ X.env.scope.names.lookup x = some .local := by first | exact .inl rfl | exact .inr rfl | assumption) : wpAny M A (storeName X.env x u) Q E s :=
  store_ok2 I hN hi hx r (fun s' I' _ => h s' I') hf
/-- behind a call or a block, the state as it is -/
theorem Inv.call' {s' : Shared} {ch : List Addr} (I : Inv X pins σ H s) (ho : s'.os = s.os) (u : Un (frs X.stack) ch H H' s.heap s'.heap) (hok : HOk X.prog X.w H' s'.heap) (hg : AllBare s'.gens)
    (hch : ∀ b ∈ ch, (b ∈ X.ex ∨ X.s₀.heap.objs.size ≤ b) ∧ b ≠ X.env.locals ∧ (∀ x c, X.env.cells.lookup x = some c → c ≠ b) ∧ ∀ p ∈ X.pn ++ pins, p.1 ≠ b) : Inv X pins σ H' s' := by
  obtain ⟨h', g', d', t', o'⟩ := s'
  have e : o' = s.os := ho
  subst e
  exact I.call (g' := g') (t' := t') (d' := d') u hok hg hch
end

/-! ### the judgements -/
/-- an exception: its class, its own dict's address (where it has one), the abstract heap behind it -/
abbrev XK := Value → Option Addr → Hp → Prop
abbrev St := List (Option V)
abbrev VK := V → Hp → Prop
/-- an expression's reading; a test's; an argument list's -/
abbrev TE := St → Hp → VK → Prop
abbrev TT := St → Hp → (Bool → Hp → Prop) → Prop
abbrev TA := St → Hp → (List V → Hp → Prop) → Prop
/-- what is wanted behind a statement -/
structure Ends where
  nx : St → Hp → Prop
  rt : VK
  bk : St → Hp → Prop := fun _ _ => False
  ct : St → Hp → Prop := fun _ _ => False
abbrev TS := Ends → St → Hp → Prop

def EP (X : Cx) (pins : List (Addr × Obj)) (σ : St) (Q : VK) (u : Value) (s' : Shared) : Prop := ∃ v H', Inv X pins σ H' s' ∧ RelV v u ∧ Q v H'
def TP (X : Cx) (pins : List (Addr × Obj)) (σ : St) (Q : Bool → Hp → Prop) (b : Bool) (s' : Shared) : Prop := ∃ H', Inv X pins σ H' s' ∧ Q b H'
def AP (X : Cx) (pins : List (Addr × Obj)) (σ : St) (Q : List V → Hp → Prop) (us : List Value) (s' : Shared) : Prop := ∃ vs H', Inv X pins σ H' s' ∧ Vals vs us ∧ Q vs H'
def SP (X : Cx) (pins : List (Addr × Obj)) (D : Ends) (f : Flow) (s' : Shared) : Prop :=
  match f with
  | .next => ∃ σ' H', Inv X pins σ' H' s' ∧ D.nx σ' H'
  | .brk => ∃ σ' H', Inv X pins σ' H' s' ∧ D.bk σ' H'
  | .cont => ∃ σ' H', Inv X pins σ' H' s' ∧ D.ct σ' H'
  | .ret u => ∃ v σ' H', Inv X pins σ' H' s' ∧ RelV v u ∧ D.rt v H'

def PE (X : Cx) (e : Expr) (t : TE) : Prop :=
  ∀ (pins : List (Addr × Obj)) (s : Shared) (σ : St) (H : Hp) (Q : VK), Inv X pins σ H s → t σ H Q → wpAny (model X.prog X.w) X.A (eval e X.env) (EP X pins σ Q) X.xe s
def PT (X : Cx) (e : Expr) (t : TT) : Prop :=
  ∀ (pins : List (Addr × Obj)) (s : Shared) (σ : St) (H : Hp) (Q : Bool → Hp → Prop), Inv X pins σ H s → t σ H Q → wpAny (model X.prog X.w) X.A (isTrue e X.env (eval e X.env)) (TP X pins σ Q) X.xe s
/-- a test whatever its 'whole' is (and, or) -/
def PW (X : Cx) (e : Expr) (t : TT) : Prop :=
  ∀ (whole : Sem Value) (pins : List (Addr × Obj)) (s : Shared) (σ : St) (H : Hp) (Q : Bool → Hp → Prop), Inv X pins σ H s → t σ H Q → wpAny (model X.prog X.w) X.A (isTrue e X.env whole) (TP X pins σ Q) X.xe s
theorem PW.pt {X : Cx} {e : Expr} {t : TT} (h : PW X e t) : PT X e t := h _
/-- an argument list (no star), from the left -/
def PA (X : Cx) (es : List Expr) (t : TA) : Prop :=
  ∀ (pos : Pos) (pins : List (Addr × Obj)) (s : Shared) (σ : St) (H : Hp) (Q : List V → Hp → Prop), Inv X pins σ H s → t σ H Q → wpAny (model X.prog X.w) X.A (spliced (backTo pos (starEach es X.env))) (AP X pins σ Q) X.xe s
def PS (X : Cx) (st : Stmt) (t : TS) : Prop :=
  ∀ (pins : List (Addr × Obj)) (s : Shared) (σ : St) (H : Hp) (D : Ends), Inv X pins σ H s → t D σ H → wpAny (model X.prog X.w) X.A (exec st X.env) (SP X pins D) X.xe s
def PSs (X : Cx) (st : List Stmt) (t : TS) : Prop :=
  ∀ (pins : List (Addr × Obj)) (s : Shared) (σ : St) (H : Hp) (D : Ends), Inv X pins σ H s → t D σ H → wpAny (model X.prog X.w) X.A (execs st X.env) (SP X pins D) X.xe s
/-- weaken the end -/
theorem thn {α : Type} {t : Sem α} {Q Q' : α → Shared → Prop} {M : Model} {A : Around} {E : Value → Shared → Prop} {s : Shared} (h : wpAny M A t Q E s) (hQ : ∀ a s, Q a s → Q' a s) : wpAny M A t Q' E s := wpAny_mono h hQ fun _ _ x => x
end L2

namespace L2
open PySem PySem.Spec PyProof.Rows
section
variable {X : Cx}

/-! ### names and constants -/
def tVar (i : Nat) : TE := fun σ H Q => ∃ v, σ[i]? = some (some v) ∧ Q v H
def tC (v : V) : TE := fun _ H Q => Q v H
theorem pe_var {i : Nat} {x : Str} {pos : Pos} (hN : X.N[i]? = some x) (hv : Vis X.env.scope x) (hd : (x == ("__debug__" : Str)) = false := by decide) (hcd : (x == ("__classdict__" : Str)) = false := by decide) : PE X (.Name x pos) (tVar i) := by
  intro pins s σ H Q I h
  obtain ⟨v, e, h⟩ := h
  obtain ⟨m, hn, hl⟩ := I.loc
  obtain ⟨u, r, l⟩ := hl i x v hN e hv
  have fin : EP X pins σ Q u s := ⟨v, H, I, r, h⟩
  rcases l with ⟨hk, hm⟩ | ⟨hk, c, hc, hcell⟩
  · exact wpAny_Name (wpAny_loadName_local I.ok.kind hk hn hm fin) hd
  · rcases hk with hk | hk
    · exact wpAny_Name (wpAny_loadName_cell I.ok.kind hk hc hcell fin) hd
    · exact wpAny_Name (wpAny_loadName_free I.ok.kind hk hc hcell fin hcd) hd
theorem pe_int {i j pos} : PE X (.Constant (.int i) j pos) (tC (.int i)) := fun _ _ _ H _ I h => wpAny_Constant_int ⟨.int i, H, I.tok _, ⟨_, rfl⟩, h⟩
theorem pe_bl {b j pos} : PE X (.Constant (.bool b) j pos) (tC (.bl b)) := fun _ _ _ H _ I h => Constant_bool ⟨.bl b, H, I, rfl, h⟩
theorem pe_str {x j pos} : PE X (.Constant (.str x) j pos) (tC (.str x)) := fun _ _ _ H _ I h => Calls.Constant_str ⟨.str x, H, I.tok _, ⟨_, rfl⟩, h⟩

/-- a global name of the def -/
def Gl (X : Cx) (x : Str) : Prop := X.env.kindOf x = some .globalImplicit
theorem ld_glob {E : Value → Shared → Prop} {pins : List (Addr × Obj)} {s : Shared} {σ : St} {H : Hp} {x : Str} {u : Value} {pos : Pos} {Q : Value → Shared → Prop} (I : Inv X pins σ H s) (hg : Gl X x) (hm : X.mg x = some u) (h : Q u s)
    (hd : (x == ("__debug__" : Str)) = false := by decide) : wpAny (model X.prog X.w) X.A (eval (.Name x pos) X.env) Q E s :=
  Calls.Name_function_global I.ok.kind hg (Calls.loadGlobal_global (by rw [I.ok.glob]; exact I.mod.glob.keeps I.bk) hm h) hd
theorem ld_blt {E : Value → Shared → Prop} {pins : List (Addr × Obj)} {s : Shared} {σ : St} {H : Hp} {x : Str} {u : Value} {pos : Pos} {Q : Value → Shared → Prop} (I : Inv X pins σ H s) (hg : Gl X x) (hm : X.mg x = none) (hv : bootBuiltins x = some u) (h : Q u s)
    (hn : x ≠ "__name__" := by decide) (hd : (x == ("__debug__" : Str)) = false := by decide) : wpAny (model X.prog X.w) X.A (eval (.Name x pos) X.env) Q E s := by
  obtain ⟨mb, h1, h2⟩ := I.mod.blt
  exact Calls.Name_function_global I.ok.kind hg (Calls.loadGlobal_builtin (by rw [I.ok.glob]; exact I.mod.glob.keeps I.bk) hm (by rw [I.ok.blt]; exact h1.keeps I.bk) ((h2 x hn).trans hv) h) hd
/-- a module's constant, a class, a function, as a value -/
theorem pe_glob {x : Str} {v : V} {u : Value} {pos : Pos} (hg : Gl X x) (hm : X.mg x = some u) (r : RelV v u) (hd : (x == ("__debug__" : Str)) = false := by decide) : PE X (.Name x pos) (tC v) :=
  fun _ _ _ H _ I h => ld_glob I hg hm ⟨v, H, I, r, h⟩ hd
theorem pe_bltn {x : Str} {v : V} {u : Value} {pos : Pos} (hg : Gl X x) (hm : X.mg x = none) (hv : bootBuiltins x = some u) (r : RelV v u) (hn : x ≠ "__name__" := by decide) (hd : (x == ("__debug__" : Str)) = false := by decide) : PE X (.Name x pos) (tC v) :=
  fun _ _ _ H _ I h => ld_blt I hg hm hv ⟨v, H, I, r, h⟩ hn hd

/-! ### arithmetic -/
/-- two ints -/
def t2I (ta tb : TE) (k : Int → Int → Hp → Prop) : St → Hp → Prop := fun σ H => ta σ H fun x H1 => tb σ H1 fun y H2 => ∃ i j, x = .int i ∧ y = .int j ∧ k i j H2
def tAdd (ta tb : TE) : TE := fun σ H Q => t2I ta tb (fun i j H2 => Q (.int (i + j)) H2) σ H
def tSub (ta tb : TE) : TE := fun σ H Q => t2I ta tb (fun i j H2 => Q (.int (i - j)) H2) σ H
/-- the left factor below 2^64 -/
def tMul (ta tb : TE) : TE := fun σ H Q => t2I ta tb (fun i j H2 => (-(2 ^ 64) < i ∧ i < 2 ^ 64) ∧ Q (.int (i * j)) H2) σ H
variable {a b : Expr} {ta tb : TE} {pos : Pos}
/-! ### comparisons -/
def PC (X : Cx) (op : CmpOp) (a b : Expr) (t : TE) : Prop :=
  ∀ (pins : List (Addr × Obj)) (s : Shared) (σ : St) (H : Hp) (Q : VK), Inv X pins σ H s → t σ H Q →
    wpAny (model X.prog X.w) X.A (eval a X.env) (fun v s₁ => wpAny (model X.prog X.w) X.A (eval b X.env) (fun u s₂ => wpAny (model X.prog X.w) X.A (compareOp op v u) (EP X pins σ Q) X.xe s₂) X.xe s₁) X.xe s
def tCmp (p : Int → Int → Bool) (ta tb : TE) : TE := fun σ H Q => t2I ta tb (fun i j H2 => Q (.bl (p i j)) H2) σ H
abbrev tLt : TE → TE → TE := tCmp fun i j => decide (i < j)
abbrev tLe : TE → TE → TE := tCmp fun i j => decide (i ≤ j)
abbrev tGt : TE → TE → TE := tCmp fun i j => decide (j < i)
abbrev tGe : TE → TE → TE := tCmp fun i j => decide (j ≤ i)
abbrev tEqI : TE → TE → TE := tCmp fun i j => decide (i = j)
abbrev tNeI : TE → TE → TE := tCmp fun i j => !decide (i = j)
/-- is None -/
def tIsN (ta : TE) : TE := fun σ H Q => ta σ H fun x H1 => Q (.bl (decide (x = .non))) H1
def tNotN (ta : TE) : TE := fun σ H Q => ta σ H fun x H1 => Q (.bl (!decide (x = .non))) H1
/-- a comparison as a value, as a test -/
def tB (t : TE) : TT := fun σ H Q => t σ H fun x H1 => ∃ c, x = .bl c ∧ Q c H1
/-- an expression whose value is a bool, as a test -/
theorem pt_val {e : Expr} {t : TE} (h : PE X e t) (he : ∀ whole, isTrue e X.env whole = (do let v ← whole; standAt e.pos; holding [v] (truthy v)) := by intro _; rfl) : PT X e (tB t) := by
  intro pins s σ H Q I hw
  refine isTrue_plain (thn (h pins s σ H _ I hw) fun v s1 ⟨x, H1, I1, r1, q1⟩ => ?_) (he _)
  obtain ⟨d, rfl, q⟩ := q1
  cases r1
  exact wpAny_truthy_bool ⟨H1, I1, q⟩

/-! ### and, or, not -/
variable {tA tB' : TT} {rest : List Expr}
def tAnd (t u : TT) : TT := fun σ H Q => t σ H fun c H1 => if c = true then u σ H1 Q else Q false H1
def tOr (t u : TT) : TT := fun σ H Q => t σ H fun c H1 => if c = true then Q true H1 else u σ H1 Q
def tNot (t : TT) : TT := fun σ H Q => t σ H fun c H1 => Q (!c) H1
theorem pw_and1 (ha : PT X a tA) : PW X (.BoolOp .And [a] pos) tA := by
  intro wh pins s σ H Q I h
  refine isTrue_and (thn (ha pins s σ H Q I h) fun c s1 e => ?_)
  cases c with
  | true => exact isTrue_and_nil e
  | false => exact e
theorem pw_or1 (ha : PT X a tA) : PW X (.BoolOp .Or [a] pos) tA := by
  intro wh pins s σ H Q I h
  refine isTrue_or (thn (ha pins s σ H Q I h) fun c s1 e => ?_)
  cases c with
  | false => exact isTrue_or_nil e
  | true => exact e
theorem pw_and (ha : PT X a tA) (hb : PW X (.BoolOp .And (b :: rest) pos) tB') : PW X (.BoolOp .And (a :: b :: rest) pos) (tAnd tA tB') := by
  intro wh pins s σ H Q I h
  refine isTrue_and (thn (ha pins s σ H _ I h) fun c s1 ⟨H1, I1, q1⟩ => ?_)
  cases c with
  | true => exact hb wh pins s1 σ H1 Q I1 q1
  | false => exact ⟨H1, I1, q1⟩
theorem pw_or (ha : PT X a tA) (hb : PW X (.BoolOp .Or (b :: rest) pos) tB') : PW X (.BoolOp .Or (a :: b :: rest) pos) (tOr tA tB') := by
  intro wh pins s σ H Q I h
  refine isTrue_or (thn (ha pins s σ H _ I h) fun c s1 ⟨H1, I1, q1⟩ => ?_)
  cases c with
  | true => exact ⟨H1, I1, q1⟩
  | false => exact hb wh pins s1 σ H1 Q I1 q1
theorem pt_not (ha : PT X a tA) : PT X (.UnaryOp .Not a pos) (tNot tA) := by
  intro pins s σ H Q I h
  exact isTrue_not (ha pins s σ H (fun c H1 => Q (!c) H1) I h)
/-- .. as values (bools) -/
def tAndV (ta tb : TE) : TE := fun σ H Q => ta σ H fun x H1 => ∃ c, x = .bl c ∧ if c = true then tb σ H1 Q else Q (.bl false) H1
def tOrV (ta tb : TE) : TE := fun σ H Q => ta σ H fun x H1 => ∃ c, x = .bl c ∧ if c = true then Q (.bl true) H1 else tb σ H1 Q
def tNotV (ta : TE) : TE := fun σ H Q => ta σ H fun x H1 => ∃ c, x = .bl c ∧ Q (.bl (!c)) H1
theorem pe_one {op} {t : TE} (h : PE X a t) : PE X (.BoolOp op [a] pos) t := fun pins s σ H Q I hw => BoolOp_one (h pins s σ H Q I hw)
theorem pe_and (ha : PE X a ta) (hb : PE X (.BoolOp .And (b :: rest) pos) tb) : PE X (.BoolOp .And (a :: b :: rest) pos) (tAndV ta tb) := by
  intro pins s σ H Q I h
  refine BoolOp_and (thn (ha pins s σ H _ I h) fun v s1 ⟨x, H1, I1, r1, q1⟩ => ?_)
  obtain ⟨c, rfl, q1⟩ := q1
  cases r1
  refine wpAny_truthy_bool ?_
  cases c with
  | true => exact hb pins s1 σ H1 Q I1 q1
  | false => exact ⟨.bl false, H1, I1, rfl, q1⟩
theorem pe_or (ha : PE X a ta) (hb : PE X (.BoolOp .Or (b :: rest) pos) tb) : PE X (.BoolOp .Or (a :: b :: rest) pos) (tOrV ta tb) := by
  intro pins s σ H Q I h
  refine BoolOp_or (thn (ha pins s σ H _ I h) fun v s1 ⟨x, H1, I1, r1, q1⟩ => ?_)
  obtain ⟨c, rfl, q1⟩ := q1
  cases r1
  refine wpAny_truthy_bool ?_
  cases c with
  | false => exact hb pins s1 σ H1 Q I1 q1
  | true => exact ⟨.bl true, H1, I1, rfl, q1⟩
theorem pe_not (ha : PE X a ta) : PE X (.UnaryOp .Not a pos) (tNotV ta) := by
  intro pins s σ H Q I h
  refine UnaryOp_ (thn (ha pins s σ H _ I h) fun v s1 ⟨x, H1, I1, r1, q1⟩ => ?_)
  obtain ⟨c, rfl, q1⟩ := q1
  cases r1
  exact not_of (wpAny_truthy_bool ⟨.bl (!c), H1, I1, rfl, q1⟩)
/-- a if t else b -/
def tIf (t : TT) (ta tb : TE) : TE := fun σ H Q => t σ H fun c H1 => if c = true then ta σ H1 Q else tb σ H1 Q
end
end L2

namespace L2
open PySem PySem.Spec PyProof.Rows

/-! ### a list, a tuple that is read: tracked, frozen, or an object of the module -/
def SqL (K : PySem.W.Frag) (H : Hp) (a : Addr) (xs : List V) : Prop :=
  Rd H a (.lst xs) ∨
    ∃ (o : Obj) (its : Array Value) (n : Nat), K.lookup a = some o ∧ o.cls = .type "list" ∧ o.dict = none ∧ o.data = .seq its n ∧ its.size ≤ sizeLine ∧ Vals xs its.toList
def SqT (K : PySem.W.Frag) (H : Hp) (a : Addr) (xs : List V) : Prop :=
  Rd H a (.tup xs) ∨
    ∃ (o : Obj) (its : Array Value) (n : Nat), K.lookup a = some o ∧ o.cls = .type "tuple" ∧ o.data = .seq its n ∧ its.size ≤ sizeLine ∧ Vals xs its.toList
def absV : Value → Option V
  | .none => some .non
  | .bool b => some (.bl b)
  | .int i _ => some (.int i)
  | .str x _ => some (.str x)
  | .bytes b _ => some (.byt b)
  | .float b _ => some (.flt b)
  | .ref a => some (.ref a)
  | .type n => some (.ty n)
  | _ => none
theorem RelV.abs {x : V} {u : Value} (r : RelV x u) : absV u = some x := by
  cases x with
  | non => cases r; rfl
  | bl _ => cases r; rfl
  | int _ => obtain ⟨t, rfl⟩ := r; rfl
  | str _ => obtain ⟨t, rfl⟩ := r; rfl
  | byt _ => obtain ⟨t, rfl⟩ := r; rfl
  | flt _ => obtain ⟨t, rfl⟩ := r; rfl
  | ref _ => cases r; rfl
  | ty _ => cases r; rfl
theorem RelV.inj {x y : V} {u : Value} (r : RelV x u) (q : RelV y u) : x = y := Option.some.inj (r.abs.symm.trans q.abs)
theorem Vals.inj : ∀ {xs ys : List V} {us : List Value}, Vals xs us → Vals ys us → xs = ys
  | _, _, _, .nil, .nil => rfl
  | _, _, _, .cons r t, .cons r' t' => by rw [r.inj r', Vals.inj t t']
section
variable {X : Cx} {pins : List (Addr × Obj)} {σ : St} {H : Hp} {s : Shared} {a : Addr} {xs ys : List V}
theorem SqL.of {K : PySem.W.Frag} (h : H a = some (.lst xs)) : SqL K H a xs := .inl (.inl h)
theorem SqT.of {K : PySem.W.Frag} (h : H a = some (.tup xs)) : SqT K H a xs := .inl (.inl h)
theorem Inv.list (I : Inv X pins σ H s) (h : SqL X.K H a xs) : ∃ its : List Value, Vals xs its ∧ PlainL s.heap a its.toArray ∧ xs.length ≤ sizeLine := by
  rcases h with h | ⟨o, its, n, hk, hc, hd, hs, hz, r⟩
  · obtain ⟨z, its, n, r, e⟩ := h.ok I.hok
    exact ⟨its, r, ⟨_, n, e, rfl, rfl, rfl⟩, z⟩
  · refine ⟨its.toList, r, ⟨o, n, I.kIn a o hk, hc, hd, by simpa using hs⟩, ?_⟩
    have e := r.length
    simp only [Array.length_toList] at e
    omega
theorem Inv.tuple (I : Inv X pins σ H s) (h : SqT X.K H a xs) : ∃ its : List Value, Vals xs its ∧ IsTup s.heap a its.toArray ∧ xs.length ≤ sizeLine := by
  rcases h with h | ⟨o, its, n, hk, hc, hs, hz, r⟩
  · obtain ⟨z, its, r, p⟩ := h.ok I.hok
    exact ⟨its, r, p, z⟩
  · refine ⟨its.toList, r, ⟨o, I.kIn a o hk, hc, n, by simpa using hs⟩, ?_⟩
    have e := r.length
    simp only [Array.length_toList] at e
    omega
theorem Inv.list_inj (I : Inv X pins σ H s) (h : SqL X.K H a xs) (h' : SqL X.K H a ys) : xs = ys := by
  obtain ⟨its, r, ⟨o, n, e, _, _, d⟩, _⟩ := I.list h
  obtain ⟨its', r', ⟨o', n', e', _, _, d'⟩, _⟩ := I.list h'
  rw [e] at e'; cases e'
  rw [d] at d'
  injection d' with d1 _
  have : its = its' := by simpa using congrArg Array.toList d1
  subst this
  exact r.inj r'
theorem Inv.tuple_inj (I : Inv X pins σ H s) (h : SqT X.K H a xs) (h' : SqT X.K H a ys) : xs = ys := by
  obtain ⟨its, r, ⟨o, e, _, n, d⟩, _⟩ := I.tuple h
  obtain ⟨its', r', ⟨o', e', _, n', d'⟩, _⟩ := I.tuple h'
  rw [e] at e'; cases e'
  rw [d] at d'
  injection d' with d1 _
  have : its = its' := by simpa using congrArg Array.toList d1
  subst this
  exact r.inj r'
end

/-! ### another wish about exceptions -/
abbrev Cx.wish (X : Cx) (E : Value → Shared → Prop) : Cx := { X with xe := E }
/-- no exception leaves -/
abbrev Cx.nox (X : Cx) : Cx := X.wish fun _ _ => False
theorem Cx.Ok.wish {X : Cx} (ok : X.Ok) (E : Value → Shared → Prop) : (X.wish E).Ok :=
  ⟨ok.mod, ok.kind, ok.glob, ok.blt, ok.above, ok.inj, ok.has, ok.cab, ok.hd, ok.frames, ok.stk, ok.exf, ok.bs, ok.bsz, ok.noex, ok.exfs, ok.funs, ok.frf⟩
theorem Cx.Ok.unwish {X : Cx} {E : Value → Shared → Prop} (ok : (X.wish E).Ok) : X.Ok :=
  ⟨ok.mod, ok.kind, ok.glob, ok.blt, ok.above, ok.inj, ok.has, ok.cab, ok.hd, ok.frames, ok.stk, ok.exf, ok.bs, ok.bsz, ok.noex, ok.exfs, ok.funs, ok.frf⟩
section
variable {X : Cx} {pins : List (Addr × Obj)} {σ : St} {H : Hp} {s : Shared} {E : Value → Shared → Prop}
theorem Inv.wish (I : Inv X pins σ H s) (E : Value → Shared → Prop) : Inv (X.wish E) pins σ H s := ⟨I.ok.wish E, I.os, I.bare, I.base, I.loc, I.cell, I.free, I.freeC, I.pin, I.hok, I.len⟩
theorem Inv.unwish (I : Inv (X.wish E) pins σ H s) : Inv X pins σ H s := ⟨I.ok.unwish, I.os, I.bare, I.base, I.loc, I.cell, I.free, I.freeC, I.pin, I.hok, I.len⟩
theorem SP.unwish {D : Ends} {f : Flow} {s' : Shared} (h : SP (X.wish E) pins D f s') : SP X pins D f s' := by
  cases f with
  | next => obtain ⟨σ', H', I, q⟩ := h; exact ⟨σ', H', I.unwish, q⟩
  | brk => obtain ⟨σ', H', I, q⟩ := h; exact ⟨σ', H', I.unwish, q⟩
  | cont => obtain ⟨σ', H', I, q⟩ := h; exact ⟨σ', H', I.unwish, q⟩
  | ret u => obtain ⟨v, σ', H', I, r, q⟩ := h; exact ⟨v, σ', H', I.unwish, r, q⟩
theorem PSs.nox {st : List Stmt} {t : TS} (h : PSs X.nox st t) : PSs X st t := fun pins s σ H D I hw =>
  wpAny_mono (h pins s σ H D (I.wish _) hw) (fun _ _ q => q.unwish) fun _ _ z => False.elim z
end

/-! ### blocks and small statements -/
section
variable {X : Cx} {st : Stmt} {rest : List Stmt} {t u : TS} {e : Expr} {te : TE} {pos : Pos}
def tNext : TS := fun D σ H => D.nx σ H
def tSeq (t u : TS) : TS := fun D σ H => t { D with nx := u D } σ H
theorem pss_nil : PSs X [] tNext := fun _ _ σ H _ I h => wpAny_execs_nil ⟨σ, H, I, h⟩
theorem pss_cons (h1 : PS X st t) (h2 : PSs X rest u) : PSs X (st :: rest) (tSeq t u) := by
  intro pins s σ H D I h
  refine wpAny_execs_cons (thn (h1 pins s σ H { D with nx := u D } I h) fun f s1 q => ?_)
  cases f with
  | next =>
    obtain ⟨σ', H', I', q⟩ := q
    exact h2 pins s1 σ' H' D I' q
  | ret v => exact q
  | brk => exact q
  | cont => exact q
theorem pss_one (h1 : PS X st t) : PSs X [st] t := by
  intro pins s σ H D I h
  refine wpAny_execs_cons (thn (h1 pins s σ H D I h) fun f s1 q => ?_)
  cases f with
  | next => exact wpAny_execs_nil q
  | ret v => exact q
  | brk => exact q
  | cont => exact q
def tBreak : TS := fun D σ H => D.bk σ H
def tCont : TS := fun D σ H => D.ct σ H
/-- in a def's body nothing is shown -/
theorem Inv.quiet {pins : List (Addr × Obj)} {σ : St} {H : Hp} {s : Shared} (I : Inv X pins σ H s) : interactive X.env = false := by simp [interactive, I.ok.kind]
/-- an expression whose value is dropped -/
def tDrop (te : TE) : TS := fun D σ H => te σ H fun _ H1 => D.nx σ H1
theorem ps_expr (he : PE X e te) (hs : swapsWith e none pos.line X.env = pure false := by rfl) : PS X (.Expr e pos) (tDrop te) := by
  intro pins s σ H D I h
  exact wpAny_Expr_any (thn (he pins s σ H _ I h) fun v s1 ⟨x, H1, I1, r1, q1⟩ => ⟨σ, H1, I1, q1⟩) I.quiet hs
def tRet (te : TE) : TS := fun D σ H => te σ H D.rt
theorem ps_ret (he : PE X e te) : PS X (.Return (some e) pos) (tRet te) := by
  intro pins s σ H D I h
  exact wpAny_Return_some (thn (he pins s σ H _ I h) fun v s1 ⟨x, H1, I1, r1, q1⟩ => ⟨x, σ, H1, I1, r1, q1⟩)
def tRetN : TS := fun D _ H => D.rt .non H
def tIfS (c : TT) (t u : TS) : TS := fun D σ H => c σ H fun b H1 => if b = true then t D σ H1 else u D σ H1
theorem ps_if {c : Expr} {a b : List Stmt} {tc : TT} (hc : PT X c tc) (ha : PSs X a t) (hb : PSs X b u) : PS X (.If c a b pos) (tIfS tc t u) := by
  intro pins s σ H D I h
  refine wpAny_If (thn (hc pins s σ H _ I h) fun d s1 ⟨H1, I1, q1⟩ => ?_)
  cases d with
  | true => exact ha pins s1 σ H1 D I1 q1
  | false => exact hb pins s1 σ H1 D I1 q1
/-- code that the proof never comes to -/
def tNever : TS := fun _ _ _ => False
theorem ps_never : PS X st tNever := fun _ _ _ _ _ _ h => h.elim
end

/-! ### targets -/
abbrev TG := V → St → Hp → (St → Hp → Prop) → Prop
abbrev TGs := List V → St → Hp → (St → Hp → Prop) → Prop
def PG (X : Cx) (target : Expr) (t : TG) : Prop :=
  ∀ (pins : List (Addr × Obj)) (s : Shared) (σ : St) (H : Hp) (v : V) (u : Value) (Q : St → Hp → Prop), Inv X pins σ H s → RelV v u → t v σ H Q →
    wpAny (model X.prog X.w) X.A (assign target X.env u) (fun _ s' => ∃ σ' H', Inv X pins σ' H' s' ∧ Q σ' H') X.xe s
/-- several targets, one after another -/
def PGs (X : Cx) (ts : List Expr) (t : TGs) : Prop :=
  ∀ (pins : List (Addr × Obj)) (s : Shared) (σ : St) (H : Hp) (vs : List V) (us : List Value) (Q : St → Hp → Prop), Inv X pins σ H s → Vals vs us → t vs σ H Q →
    wpAny (model X.prog X.w) X.A (assignInOrder ((assignEach ts X.env).map (·.2)) us) (fun _ s' => ∃ σ' H', Inv X pins σ' H' s' ∧ Q σ' H') X.xe s
/-- o[i] = v, by values -/
abbrev TSet := V → V → V → Hp → (Hp → Prop) → Prop
def PSet (X : Cx) (t : TSet) : Prop :=
  ∀ (pins : List (Addr × Obj)) (s : Shared) (σ : St) (H : Hp) (o i v : V) (ov iv u : Value) (Q : Hp → Prop), Inv X pins σ H s → RelV o ov → RelV i iv → RelV v u → t o i v H Q →
    wpAny (model X.prog X.w) X.A (setItem ov iv u) (fun _ s' => ∃ H', Inv X pins σ H' s' ∧ Q H') X.xe s
/-- a op= b, by values -/
abbrev TIp := V → V → Hp → VK → Prop
def PIp (X : Cx) (op : Operator) (t : TIp) : Prop :=
  ∀ (pins : List (Addr × Obj)) (s : Shared) (σ : St) (H : Hp) (x y : V) (v u : Value) (Q : VK), Inv X pins σ H s → RelV x v → RelV y u → t x y H Q →
    wpAny (model X.prog X.w) X.A (inplaceOp op v u) (EP X pins σ Q) X.xe s
section
variable {X : Cx} {pos : Pos}
def gName (i : Nat) : TG := fun v σ H Q => Q (σ.set i (some v)) H
theorem pg_name {i : Nat} {x : Str} (hN : X.N.Nodup) (hi : X.N[i]? = some x) (hx : Loc X.env.scope x) (hf : X.fn x = true ∨ X.env.scope.names.lookup x = some .local := by first | exact .inl rfl | exact .inr rfl | assumption) : PG X (.Name x pos) (gName i) := by
  intro pins s σ H v u Q I r h
  exact wpAny_assign_Name (store_ok I hN hi hx r (fun s' I' => ⟨_, H, I', h⟩) hf)
def gNil : TGs := fun vs σ H Q => vs = [] ∧ Q σ H
def gCons (t : TG) (u : TGs) : TGs := fun vs σ H Q => ∃ v r, vs = v :: r ∧ t v σ H fun σ' H' => u r σ' H' Q
theorem pgs_nil : PGs X [] gNil := by
  intro pins s σ H vs us Q I r h
  obtain ⟨e, h⟩ := h
  subst e
  cases r
  exact assignInOrder_nil ⟨σ, H, I, h⟩
theorem pgs_cons {e : Expr} {es : List Expr} {t : TG} {u : TGs} (h1 : PG X e t) (h2 : PGs X es u)
    (hs : (assignEach (e :: es) X.env).map (·.2) = assign e X.env :: (assignEach es X.env).map (·.2) := by rfl) : PGs X (e :: es) (gCons t u) := by
  intro pins s σ H vs us Q I r h
  obtain ⟨v, vr, e1, h⟩ := h
  subst e1
  cases r with
  | cons r rr =>
    rw [hs]
    refine assignInOrder_cons (thn (h1 pins s σ H _ _ _ I r h) fun _ s1 ⟨σ1, H1, I1, q1⟩ => ?_)
    exact h2 pins s1 σ1 H1 _ _ Q I1 rr q1
/-- (a, b, ..) = a tuple of that length -/
def gTup (K : PySem.W.Frag) (n : Nat) (t : TGs) : TG := fun v σ H Q => ∃ a xs, v = .ref a ∧ SqT K H a xs ∧ xs.length = n ∧ t xs σ H Q
theorem pg_tup {es : List Expr} {k : Nat} {t : TGs} {n : Nat} (hc : X.calm = true) (h : PGs X es t)
    (hn : (assignEach es X.env).length = n := by rfl) (hst : (assignEach es X.env).findIdx? (·.1) = none := by rfl) : PG X (.Tuple es k pos) (gTup X.K n t) := by
  intro pins s σ H v u Q I r hw
  obtain ⟨a, xs, e1, hq, hl, hw⟩ := hw
  subst e1
  cases r
  obtain ⟨its, rv, ht, hz⟩ := I.tuple hq
  refine assign_Tuple_tuple (I.ok.hd hc) ht (by simp [hn, ← hl, rv.length]) hst fun h' hx => ?_
  have I1 : Inv X pins σ H { s with heap := h' } := I.kept (t' := s.toks) fun b o e => hx b o (Nat.ne_of_lt (Heap.lt_size e)) e
  exact h pins _ σ H xs _ Q I1 (by simpa using rv) hw
/-- o[i] = .. -/
def gSub (to ti : TE) (t : TSet) : TG := fun v σ H Q => to σ H fun o H1 => ti σ H1 fun i H2 => t o i v H2 fun H3 => Q σ H3
theorem pg_sub {o i : Expr} {to ti : TE} {t : TSet} (ho : PE X o to) (hi : PE X i ti) (hs : PSet X t)
    (ha : ∀ v, assign (.Subscript o i pos) X.env v = (do
      let ov ← holding [v] (eval o X.env)
      let iv ← holding [v, ov] (eval i X.env)
      standAt pos
      holding [v, ov, iv] (setItem ov iv v)
      release [v, ov, iv] []) := by intro _; rfl) : PG X (.Subscript o i pos) (gSub to ti t) := by
  intro pins s σ H v u Q I r h
  rw [ha]
  refine wpAny_bind (wpAny_holding (thn (ho pins s σ H _ I h) fun ov s1 ⟨x, H1, I1, r1, q1⟩ => ?_))
  refine wpAny_bind (wpAny_holding (thn (hi pins s1 σ H1 _ I1 q1) fun iv s2 ⟨y, H2, I2, r2, q2⟩ => ?_))
  refine wpAny_bind (wpAny_standAt (wpAny_bind (wpAny_holding (thn (hs pins s2 σ H2 x y v ov iv u _ I2 r1 r2 r q2) fun _ s3 ⟨H3, I3, q3⟩ => ?_))))
  exact wpAny_release ⟨σ, H3, I3, q3⟩
/-- target = value -/
def tAsg (te : TE) (g : TG) : TS := fun D σ H => te σ H fun x H1 => g x σ H1 D.nx
theorem ps_asg {tg e : Expr} {te : TE} {g : TG} (he : PE X e te) (hg : PG X tg g) (hs : swapsWithSole [tg] e pos.line X.env = pure false := by rfl) (hw : swappedStores [tg] e X.env = pure none := by rfl)
    (h1 : (assignEach [tg] X.env).map (·.2) = [assign tg X.env] := by rfl) : PS X (.Assign [tg] e pos) (tAsg te g) := by
  intro pins s σ H D I h
  refine wpAny_Assign_stores (thn (he pins s σ H _ I h) fun v s1 ⟨x, H1, I1, r1, q1⟩ => ?_) hs hw
  rw [h1]
  exact thn (hg pins s1 σ H1 x v _ I1 r1 q1) fun _ s2 q => q
/-- name = value -/
theorem ps_set {i : Nat} {x : Str} {e : Expr} {te : TE} {pos' : Pos} (hN : X.N.Nodup) (hi : X.N[i]? = some x) (hx : Loc X.env.scope x) (he : PE X e te) (hs : swapsWith e (some (.Name x pos')) pos.line X.env = pure false := by rfl) (hf : X.fn x = true ∨ X.env.scope.names.lookup x = some .local := by first | exact .inl rfl | exact .inr rfl | assumption) :
    PS X (.Assign [.Name x pos'] e pos) (tAsg te (gName i)) := by
  intro pins s σ H D I h
  refine wpAny_Assign_Name (thn (he pins s σ H _ I h) fun v s1 ⟨y, H1, I1, r1, q1⟩ => ?_) hs
  exact store_ok I1 hN hi hx r1 (fun s2 I2 => ⟨_, H1, I2, q1⟩) hf
/-- a, b = x, y with plain local names: stored from the right; the pair itself is not tracked (the opening rows as in PyProof/Rows/TupAssign.lean:23) -/
def tPar (i j : Nat) (ta : TA) : TS := fun D σ H => ta σ H fun vs H1 => ∃ v w, vs = [v, w] ∧ D.nx ((σ.set i (some v)).set j (some w)) H1
/-- name op= e -/
def tAug (i : Nat) (te : TE) (ti : TIp) : TS := fun D σ H => ∃ x, σ[i]? = some (some x) ∧ te σ H fun y H1 => ti x y H1 fun z H2 => D.nx (σ.set i (some z)) H2
/-- o[i] op= e -/
def tAugS (to ti te : TE) (tget : V → V → Hp → VK → Prop) (tip : TIp) (tset : TSet) : TS := fun D σ H => to σ H fun o H1 => ti σ H1 fun i H2 => tget o i H2 fun x H3 => te σ H3 fun y H4 => tip x y H4 fun z H5 => tset o i z H5 fun H6 => D.nx σ H6
/-- o[i], by values -/
def PGet (X : Cx) (t : V → V → Hp → VK → Prop) : Prop :=
  ∀ (pins : List (Addr × Obj)) (s : Shared) (σ : St) (H : Hp) (o i : V) (ov iv : Value) (Q : VK), Inv X pins σ H s → RelV o ov → RelV i iv → t o i H Q →
    wpAny (model X.prog X.w) X.A (getItem ov iv) (EP X pins σ Q) X.xe s
/-- ints -/
def ipI (f : Int → Int → Int) : TIp := fun x y H Q => ∃ i j, x = .int i ∧ y = .int j ∧ Q (.int (f i j)) H
end

/-! ### while -/
section
variable {X : Cx} {pos : Pos}
/-- the invariant W with its measure -/
def tWhile (c : TT) (tb : TS) : TS := fun D σ H => ∃ W : Nat → St → Hp → Prop, (∃ m, W m σ H) ∧ ∀ m σ H, W m σ H →
  c σ H fun b H1 => if b = true then ∃ N : St → Hp → Prop, (∀ σ' H', N σ' H' → ∃ m', m' < m ∧ W m' σ' H') ∧ tb { D with nx := N, ct := N, bk := D.nx } σ H1 else D.nx σ H1
theorem ps_while {c : Expr} {body : List Stmt} {tc : TT} {tb : TS} (hp : PassesOwn (model X.prog X.w) X.A X.env X.xe) (hc : PT X c tc) (hb : PSs X body tb) : PS X (.While c body [] pos) (tWhile tc tb) := by
  intro pins s σ H D I h
  obtain ⟨W, ⟨m0, w0⟩, turn⟩ := h
  refine wpAny_While (codeAny_whileLoop (fun n s' => ∃ σ' H', Inv X pins σ' H' s' ∧ W n σ' H') ?_ m0 ⟨σ, H, I, w0⟩)
  rintro n s1 ⟨σ1, H1, I1, w1⟩
  refine wpAny_passesOwn hp (thn (hc pins s1 σ1 H1 _ I1 (turn n σ1 H1 w1)) fun b s2 ⟨H2, I2, q2⟩ => ?_)
  cases b with
  | true =>
    obtain ⟨N, hN, q2⟩ := q2
    rw [if_pos rfl]
    refine wpAny_passesOwn hp (thn (hb pins s2 σ1 H2 _ I2 q2) fun f s3 q3 => ?_)
    cases f with
    | next =>
      obtain ⟨σ3, H3, I3, n3⟩ := q3
      obtain ⟨m', hm, w3⟩ := hN σ3 H3 n3
      exact ⟨m', hm, σ3, H3, I3, w3⟩
    | cont =>
      obtain ⟨σ3, H3, I3, n3⟩ := q3
      obtain ⟨m', hm, w3⟩ := hN σ3 H3 n3
      exact ⟨m', hm, σ3, H3, I3, w3⟩
    | brk => exact q3
    | ret v => exact q3
  | false =>
    rw [if_neg Bool.false_ne_true]
    exact wpAny_execs_nil ⟨σ1, H2, I2, q2⟩
end

/-! ### what a loop or a comprehension walks -/
/-- at turn i: it yields x (the heap may grow), or it stops -/
structure It where
  go : Nat → Hp → Prop
  yld : Nat → Hp → V → Hp → Prop
  stop : Nat → Hp → Prop
/-- the iterator's own objects may turn: they are not the frame's, not pinned, younger than the entry (or a comprehension's own) -/
def FpOk (X : Cx) (pins : List (Addr × Obj)) (H : Hp) (b : Addr) : Prop :=
  H b = none ∧ b ≠ X.env.locals ∧ b ∉ X.fs ∧ (b ∈ X.ex ∨ X.s₀.heap.objs.size ≤ b) ∧ (∀ x c, X.env.cells.lookup x = some c → c ≠ b) ∧ ∀ p ∈ X.pn ++ pins, p.1 ≠ b
theorem Inv.fpOk {X : Cx} {pins : List (Addr × Obj)} {σ : St} {H H' : Hp} {s : Shared} {b : Addr} (I : Inv X pins σ H s) (hb : s.heap.objs.size ≤ b) (hn : H' b = none) : FpOk X pins H' b := by
  refine ⟨hn, Nat.ne_of_gt (Nat.lt_of_lt_of_le I.lt hb), I.nofs hb, .inr (Nat.le_trans I.sz hb), fun x c e z => ?_, fun p hp z => ?_⟩
  · obtain ⟨v, q⟩ := I.cell x c e
    exact absurd (Nat.lt_of_lt_of_le q.lt (by rw [z]; exact hb)) (Nat.lt_irrefl _)
  · exact absurd (Nat.lt_of_lt_of_le (Heap.lt_size (I.pin p hp).1) (by rw [z]; exact hb)) (Nat.lt_irrefl _)
structure Turn (P : Program) (w : World) (K : PySem.W.Frag) (tg : Expr) (J : It) (fp : List Addr) (it : Addr) (tn : Nat → Heap → Prop) : Prop where
  mem : it ∈ fp
  obj : ∀ i h, tn i h → ∀ b ∈ fp, ∃ o, h.get? b = some o ∧ ∀ v, o.data ≠ .cell v
  keep : ∀ i h h', tn i h → (∀ b ∈ fp, ∀ o, h.get? b = some o → h'.get? b = some o) → tn i h'
  item : ∀ (X : Cx), X.prog = P → X.w = w → X.K = K → X.calm = true → ∀ (i : Nat) (pins : List (Addr × Obj)) (s : Shared) (σ : St) (H : Hp) (E : Value → Shared → Prop), Inv X pins σ H s → (∀ b ∈ fp, FpOk X pins H b) → tn i s.heap → J.go i H →
    wpAny (model P w) X.A (pyNext (.ref it)) (fun r s1 => ∃ u, r = some u ∧
      wpAny (model P w) X.A (letOwnedTupleGo tg (.ref it) u) (fun _ s2 => ∃ x H', Inv X pins σ H' s2 ∧ RelV x u ∧ J.yld i H x H' ∧ tn (i + 1) s2.heap ∧ ∀ b ∈ fp, H' b = none) E s1) E s
  done : ∀ (X : Cx), X.prog = P → X.w = w → X.K = K → X.calm = true → ∀ (i : Nat) (pins : List (Addr × Obj)) (s : Shared) (σ : St) (H : Hp) (E : Value → Shared → Prop), Inv X pins σ H s → (∀ b ∈ fp, FpOk X pins H b) → tn i s.heap → J.stop i H →
    wpAny (model P w) X.A (pyNext (.ref it)) (fun r s1 => r = none ∧ Inv X pins σ H s1) E s
  self : ∀ (A : Around) (i : Nat) (s : Shared) (Q : Value → Shared → Prop) (E : Value → Shared → Prop), tn i s.heap → Q (.ref it) s → wpAny (model P w) A (pyIter (.ref it)) Q E s
abbrev TI := St → Hp → (It → Hp → Prop) → Prop
/-- an iterator has come -/
def PIE (X : Cx) (pins : List (Addr × Obj)) (σ : St) (tg : Expr) (R : It → Hp → Prop) (itv : Value) (s2 : Shared) : Prop :=
  ∃ (it : Addr) (fp : List Addr) (tn : Nat → Heap → Prop) (J : It) (H' : Hp), itv = .ref it ∧ Inv X pins σ H' s2 ∧ Turn X.prog X.w X.K tg J fp it tn ∧ tn 0 s2.heap ∧ (∀ b ∈ fp, FpOk X pins H' b) ∧ R J H'
def PI (X : Cx) (tg iter : Expr) (wi : TI) : Prop :=
  ∀ (pins : List (Addr × Obj)) (s : Shared) (σ : St) (H : Hp) (R : It → Hp → Prop), Inv X pins σ H s → wi σ H R →
    wpAny (model X.prog X.w) X.A (eval iter X.env) (fun v s1 => wpAny (model X.prog X.w) X.A (pyIter v) (PIE X pins σ tg R) X.xe s1) X.xe s

/-- the step ahead of the store is nothing for an iterator that keeps no tuple -/
theorem go_of {M : Model} {A : Around} {E : Value → Shared → Prop} {s : Shared} {tg : Expr} {it : Addr} {u : Value} {o : Obj} {n : String} {vs : Array Value} {Q : Unit → Shared → Prop} (ho : s.heap.get? it = some o) (hc : o.cls = .type n) (hd : o.data = .fields vs)
    (hn : ["enumerate", "zip", "dict_itemiterator", "dict_reverseitemiterator", "odict_iterator", "itertools.zip_longest", "itertools.pairwise"].contains n = false) (hQ : Q () s) : wpAny M A (letOwnedTupleGo tg (.ref it) u) Q E s := by
  unfold letOwnedTupleGo
  cases tg <;> first
    | exact wpAny_pure hQ
    | (cases u <;> first
        | exact wpAny_pure hQ
        | (refine wpAny_bind (wpAny_load ho ?_)
           rw [hc, hd]
           show wpAny M A (if (["enumerate", "zip", "dict_itemiterator", "dict_reverseitemiterator", "odict_iterator", "itertools.zip_longest", "itertools.pairwise"].contains n && vs[0]? == some (rawInt _)) = true then _ else _) Q E s
           rw [if_neg (by intro h; rw [hn, Bool.false_and] at h; cases h)]
           exact wpAny_pure hQ))

/-- the list at a, as it stands at each turn (a loop may append to it) -/
def Itl (K : PySem.W.Frag) (a : Addr) : It :=
  ⟨fun i H => ∃ xs x, SqL K H a xs ∧ xs[i]? = some x, fun i H x H' => H' = H ∧ ∀ xs, SqL K H a xs → xs[i]? = some x, fun i H => ∃ xs, SqL K H a xs ∧ xs.length ≤ i⟩
def Itt (K : PySem.W.Frag) (a : Addr) : It :=
  ⟨fun i H => ∃ xs x, SqT K H a xs ∧ xs[i]? = some x, fun i H x H' => H' = H ∧ ∀ xs, SqT K H a xs → xs[i]? = some x, fun i H => ∃ xs, SqT K H a xs ∧ xs.length ≤ i⟩
/-- lo, lo + 1, .. (n of them) -/
def Itr (lo : Int) (n : Nat) : It := ⟨fun i _ => i < n, fun i H x H' => H' = H ∧ x = .int (lo + i), fun i _ => n ≤ i⟩
theorem turn_list {P : Program} {w : World} {K : PySem.W.Frag} {tg : Expr} (a it : Addr) : Turn P w K tg (Itl K a) [it] it (fun i h => h.IsListIter it a i) where
  mem := by simp
  obj := fun i h st b hb => by
    have e : b = it := by simpa using hb
    subst e
    obtain ⟨o, e, c, d⟩ := st
    exact ⟨o, e, fun v z => by rw [d] at z; cases z⟩
  keep := fun i h h' st k => st.at fun o e => k it (by simp) o e
  item := by
    intro X hP hw hK hc i pins s σ H E I hf st hg
    subst hP hw hK
    obtain ⟨xs, x, hq, hx⟩ := hg
    obtain ⟨its, rv, p, hz⟩ := I.list hq
    obtain ⟨u, hu, ru⟩ := rv.get hx
    obtain ⟨f0, f1, f2, f3, f4, f5⟩ := hf it (by simp)
    refine wpAny_pyNext_list_item st p.isList (x := u) (by simpa using hu) fun h' st' sb => ?_
    have I1 : Inv X pins σ H { s with heap := h' } := I.turned (t' := s.toks) (fun b o hb e => (sb.2 b hb).trans e) f0 f1 f3 f4 f5
    obtain ⟨o, e, c, d⟩ := id st'
    exact ⟨u, rfl, go_of (s := { s with heap := h' }) e c d (by decide) ⟨x, H, I1, ru, ⟨rfl, fun ys hy => by rw [I.list_inj hy hq]; exact hx⟩, st', fun b hb => (hf b hb).1⟩⟩
  done := by
    intro X hP hw hK hc i pins s σ H E I hf st hg
    subst hP hw hK
    obtain ⟨xs, hq, hx⟩ := hg
    obtain ⟨its, rv, p, hz⟩ := I.list hq
    obtain ⟨f0, f1, f2, f3, f4, f5⟩ := hf it (by simp)
    have hl := rv.length
    exact wpAny_pyNext_list_end (I.ok.hd hc) st p.isList (by simp; omega) fun h' eb => ⟨rfl, I.turned (t' := s.toks) (fun b o hb e => eb b o hb e) f0 f1 f3 f4 f5⟩
  self := fun _ _ _ _ _ st h => wpAny_pyIter_listiter st h
theorem turn_range {P : Program} {w : World} {K : PySem.W.Frag} {tg : Expr} (it : Addr) (lo : Int) (n : Nat) : Turn P w K tg (Itr lo n) [it] it (fun i h => IsRangeIter h it (lo + (i : Nat) * 1) ((n : Int) - (i : Nat)) 1) where
  mem := by simp
  obj := fun i h st b hb => by
    have e : b = it := by simpa using hb
    subst e
    exact ⟨_, st, fun v z => by
      have z' : Data.fields _ = Data.cell v := z
      cases z'⟩
  keep := fun i h h' st k => k it (by simp) _ st
  item := by
    intro X hP hw hK hc i pins s σ H E I hf st hg
    subst hP hw hK
    obtain ⟨f0, f1, f2, f3, f4, f5⟩ := hf it (by simp)
    have W := Walks.range (prog := X.prog) (w := X.w) (I.ok.hd hc) it lo 1 n
    refine W.item i s _ _ hg st fun v h' tk hv st' kk => ?_
    obtain ⟨t, rfl⟩ := hv
    have I1 : Inv X pins σ H { s with heap := h', toks := tk } := I.turned (fun b o hb e => kk b o (by simpa using hb) e) f0 f1 f3 f4 f5
    refine ⟨_, rfl, go_of (s := { s with heap := h', toks := tk }) (n := "range_iterator") st' rfl rfl (by decide) ⟨.int (lo + i), H, I1, ⟨t, ?_⟩, ⟨rfl, rfl⟩, st', fun b hb => (hf b hb).1⟩⟩
    rw [Int.mul_one]
  done := by
    intro X hP hw hK hc i pins s σ H E I hf st hg
    subst hP hw hK
    obtain ⟨f0, f1, f2, f3, f4, f5⟩ := hf it (by simp)
    exact wpAny_pyNext_range_end (I.ok.hd hc) st (by have : n ≤ i := hg; omega) fun h' eb => ⟨rfl, I.turned (t' := s.toks) (fun b o hb e => eb b o hb e) f0 f1 f3 f4 f5⟩
  self := fun _ _ _ _ _ st h => wpAny_pyIter_rangeiter st h
end L2

namespace L2
open PySem PySem.Spec PyProof.Rows
section
variable {X : Cx} {tg : Expr}
def iList (K : PySem.W.Frag) (tl : TE) : TI := fun σ H R => tl σ H fun x H1 => ∃ a, x = .ref a ∧ (∃ xs, SqL K H1 a xs) ∧ R (Itl K a) H1
def iTup (K : PySem.W.Frag) (tl : TE) : TI := fun σ H R => tl σ H fun x H1 => ∃ a, x = .ref a ∧ (∃ xs, SqT K H1 a xs) ∧ R (Itt K a) H1
theorem pi_list {l : Expr} {tl : TE} (hl : PE X l tl) : PI X tg l (iList X.K tl) := by
  intro pins s σ H R I h
  refine thn (hl pins s σ H _ I h) fun v s1 ⟨x, H1, I1, r1, q1⟩ => ?_
  obtain ⟨a, e, ⟨xs, hq⟩, q⟩ := q1
  subst e
  cases r1
  obtain ⟨its, rv, p, hz⟩ := I1.list hq
  refine wpAny_pyIter_list p.isList ?_
  refine ⟨s1.heap.objs.size, [s1.heap.objs.size], _, _, H1, rfl, I1.kept (t' := s1.toks) fun b o e => Heap.get?_push_of_some _ e, turn_list a _, ⟨_, Heap.get?_push_size _ rfl, rfl, rfl⟩, fun b hb => ?_, q⟩
  have e : b = s1.heap.objs.size := by simpa using hb
  subst e
  exact I1.fpOk (Nat.le_refl _) (I1.hok.fresh (Nat.le_refl _))
/-- a range object just made, walked -/
theorem range_it {pins : List (Addr × Obj)} {σ : St} {H : Hp} {s : Shared} {R : It → Hp → Prop} {E : Value → Shared → Prop} {lo hi : Int} {t u v : Tok} {tk : Nat} (I : Inv X pins σ H s) (h1 : -(2 ^ 62) ≤ lo) (h2 : lo < 2 ^ 62) (h3 : -(2 ^ 62) ≤ hi) (h4 : hi < 2 ^ 62)
    (q : R (Itr lo (hi - lo).toNat) H) : wpAny (model X.prog X.w) X.A (pyIter (.ref s.heap.objs.size)) (PIE X pins σ tg R) E { s with heap := s.heap.push { cls := .type "range", data := .fields #[.int lo t, .int hi u, .int 1 v] }, toks := tk } := by
  refine wpAny_pyIter_range (IsRange.new ..) (small_one h1 h2 h3 h4) ?_
  have I1 : Inv X pins σ H { s with heap := s.heap.push { cls := .type "range", data := .fields #[.int lo t, .int hi u, .int 1 v] }, toks := tk } := I.kept fun b o e => Heap.get?_push_of_some _ e
  refine ⟨(s.heap.push { cls := .type "range", data := .fields #[.int lo t, .int hi u, .int 1 v] }).objs.size, [(s.heap.push { cls := .type "range", data := .fields #[.int lo t, .int hi u, .int 1 v] }).objs.size], _, _, H, rfl,
    I1.kept (t' := tk) fun b o e => Heap.get?_push_of_some _ e, turn_range _ lo (hi - lo).toNat, ?_, fun b hb => ?_, q⟩
  · have e1 : lo + ((0 : Nat) : Int) * 1 = lo := by simp
    have e2 : (((hi - lo).toNat : Nat) : Int) - ((0 : Nat) : Int) = Builtin.Range.rangeSize lo hi 1 := by rw [rangeSize_one]; split <;> omega
    show IsRangeIter _ _ (lo + ((0 : Nat) : Int) * 1) ((((hi - lo).toNat : Nat) : Int) - ((0 : Nat) : Int)) 1
    rw [e1, e2]
    exact Heap.get?_push_size _ rfl
  · have e : b = (s.heap.push { cls := .type "range", data := .fields #[.int lo t, .int hi u, .int 1 v] }).objs.size := by simpa using hb
    subst e
    exact I1.fpOk (Nat.le_refl _) (I1.hok.fresh (Nat.le_refl _))
def iRng1 (ta : TA) : TI := fun σ H R => ta σ H fun vs H1 => ∃ j : Int, vs = [.int j] ∧ -(2 ^ 62) ≤ j ∧ j < 2 ^ 62 ∧ R (Itr 0 j.toNat) H1
def iRng2 (ta : TA) : TI := fun σ H R => ta σ H fun vs H1 => ∃ i j : Int, vs = [.int i, .int j] ∧ (-(2 ^ 62) ≤ i ∧ i < 2 ^ 62 ∧ -(2 ^ 62) ≤ j ∧ j < 2 ^ 62) ∧ R (Itr i (j - i).toNat) H1
theorem pi_range1 {a : Expr} {ta : TA} {p pos : Pos} (hg : Gl X "range") (hm : X.mg "range" = none) (ha : PA X [a] ta) (hs : starEach [a] X.env = [(false, eval a X.env)] := by rfl) : PI X tg (.Call (.Name "range" p) [a] [] pos) (iRng1 ta) := by
  intro pins s σ H R I h
  refine Call_ (ld_blt I hg hm boot_range (PyProof.Rows.callWith_type1 (thn (ha pos pins s σ H _ I h) fun us s1 ⟨vs, H1, I1, r1, q1⟩ => ?_) hs rfl))
  obtain ⟨j, e, q1, q2, q⟩ := q1
  subst e
  cases r1 with
  | cons r rr =>
    cases rr
    obtain ⟨t, rfl⟩ := r
    exact call_range_1 (range_it I1 (by omega) (by omega) q1 q2 (by simpa using q))
theorem pi_range2 {a b : Expr} {ta : TA} {p pos : Pos} (hg : Gl X "range") (hm : X.mg "range" = none) (ha : PA X [a, b] ta) (hs : starEach [a, b] X.env = [(false, eval a X.env), (false, eval b X.env)] := by rfl) (hs2 : starEach [b] X.env = [(false, eval b X.env)] := by rfl) :
    PI X tg (.Call (.Name "range" p) [a, b] [] pos) (iRng2 ta) := by
  intro pins s σ H R I h
  refine Call_ (ld_blt I hg hm boot_range (PyProof.Rows.callWith_type1 (thn (ha pos pins s σ H _ I h) fun us s1 ⟨vs, H1, I1, r1, q1⟩ => ?_) (by rw [hs, hs2]) (by rw [hs2]; rfl)))
  obtain ⟨i, j, e, ⟨q1, q2, q3, q4⟩, q⟩ := q1
  subst e
  cases r1 with
  | cons r rr =>
    cases rr with
    | cons r' rr =>
      cases rr
      obtain ⟨t, rfl⟩ := r
      obtain ⟨t', rfl⟩ := r'
      exact call_range_2 (range_it I1 q1 q2 q3 q4 q)

/-! ### for -/
/-- W: the invariant by the turn and a measure; N: what the body is to reach -/
def tFor (wi : TI) (g : TG) (tb : TS) : TS := fun D σ H => wi σ H fun J H1 => ∃ W : Nat → Nat → St → Hp → Prop, (∃ m, W 0 m σ H1) ∧ ∀ i m σ H, W i m σ H →
  (J.stop i H ∧ D.nx σ H) ∨ (J.go i H ∧ ∃ N : St → Hp → Prop, (∀ σ' H', N σ' H' → ∃ m', m' < m ∧ W (i + 1) m' σ' H') ∧ ∀ x H', J.yld i H x H' → g x σ H' fun σ2 H2 => tb { D with nx := N, ct := N, bk := D.nx } σ2 H2)
/-- the records at fp as they stand -/
def pinsAt (fp : List Addr) (h : Heap) : List (Addr × Obj) := fp.filterMap fun b => (h.get? b).map fun o => (b, o)
theorem mem_pinsAt {fp : List Addr} {h : Heap} {b : Addr} {o : Obj} (hb : b ∈ fp) (e : h.get? b = some o) : (b, o) ∈ pinsAt fp h := List.mem_filterMap.mpr ⟨b, hb, by rw [e]; rfl⟩
theorem of_pinsAt {fp : List Addr} {h : Heap} {p : Addr × Obj} (hp : p ∈ pinsAt fp h) : p.1 ∈ fp ∧ h.get? p.1 = some p.2 := by
  obtain ⟨b, hb, e⟩ := List.mem_filterMap.mp hp
  cases q : h.get? b with
  | none => rw [q] at e; cases e
  | some o =>
    rw [q] at e
    have e' : (b, o) = p := Option.some.inj e
    subst e'
    exact ⟨hb, q⟩
theorem Inv.pinned {pins : List (Addr × Obj)} {σ : St} {H : Hp} {s : Shared} {fp : List Addr} (I : Inv X pins σ H s) (hf : ∀ b ∈ fp, FpOk X pins H b) (ho : ∀ b ∈ fp, ∃ o, s.heap.get? b = some o ∧ ∀ v, o.data ≠ .cell v) : Inv X (pins ++ pinsAt fp s.heap) σ H s :=
  I.pins_of fun p hp => (List.mem_append.mp hp).elim (fun z => I.pin p (List.mem_append_right _ z)) fun z => by
    obtain ⟨hb, e⟩ := of_pinsAt z
    obtain ⟨f0, f1, f2, _⟩ := hf p.1 hb
    obtain ⟨o, e', d⟩ := ho p.1 hb
    rw [e] at e'; cases e'
    exact ⟨e, f0, f1, f2, d⟩
theorem Inv.unpinned {pins pl : List (Addr × Obj)} {σ : St} {H : Hp} {s : Shared} (I : Inv X (pins ++ pl) σ H s) : Inv X pins σ H s := I.pins_of fun p hp => I.pin p (List.mem_append_right _ (List.mem_append_left _ hp))
theorem ps_for {iter : Expr} {body : List Stmt} {wi : TI} {g : TG} {tb : TS} {pos : Pos} (hp : PassesOwn (model X.prog X.w) X.A X.env X.xe) (hc : X.calm = true) (hi : PI X tg iter wi) (hg : PG X tg g) (hb : PSs X body tb)
    (hs : ∀ x, foldedSetIterable iter X.env x = pure x := by intro _; rfl) : PS X (.For tg iter body [] pos) (tFor wi g tb) := by
  intro pins s σ H D I h
  refine wpAny_For (thn (hi pins s σ H _ I h) fun v s1 h1 => thn h1 fun itv s2 h2 => ?_) hs
  obtain ⟨it, fp, tn, J, H2, e, I2, T, st2, f2, W, ⟨m0, w0⟩, turn⟩ := h2
  subst e
  -- what stays true of the iterator's objects through the loop
  have stat : ∀ {H' : Hp}, (∀ b ∈ fp, H' b = none) → ∀ b ∈ fp, FpOk X pins H' b := fun hn b hb => ⟨hn b hb, (f2 b hb).2⟩
  refine codeAny_forLoop_any (fun n s' => ∃ i σ' H', Inv X pins σ' H' s' ∧ tn i s'.heap ∧ (∀ b ∈ fp, H' b = none) ∧ W i n σ' H') ?_ m0 ⟨0, σ, H2, I2, st2, fun b hb => (f2 b hb).1, w0⟩
  rintro n s3 ⟨i, σ3, H3, I3, st3, fr3, w3⟩
  rcases turn i n σ3 H3 w3 with ⟨stop, qn⟩ | ⟨go, N, hN, step⟩
  · refine wpAny_passesOwn hp (thn (T.done X rfl rfl rfl hc i pins s3 σ3 H3 X.xe I3 (stat fr3) st3 stop) fun r s4 ⟨hr, I4⟩ => ?_)
    subst hr
    exact wpAny_execs_nil ⟨σ3, H3, I4, qn⟩
  · refine wpAny_passesOwn hp (thn (T.item X rfl rfl rfl hc i pins s3 σ3 H3 X.xe I3 (stat fr3) st3 go) fun r s4 ⟨u, hr, h4⟩ => ?_)
    subst hr
    refine wpAny_passesOwn hp (thn h4 fun _ s5 ⟨x, H5, I5, r5, y5, st5, fr5⟩ => ?_)
    have I5' := I5.pinned (stat fr5) (T.obj _ _ st5)
    refine wpAny_passesOwn hp (thn (hg _ s5 σ3 H5 x u _ I5' r5 (step x H5 y5)) fun _ s6 ⟨σ6, H6, I6, q6⟩ => ?_)
    refine wpAny_passesOwn hp (thn (hb _ s6 σ6 H6 _ I6 q6) fun f s7 q7 => ?_)
    have again : ∀ {σ7 : St} {H7 : Hp}, Inv X (pins ++ pinsAt fp s5.heap) σ7 H7 s7 → N σ7 H7 → ∃ m, m < n ∧ ∃ i σ' H', Inv X pins σ' H' s7 ∧ tn i s7.heap ∧ (∀ b ∈ fp, H' b = none) ∧ W i m σ' H' := fun {σ7 H7} I7 n7 => by
      obtain ⟨m', hm, w7⟩ := hN σ7 H7 n7
      refine ⟨m', hm, i + 1, σ7, H7, I7.unpinned, T.keep _ _ _ st5 fun b hb o e => (I7.pin (b, o) (List.mem_append_right _ (List.mem_append_right _ (mem_pinsAt hb e)))).1, fun b hb => ?_, w7⟩
      obtain ⟨o, e, d⟩ := T.obj _ _ st5 b hb
      exact (I7.pin (b, o) (List.mem_append_right _ (List.mem_append_right _ (mem_pinsAt hb e)))).2.1
    cases f with
    | next => obtain ⟨σ7, H7, I7, n7⟩ := q7; exact again I7 n7
    | cont => obtain ⟨σ7, H7, I7, n7⟩ := q7; exact again I7 n7
    | brk => obtain ⟨σ7, H7, I7, q7⟩ := q7; exact ⟨σ7, H7, I7.unpinned, q7⟩
    | ret v => obtain ⟨x7, σ7, H7, I7, r7, q7⟩ := q7; exact ⟨x7, σ7, H7, I7.unpinned, r7, q7⟩
end

/-! ### the forms one uses -/
/-- over a list that the body leaves as it is -/
theorem for_list {K : PySem.W.Frag} {a : Addr} {xs : List V} {g : TG} {tb : TS} {D : Ends} {σ : St} {H : Hp} (Pv : Nat → St → Hp → Prop) (h0 : Pv 0 σ H) (hl : ∀ i σ H, i ≤ xs.length → Pv i σ H → SqL K H a xs)
    (hs : ∀ i x σ H, xs[i]? = some x → Pv i σ H → g x σ H fun σ2 H2 => tb { D with nx := Pv (i + 1), ct := Pv (i + 1), bk := D.nx } σ2 H2) (hd : ∀ σ H, Pv xs.length σ H → D.nx σ H) :
    ∃ W : Nat → Nat → St → Hp → Prop, (∃ m, W 0 m σ H) ∧ ∀ i m σ H, W i m σ H →
      ((Itl K a).stop i H ∧ D.nx σ H) ∨ ((Itl K a).go i H ∧ ∃ N : St → Hp → Prop, (∀ σ' H', N σ' H' → ∃ m', m' < m ∧ W (i + 1) m' σ' H') ∧ ∀ x H', (Itl K a).yld i H x H' → g x σ H' fun σ2 H2 => tb { D with nx := N, ct := N, bk := D.nx } σ2 H2) := by
  refine ⟨fun i m σ H => m = xs.length - i ∧ i ≤ xs.length ∧ Pv i σ H, ⟨xs.length, by simp, Nat.zero_le _, h0⟩, ?_⟩
  rintro i m σ H ⟨rfl, hi, p⟩
  have q := hl i σ H hi p
  by_cases hlt : i < xs.length
  · refine .inr ⟨⟨xs, xs[i], q, by simp [hlt]⟩, Pv (i + 1), fun σ' H' p' => ⟨xs.length - (i + 1), by omega, rfl, hlt, p'⟩, fun x H' y => ?_⟩
    obtain ⟨e, y⟩ := y
    subst e
    exact hs i x σ _ (y xs q) p
  · have e : i = xs.length := by omega
    subst e
    exact .inl ⟨⟨xs, q, Nat.le_refl _⟩, hd σ H p⟩
theorem for_range {lo : Int} {n : Nat} {g : TG} {tb : TS} {D : Ends} {σ : St} {H : Hp} (Pv : Nat → St → Hp → Prop) (h0 : Pv 0 σ H)
    (hs : ∀ i σ H, i < n → Pv i σ H → g (.int (lo + i)) σ H fun σ2 H2 => tb { D with nx := Pv (i + 1), ct := Pv (i + 1), bk := D.nx } σ2 H2) (hd : ∀ σ H, Pv n σ H → D.nx σ H) :
    ∃ W : Nat → Nat → St → Hp → Prop, (∃ m, W 0 m σ H) ∧ ∀ i m σ H, W i m σ H →
      ((Itr lo n).stop i H ∧ D.nx σ H) ∨ ((Itr lo n).go i H ∧ ∃ N : St → Hp → Prop, (∀ σ' H', N σ' H' → ∃ m', m' < m ∧ W (i + 1) m' σ' H') ∧ ∀ x H', (Itr lo n).yld i H x H' → g x σ H' fun σ2 H2 => tb { D with nx := N, ct := N, bk := D.nx } σ2 H2) := by
  refine ⟨fun i m σ H => m = n - i ∧ i ≤ n ∧ Pv i σ H, ⟨n, by simp, Nat.zero_le _, h0⟩, ?_⟩
  rintro i m σ H ⟨rfl, hi, p⟩
  by_cases hlt : i < n
  · refine .inr ⟨hlt, Pv (i + 1), fun σ' H' p' => ⟨n - (i + 1), by omega, rfl, hlt, p'⟩, fun x H' y => ?_⟩
    obtain ⟨e, y⟩ := y
    subst e y
    exact hs i σ _ hlt p
  · have e : i = n := by omega
    subst e
    exact .inl ⟨Nat.le_refl _, hd σ H p⟩
end L2

namespace L2
open PySem PySem.Spec PyProof.Rows

abbrev R2 := V → V → Hp → VK → Prop
/-- a two-place operation on values: f is binaryOp op, inplaceOp op or compareOp op -/
def OpR (X : Cx) (f : Value → Value → Sem Value) (r : R2) : Prop :=
  ∀ (pins : List (Addr × Obj)) (s : Shared) (σ : St) (H : Hp) (x y : V) (v u : Value) (Q : VK), Inv X pins σ H s → RelV x v → RelV y u → r x y H Q →
    wpAny (model X.prog X.w) X.A (f v u) (EP X pins σ Q) X.xe s
/-- a one-place operation -/
def UnR (X : Cx) (f : Value → Sem Value) (r : V → Hp → VK → Prop) : Prop :=
  ∀ (pins : List (Addr × Obj)) (s : Shared) (σ : St) (H : Hp) (x : V) (v : Value) (Q : VK), Inv X pins σ H s → RelV x v → r x H Q →
    wpAny (model X.prog X.w) X.A (f v) (EP X pins σ Q) X.xe s
/-- a call of a value that is known (a builtin, a type) with values -/
def CallR (X : Cx) (f : Value) (r : List V → Hp → VK → Prop) : Prop :=
  ∀ (pins : List (Addr × Obj)) (s : Shared) (σ : St) (H : Hp) (xs : List V) (us : List Value) (Q : VK), Inv X pins σ H s → Vals xs us → r xs H Q →
    wpAny (model X.prog X.w) X.A (call f us) (EP X pins σ Q) X.xe s
/-- a value's truth -/
def TruR (X : Cx) (r : V → Hp → (Bool → Hp → Prop) → Prop) : Prop :=
  ∀ (pins : List (Addr × Obj)) (s : Shared) (σ : St) (H : Hp) (x : V) (v : Value) (Q : Bool → Hp → Prop), Inv X pins σ H s → RelV x v → r x H Q →
    wpAny (model X.prog X.w) X.A (truthy v) (TP X pins σ Q) X.xe s

def tOp (r : R2) (ta tb : TE) : TE := fun σ H Q => ta σ H fun x H1 => tb σ H1 fun y H2 => r x y H2 Q
def tUn (r : V → Hp → VK → Prop) (ta : TE) : TE := fun σ H Q => ta σ H fun x H1 => r x H1 Q
/-- ints in, under C, and a value out -/
def rI (C : Int → Int → Prop) (g : Int → Int → V) : R2 := fun x y H Q => ∃ i j, x = .int i ∧ y = .int j ∧ C i j ∧ Q (g i j) H
def rI0 (g : Int → Int → V) : R2 := fun x y H Q => ∃ i j, x = .int i ∧ y = .int j ∧ Q (g i j) H
def rU (g : Int → V) : V → Hp → VK → Prop := fun x H Q => ∃ i, x = .int i ∧ Q (g i) H

section
variable {X : Cx} {a b c : Expr} {ta tb tc : TE} {pos : Pos}

theorem binT (ha : PE X a ta) (hb : PE X b tb) {pins : List (Addr × Obj)} {s : Shared} {σ : St} {H : Hp} {R : V → V → Hp → Prop} (I : Inv X pins σ H s)
    (h : ta σ H fun x H1 => tb σ H1 fun y H2 => R x y H2) {Q : Value → Shared → Prop} {f : Value → Value → Sem Value}
    (hf : ∀ v u s2 x y H2, Inv X pins σ H2 s2 → RelV x v → RelV y u → R x y H2 → wpAny (model X.prog X.w) X.A (f v u) Q X.xe s2) :
    wpAny (model X.prog X.w) X.A (eval a X.env) (fun v s₁ => wpAny (model X.prog X.w) X.A (eval b X.env) (fun u s₂ => wpAny (model X.prog X.w) X.A (f v u) Q X.xe s₂) X.xe s₁) X.xe s := by
  refine thn (ha pins s σ H _ I h) fun v s1 ⟨x, H1, I1, r1, q1⟩ => ?_
  refine thn (hb pins s1 σ H1 _ I1 q1) fun u s2 ⟨y, H2, I2, r2, q2⟩ => ?_
  exact hf v u s2 x y H2 I2 r1 r2 q2

theorem pe_op {op : Operator} {r : R2} (ho : OpR X (binaryOp op) r) (ha : PE X a ta) (hb : PE X b tb) : PE X (.BinOp a op b pos) (tOp r ta tb) := by
  intro pins s σ H Q I h
  exact wpAny_BinOp (binT ha hb I h fun v u s2 x y H2 I2 rx ry q => ho pins s2 σ H2 x y v u Q I2 rx ry q)
/-! ### ints -/
theorem opI {f : Value → Value → Sem Value} {C : Int → Int → Prop} {g : Int → Int → Int}
    (rule : ∀ (i j : Int) (t u : Tok) (s : Shared) (Q : Value → Shared → Prop) (E : Value → Shared → Prop), C i j → Q (.int (g i j) s.toks) { s with toks := s.toks + 1 } → wpAny (model X.prog X.w) X.A (f (.int i t) (.int j u)) Q E s) :
    OpR X f (rI C fun i j => .int (g i j)) := by
  intro pins s σ H x y v u Q I rx ry h
  obtain ⟨i, j, rfl, rfl, hc, q⟩ := h
  obtain ⟨t, rfl⟩ := rx
  obtain ⟨t', rfl⟩ := ry
  exact rule i j t t' s _ _ hc ⟨.int (g i j), H, I.tok _, ⟨_, rfl⟩, q⟩
theorem opI0 {f : Value → Value → Sem Value} {g : Int → Int → Int}
    (rule : ∀ (i j : Int) (t u : Tok) (s : Shared) (Q : Value → Shared → Prop) (E : Value → Shared → Prop), Q (.int (g i j) s.toks) { s with toks := s.toks + 1 } → wpAny (model X.prog X.w) X.A (f (.int i t) (.int j u)) Q E s) :
    OpR X f (rI0 fun i j => .int (g i j)) := by
  intro pins s σ H x y v u Q I rx ry h
  obtain ⟨i, j, rfl, rfl, q⟩ := h
  obtain ⟨t, rfl⟩ := rx
  obtain ⟨t', rfl⟩ := ry
  exact rule i j t t' s _ _ ⟨.int (g i j), H, I.tok _, ⟨_, rfl⟩, q⟩
theorem opB0 {f : Value → Value → Sem Value} {g : Int → Int → Bool}
    (rule : ∀ (i j : Int) (t u : Tok) (s : Shared) (Q : Value → Shared → Prop) (E : Value → Shared → Prop), Q (.bool (g i j)) s → wpAny (model X.prog X.w) X.A (f (.int i t) (.int j u)) Q E s) :
    OpR X f (rI0 fun i j => .bl (g i j)) := by
  intro pins s σ H x y v u Q I rx ry h
  obtain ⟨i, j, rfl, rfl, q⟩ := h
  obtain ⟨t, rfl⟩ := rx
  obtain ⟨t', rfl⟩ := ry
  exact rule i j t t' s _ _ ⟨.bl (g i j), H, I, rfl, q⟩

def CDiv (i j : Int) : Prop := 0 < j ∧ j < 1073741824
def CDivN (i j : Int) : Prop := j ≠ 0 ∧ j.natAbs < 1073741824
def CPow (i j : Int) : Prop := 0 ≤ j ∧ j ≤ 1000000 ∧ i.natAbs < 2 ^ 64
def CMul (i j : Int) : Prop := (-(2 ^ 64) < i ∧ i < 2 ^ 64) ∨ (-(2 ^ 64) < j ∧ j < 2 ^ 64)
theorem CMul.ok {i j : Int} (h : CMul i j) : IntMulOk i j := by
  rcases h with ⟨h1, h2⟩ | ⟨h1, h2⟩
  · exact .of_left (intBits_le_64 h1 h2)
  · exact .of_right (intBits_le_64 h1 h2)
theorem op_add : OpR X (binaryOp .Add) (rI0 fun i j => .int (i + j)) := opI0 fun _ _ _ _ _ _ _ q => add_int q
theorem op_sub : OpR X (binaryOp .Sub) (rI0 fun i j => .int (i - j)) := opI0 fun _ _ _ _ _ _ _ q => sub_int q
theorem op_mul : OpR X (binaryOp .Mult) (rI CMul fun i j => .int (i * j)) := opI fun _ _ _ _ _ _ _ hc q => mul_int q hc.ok
/-- // by a positive divisor -/
theorem op_fdiv : OpR X (binaryOp .FloorDiv) (rI CDiv fun i j => .int (i / j)) := opI fun i j _ _ _ _ _ hc q => by
  have h1 : (0 : Int) < j := hc.1
  have h2 : j < 1073741824 := hc.2
  exact floordiv_int (by omega) (by rw [Int.fdiv_eq_ediv_of_nonneg i (by omega)]; exact q) (.inl (PyProof.noPylong_small (by omega)))
/-- % by a positive divisor of any size -/
theorem op_mod : OpR X (binaryOp .Mod) (rI (fun _ j => 0 < j) fun i j => .int (i % j)) := opI fun i j _ _ _ _ _ hc q => by
  have h1 : (0 : Int) < j := hc
  exact mod_int' (by omega) (by rw [Int.fmod_eq_emod_of_nonneg i (by omega)]; exact q)
theorem op_pow : OpR X (binaryOp .Pow) (rI CPow fun i j => .int (i ^ j.toNat)) := opI fun _ _ _ _ _ _ _ hc q => pow_int_small hc.1 hc.2.1 hc.2.2 q
/-! ### bools among ints: n += (a < b) -/
end

/-! ### comparisons -/
/-- the scalars that == tells apart as data does -/
def scal : V → V → Bool
  | .non, .non => true | .non, .int _ => true | .int _, .non => true | .non, .bl _ => true | .bl _, .non => true | .non, .str _ => true | .str _, .non => true
  | .int _, .int _ => true | .bl _, .bl _ => true | .str _, .str _ => true | .byt _, .byt _ => true
  | .int _, .str _ => true | .str _, .int _ => true | .bl _, .str _ => true | .str _, .bl _ => true
  | _, _ => false
def rEq : R2 := fun x y H Q => scal x y = true ∧ Q (.bl (decide (x = y))) H
def rNe : R2 := fun x y H Q => scal x y = true ∧ Q (.bl (!decide (x = y))) H

theorem dec_int {i j : Int} : decide (V.int i = V.int j) = (i == j) := by
  rw [Bool.eq_iff_iff]
  simp
theorem dec_bl {i j : Bool} : decide (V.bl i = V.bl j) = (i == j) := by
  rw [Bool.eq_iff_iff]
  simp
theorem dec_str {i j : Str} : decide (V.str i = V.str j) = (i == j) := by
  rw [Bool.eq_iff_iff]
  simp
theorem dec_byt {i j : Array UInt8} : decide (V.byt i = V.byt j) = (i.toList == j.toList) := by
  rw [Bool.eq_iff_iff]
  cases i
  cases j
  simp

section
variable {X : Cx} {a b c : Expr} {ta tb tc : TE} {pos : Pos}
theorem fin_bl {pins : List (Addr × Obj)} {σ : St} {H : Hp} {s : Shared} {Q : VK} {k k' : Bool} (I : Inv X pins σ H s) (q : Q (.bl k) H) (e : k = k') : EP X pins σ Q (.bool k') s := by
  subst e
  exact ⟨.bl k, H, I, rfl, q⟩
theorem op_eq : OpR X (compareOp .Eq) rEq := by
  intro pins s σ H x y v u Q I rx ry h
  obtain ⟨hs, q⟩ := h
  cases x with
  | non =>
    cases rx
    cases y with
    | non => cases ry; exact PySem.EqNone.eq_none_none (fin_bl I q (by simp))
    | bl j => cases ry; exact PySem.EqNone.eq_none_bool (fin_bl I q (by simp))
    | int j => obtain ⟨t', rfl⟩ := ry; exact PySem.EqNone.eq_none_int (fin_bl I q (by simp))
    | str j => obtain ⟨t', rfl⟩ := ry; exact PySem.EqNone.eq_none_str (fin_bl I q (by simp))
    | _ => exact absurd (show false = true from hs) Bool.false_ne_true
  | bl i =>
    cases rx
    cases y with
    | non => cases ry; exact PySem.EqNone.eq_bool_none (fin_bl I q (by simp))
    | bl j => cases ry; exact eq_bool (fin_bl I q dec_bl)
    | str j => obtain ⟨t', rfl⟩ := ry; exact PySem.EqMixed.eq_bool_str (fin_bl I q (by simp))
    | _ => exact absurd (show false = true from hs) Bool.false_ne_true
  | int i =>
    obtain ⟨t, rfl⟩ := rx
    cases y with
    | non => cases ry; exact PySem.EqNone.eq_int_none (fin_bl I q (by simp))
    | int j => obtain ⟨t', rfl⟩ := ry; exact eq_int (fin_bl I q dec_int)
    | str j => obtain ⟨t', rfl⟩ := ry; exact PySem.EqMixed.eq_int_str (fin_bl I q (by simp))
    | _ => exact absurd (show false = true from hs) Bool.false_ne_true
  | str i =>
    obtain ⟨t, rfl⟩ := rx
    cases y with
    | non => cases ry; exact PySem.EqNone.eq_str_none (fin_bl I q (by simp))
    | bl j => cases ry; exact PySem.EqMixed.eq_str_bool (fin_bl I q (by simp))
    | int j => obtain ⟨t', rfl⟩ := ry; exact PySem.EqMixed.eq_str_int (fin_bl I q (by simp))
    | str j => obtain ⟨t', rfl⟩ := ry; exact eq_str (fin_bl I q dec_str)
    | _ => exact absurd (show false = true from hs) Bool.false_ne_true
  | byt i =>
    obtain ⟨t, rfl⟩ := rx
    cases y with
    | byt j => obtain ⟨t', rfl⟩ := ry; exact PySem.W.eq_bytes (fin_bl I q dec_byt)
    | _ => exact absurd (show false = true from hs) Bool.false_ne_true
  | _ => cases y <;> exact absurd (show false = true from hs) Bool.false_ne_true
theorem op_ne : OpR X (compareOp .NotEq) rNe := by
  intro pins s σ H x y v u Q I rx ry h
  obtain ⟨hs, q⟩ := h
  cases x with
  | non =>
    cases rx
    cases y with
    | non => cases ry; exact PySem.EqNone.ne_none_none (fin_bl I q (by simp))
    | bl j => cases ry; exact PySem.EqNone.ne_none_bool (fin_bl I q (by simp))
    | int j => obtain ⟨t', rfl⟩ := ry; exact PySem.EqNone.ne_none_int (fin_bl I q (by simp))
    | str j => obtain ⟨t', rfl⟩ := ry; exact PySem.EqNone.ne_none_str (fin_bl I q (by simp))
    | _ => exact absurd (show false = true from hs) Bool.false_ne_true
  | bl i =>
    cases rx
    cases y with
    | non => cases ry; exact PySem.EqNone.ne_bool_none (fin_bl I q (by simp))
    | bl j => cases ry; exact ne_bool (fin_bl I q (congrArg not dec_bl))
    | str j => obtain ⟨t', rfl⟩ := ry; exact PySem.EqMixed.ne_bool_str (fin_bl I q (by simp))
    | _ => exact absurd (show false = true from hs) Bool.false_ne_true
  | int i =>
    obtain ⟨t, rfl⟩ := rx
    cases y with
    | non => cases ry; exact PySem.EqNone.ne_int_none (fin_bl I q (by simp))
    | int j => obtain ⟨t', rfl⟩ := ry; exact ne_int (fin_bl I q (congrArg not dec_int))
    | str j => obtain ⟨t', rfl⟩ := ry; exact PySem.EqMixed.ne_int_str (fin_bl I q (by simp))
    | _ => exact absurd (show false = true from hs) Bool.false_ne_true
  | str i =>
    obtain ⟨t, rfl⟩ := rx
    cases y with
    | non => cases ry; exact PySem.EqNone.ne_str_none (fin_bl I q (by simp))
    | bl j => cases ry; exact PySem.EqMixed.ne_str_bool (fin_bl I q (by simp))
    | int j => obtain ⟨t', rfl⟩ := ry; exact PySem.EqMixed.ne_str_int (fin_bl I q (by simp))
    | str j => obtain ⟨t', rfl⟩ := ry; exact ne_str (fin_bl I q (congrArg not dec_str))
    | _ => exact absurd (show false = true from hs) Bool.false_ne_true
  | byt i =>
    obtain ⟨t, rfl⟩ := rx
    cases y with
    | byt j => obtain ⟨t', rfl⟩ := ry; exact PySem.W.ne_bytes (fin_bl I q (congrArg not dec_byt))
    | _ => exact absurd (show false = true from hs) Bool.false_ne_true
  | _ => cases y <;> exact absurd (show false = true from hs) Bool.false_ne_true

theorem op_lt : OpR X (compareOp .Lt) (rI0 fun i j => .bl (decide (i < j))) := opB0 fun _ _ _ _ _ _ _ q => lt_int q
theorem op_le : OpR X (compareOp .LtE) (rI0 fun i j => .bl (decide (i ≤ j))) := opB0 fun _ _ _ _ _ _ _ q => le_int q
theorem op_gt : OpR X (compareOp .Gt) (rI0 fun i j => .bl (decide (j < i))) := opB0 fun _ _ _ _ _ _ _ q => gt_int q
theorem op_notin_str : OpR X (compareOp .NotIn) (fun x y H Q => ∃ i j, x = .str i ∧ y = .str j ∧ Q (.bl (!(!(Builtin.Str.occurrences j i 0 j.length 1).isEmpty))) H) := by
  intro pins s σ H x y v u Q I rx ry h
  obtain ⟨i, j, rfl, rfl, q⟩ := h
  obtain ⟨t, rfl⟩ := rx
  obtain ⟨t', rfl⟩ := ry
  exact notIn_str (fin_bl I q rfl)
/-- is, is not of two objects that are tracked lists or instances -/
def isObj : HO → Bool
  | .lst _ => true
  | .ins _ _ _ => true
  | _ => false
theorem nomark (b : Expr) {op : CmpOp} (h : op ≠ .In := by decide) (h2 : op ≠ .NotIn := by decide) : behindInMarks op b = false := by
  have e1 : (op == CmpOp.In) = false := by cases op <;> first | rfl | exact absurd rfl h
  have e2 : (op == CmpOp.NotIn) = false := by cases op <;> first | rfl | exact absurd rfl h2
  cases b <;> simp [behindInMarks, e1, e2]
/-- a comparison as a value; hm: nomark b, or (for in, not in) by with_unfolding_all rfl -/
theorem pe_cmpR {op : CmpOp} {r : R2} (ho : OpR X (compareOp op) r) (ha : PE X a ta) (hb : PE X b tb) (hm : behindInMarks op b = false) : PE X (.Compare a [op] [b] pos) (tOp r ta tb) := by
  intro pins s σ H Q I h
  exact wpAny_Compare1 (binT ha hb I h fun v u s2 x y H2 I2 rx ry q => ho pins s2 σ H2 x y v u Q I2 rx ry q) hm
/-- a reading of a value as a test -/
def tTest (t : TE) : TT := fun σ H Q => t σ H fun x H' => ∃ k, x = .bl k ∧ Q k H'
theorem pt_cmpR {op : CmpOp} {r : R2} (ho : OpR X (compareOp op) r) (ha : PE X a ta) (hb : PE X b tb) (hm : behindInMarks op b = false) : PT X (.Compare a [op] [b] pos) (tTest (tOp r ta tb)) := by
  intro pins s σ H Q I h
  refine wpAny_isTrue_Compare1 (thn (ha pins s σ H _ I h) fun v s1 ⟨x, H1, I1, r1, q1⟩ => thn (hb pins s1 σ H1 _ I1 q1) fun u s2 ⟨y, H2, I2, r2, q2⟩ =>
    thn (ho pins s2 σ H2 x y v u _ I2 r1 r2 q2) fun c s3 ⟨z, H3, I3, r3, k, e, q3⟩ => ?_) hm
  subst e
  cases r3
  exact wpAny_truthy_bool ⟨H3, I3, q3⟩
/-- a op1 b op2 c -/
def tChain (r r' : R2) (ta tb tc : TE) : TE := fun σ H Q => ta σ H fun x H1 => tb σ H1 fun y H2 => r x y H2 fun z H3 => ∃ k, z = .bl k ∧
  (if k = true then tc σ H3 fun w' H4 => r' y w' H4 Q else Q (.bl false) H3)
theorem pe_chain {op op' : CmpOp} {r r' : R2} (ho : OpR X (compareOp op) r) (ho' : OpR X (compareOp op') r') (ha : PE X a ta) (hb : PE X b tb) (hc : PE X c tc)
    (hm : lastMarks [op, op'] [b, c] = false := by with_unfolding_all rfl) : PE X (.Compare a [op, op'] [b, c] pos) (tChain r r' ta tb tc) := by
  intro pins s σ H Q I h
  refine Compare_chain (thn (ha pins s σ H _ I h) fun v s1 ⟨x, H1, I1, r1, q1⟩ => chain_link (thn (hb pins s1 σ H1 _ I1 q1) fun u s2 ⟨y, H2, I2, r2, q2⟩ =>
    thn (ho pins s2 σ H2 x y v u _ I2 r1 r2 q2) fun d s3 ⟨z, H3, I3, r3, k, e, q3⟩ => ?_)) hm
  subst e
  cases r3
  refine wpAny_truthy_bool ?_
  cases k with
  | false => exact ite_ff ⟨.bl false, H3, I3, rfl, q3⟩
  | true => exact ite_tt (chain_last (thn (hc pins s3 σ H3 _ I3 q3) fun w' s4 ⟨z', H4, I4, r4, q4⟩ => ho' pins s4 σ H4 y z' u w' Q I4 r2 r4 q4))
theorem pt_chain {op op' : CmpOp} {r r' : R2} (ho : OpR X (compareOp op) r) (ho' : OpR X (compareOp op') r') (ha : PE X a ta) (hb : PE X b tb) (hc : PE X c tc)
    (hm : lastMarks [op, op'] [b, c] = false := by with_unfolding_all rfl) : PT X (.Compare a [op, op'] [b, c] pos) (tTest (tChain r r' ta tb tc)) := by
  intro pins s σ H Q I h
  refine isTrue_chain (thn (ha pins s σ H _ I h) fun v s1 ⟨x, H1, I1, r1, q1⟩ => test_link (thn (hb pins s1 σ H1 _ I1 q1) fun u s2 ⟨y, H2, I2, r2, q2⟩ =>
    thn (ho pins s2 σ H2 x y v u _ I2 r1 r2 q2) fun d s3 ⟨z, H3, I3, r3, k, e, q3⟩ => ?_)) hm
  subst e
  cases r3
  refine wpAny_truthy_bool ?_
  cases k with
  | false =>
    obtain ⟨k', e', q'⟩ := q3
    cases e'
    exact ite_ff ⟨H3, I3, q'⟩
  | true =>
    refine ite_tt (test_last (thn (hc pins s3 σ H3 _ I3 q3) fun w' s4 ⟨z', H4, I4, r4, q4⟩ => thn (ho' pins s4 σ H4 y z' u w' _ I4 r2 r4 q4) fun d' s5 ⟨z2, H5, I5, r5, k2, e2, q5⟩ => ?_))
    subst e2
    cases r5
    exact wpAny_truthy_bool ⟨H5, I5, q5⟩

/-! ### truth -/
/-- a value's truth by the abstract heap -/
def TruV (K : PySem.W.Frag) (x : V) (H : Hp) (k : Bool) : Prop :=
  match x with
  | .non => k = false
  | .bl b => k = b
  | .int i => k = (i != 0)
  | .str y => y.length ≤ sizeLine ∧ k = ((y.length : Int) != 0)
  | .byt y => y.size ≤ sizeLine ∧ k = ((y.size : Int) != 0)
  | .ref p => (∃ xs, SqL K H p xs ∧ k = !xs.isEmpty) ∨ (∃ xs, SqT K H p xs ∧ k = !xs.isEmpty) ∨ ∃ kvs, H p = some (.dK kvs) ∧ k = !kvs.isEmpty
  | _ => False
theorem isEmpty_kv {κ : Type} {kvs : List (κ × V)} {vs : List (κ × Value)} (r : KV kvs vs) : (!vs.isEmpty) = !kvs.isEmpty := by
  cases r <;> rfl
theorem isEmpty_of {xs : List V} {its : List Value} (r : Vals xs its) : (!its.toArray.isEmpty) = !xs.isEmpty := by
  cases r <;> simp
theorem line63 : (sizeLine : Nat) < 2 ^ 63 := by rw [sizeLine_eq]; decide
theorem tru_ok : TruR X (fun x H Q => ∃ k, TruV X.K x H k ∧ Q k H) := by
  intro pins s σ H x v Q I rx h
  obtain ⟨k, e, q⟩ := h
  have hl := line63
  have hs : sizeLine = 16777216 := sizeLine_eq
  cases x with
  | non =>
    cases rx
    have e' : k = false := e
    subst e'
    exact truthy_none ⟨H, I, q⟩
  | bl b =>
    cases rx
    have e' : k = b := e
    subst e'
    exact wpAny_truthy_bool ⟨H, I, q⟩
  | int i =>
    obtain ⟨t, rfl⟩ := rx
    have e' : k = (i != 0) := e
    subst e'
    exact PySem.P.truthy_int ⟨H, I, q⟩
  | str y =>
    obtain ⟨t, rfl⟩ := rx
    obtain ⟨hy, e'⟩ : y.length ≤ sizeLine ∧ k = ((y.length : Int) != 0) := e
    subst e'
    exact PySem.P.truthy_str (by omega) ⟨H, I.tok _, q⟩
  | byt y =>
    obtain ⟨t, rfl⟩ := rx
    obtain ⟨hy, e'⟩ : y.size ≤ sizeLine ∧ k = ((y.size : Int) != 0) := e
    subst e'
    exact PySem.W.truthy_bytes (by omega) ⟨H, I.tok _, q⟩
  | ref p =>
    cases rx
    have e' : (∃ xs, SqL X.K H p xs ∧ k = !xs.isEmpty) ∨ (∃ xs, SqT X.K H p xs ∧ k = !xs.isEmpty) ∨ ∃ kvs, H p = some (.dK kvs) ∧ k = !kvs.isEmpty := e
    rcases e' with ⟨xs, hx, e'⟩ | ⟨xs, hx, e'⟩ | ⟨kvs, hx, e'⟩
    · subst e'
      obtain ⟨its, r, pl, hz⟩ := I.list hx
      have hlen := r.length
      exact wpAny_truthy_list pl.isList (by simp only [List.size_toArray]; omega) ⟨H, I.tok _, by rw [isEmpty_of r]; exact q⟩
    · subst e'
      obtain ⟨its, r, pl, hz⟩ := I.tuple hx
      have hlen := r.length
      exact truthy_tuple pl (by simp only [List.size_toArray]; omega) ⟨H, I.tok _, by rw [isEmpty_of r]; exact q⟩
    · subst e'
      obtain ⟨hz, hS, vs, r, m⟩ : kvs.length ≤ sizeLine ∧ (p == sysModules) = false ∧ ∃ vs, KV kvs vs ∧ s.heap.DictOf (mixKind X.prog X.w) p vs := I.hok p _ hx
      have hlen : kvs.length = vs.length := Paired.length r
      exact wpAny_truthy_dict hS m (by omega) ⟨H, I.tok _, by rw [isEmpty_kv r]; exact q⟩
  | _ => exact (show False from e).elim
/-- any expression whose test is its value's truth (a name, a call, a subscript, a field ..: he by fun _ => rfl) -/
theorem pt_truth (ha : PE X a ta) (he : ∀ whole, isTrue a X.env whole = (do let v ← whole; standAt a.pos; holding [v] (truthy v))) :
    PT X a (fun σ H Q => ta σ H fun x H' => ∃ k, TruV X.K x H' k ∧ Q k H') := by
  intro pins s σ H Q I h
  exact isTrue_plain (thn (ha pins s σ H _ I h) fun v s1 ⟨x, H1, I1, r1, q1⟩ => tru_ok pins s1 σ H1 x v Q I1 r1 q1) (he _)

/-! ### strs and bytes -/
theorem op_add_str : OpR X (binaryOp .Add) (fun x y H Q => ∃ i j, x = .str i ∧ y = .str j ∧ i.length + j.length ≤ sizeLine ∧ Q (.str (i ++ j)) H) := by
  intro pins s σ H x y v u Q I rx ry h
  obtain ⟨i, j, rfl, rfl, hz, q⟩ := h
  obtain ⟨t, rfl⟩ := rx
  obtain ⟨t', rfl⟩ := ry
  exact add_str (fun t' tk => ⟨.str (i ++ j), H, I.tok _, ⟨_, rfl⟩, q⟩) hz
theorem op_add_byt : OpR X (binaryOp .Add) (fun x y H Q => ∃ i j, x = .byt i ∧ y = .byt j ∧ i.size + j.size ≤ 16777216 ∧ Q (.byt (i ++ j)) H) := by
  intro pins s σ H x y v u Q I rx ry h
  obtain ⟨i, j, rfl, rfl, hz, q⟩ := h
  obtain ⟨t, rfl⟩ := rx
  obtain ⟨t', rfl⟩ := ry
  exact PySem.W.KBy.add_bytes hz (fun t' tk => ⟨.byt (i ++ j), H, I.tok _, ⟨_, rfl⟩, q⟩)

def PlainIxT (b : Expr) : Prop := ∀ o i, subscripted b false o i = operate [o, i] (getItem o i)
/-! ### scalar builtins, by CallR -/
theorem vals1 {x : V} {us : List Value} (r : Vals [x] us) : ∃ u, us = [u] ∧ RelV x u := by
  cases r with
  | cons r1 r2 => cases r2; exact ⟨_, rfl, r1⟩
/-- len of a str, a bytes, a list, a tuple -/
def LenV (K : PySem.W.Frag) (x : V) (H : Hp) (n : Nat) : Prop :=
  match x with
  | .str y => y.length ≤ sizeLine ∧ n = y.length
  | .byt y => y.size ≤ sizeLine ∧ n = y.size
  | .ref p => (∃ xs, SqL K H p xs ∧ n = xs.length) ∨ ∃ xs, SqT K H p xs ∧ n = xs.length
  | _ => False
end
end L2

namespace L2
open PySem PySem.Spec PyProof.Rows

/-! ### an instance, its attributes a map -/
structure ObjM (h : Heap) (x dx C : Addr) (mA : Str → Option Value) : Prop where
  obj : h.get? x = some (PySem.W.instObj C dx)
  ns : h.Ns1 dx mA
  ne : dx ≠ x

theorem lookIn_ns {h : Heap} {dx : Addr} {mA : Str → Option Value} (n : h.Ns1 dx mA) : ∃ od, h.get? dx = some od ∧ ∀ name, PySem.W.lookIn name od = some (mA name) := by
  obtain ⟨o, es, ep, ho, hd, hk, _, hm⟩ := n
  refine ⟨o, ho, fun name => ?_⟩
  have e := hm name
  unfold nsFind findBy at e
  rw [← Array.find?_toList] at e
  unfold PySem.W.lookIn
  rw [hd]
  dsimp only
  split
  · rename_i y q
    rw [q] at e
    exact congrArg some e
  · rename_i q
    rw [q] at e
    have a : es.toList.any (·.refKey) = false := by
      rw [List.any_eq_false]
      intro y hy
      obtain ⟨z, t, hkey⟩ := hk y (Array.mem_toList_iff.mp hy)
      simp [DictEntry.refKey, hkey]
    have a' : ¬ es.toList.any (·.refKey) = true := by rw [a]; exact Bool.false_ne_true
    rw [if_neg a']
    exact congrArg some e

theorem ObjM.look {h : Heap} {x dx C : Addr} {mA : Str → Option Value} (I : ObjM h x dx C mA) : ∃ od, PySem.W.InstAt h x (PySem.W.instObj C dx) C (some od) ∧ ∀ name, PySem.W.lookIn name od = some (mA name) :=
  let ⟨od, ho, hl⟩ := lookIn_ns I.ns
  ⟨od, ⟨I.obj, rfl, rfl, ho⟩, hl⟩

section
variable {prog : Program} {w : World} {A : Around} {E : Value → Shared → Prop} {s : Shared} {K : PySem.W.Frag} {x dx C f : Addr} {mA : Str → Option Value} {name : Str} {v : Value}

theorem get_map {expr : Bool} {Q : Value → Shared → Prop} (X : K.In s.heap) (I : ObjM s.heap x dx C mA) (hg : PySem.W.plainGet K C name = true) (hh : PySem.W.hasDictIn K C = true)
    (ha : PySem.W.findIn K (.ref C) name = some none) (hv : mA name = some v) (hv' : PySem.W.handedIn v = true) (h : Q v { s with toks := s.toks + 1 }) :
    wpAny (model prog w) A (getAttr (.ref x) name expr) Q E s := by
  obtain ⟨od, J, hl⟩ := I.look
  exact PySem.W.get_value X J (PySem.W.plainGet_of hg).1 (PySem.W.findObj_own hh ha rfl (by rw [hl, hv])) hv' h

theorem get_meth {pl : Sem Bool} {Q : Value × List Value → Shared → Prop} (X : K.In s.heap) (I : ObjM s.heap x dx C mA) (hg : PySem.W.plainGet K C name = true)
    (hf : PySem.W.findIn K (.ref C) name = some (some (.ref f))) (ht : PySem.W.isFn K (.ref f) = true) (hv : mA name = none) (h : Q (.ref f, [.ref x]) s) :
    wpAny (model prog w) A (getMethod (.ref x) name pl) Q E s := by
  obtain ⟨od, J, hl⟩ := I.look
  exact PySem.W.method_fn X J (PySem.W.plainGet_of hg).1 (PySem.W.plainGet_of hg).2 hf (beq_iff_eq.mp ht) (by show (PySem.W.lookIn name od).map (·.isSome) = some false; rw [hl, hv]; rfl) h

theorem set_map {ns : List Str} {Q : Unit → Shared → Prop} (X : K.In s.heap) (I : ObjM s.heap x dx C mA)
    (hs : PySem.W.findIn K (.ref C) "__setattr__" = some (some (.builtin "object.__setattr__"))) (hp : PySem.W.plainOver K C = true) (ht : PySem.W.takerIn K C name = some none) (hh : PySem.W.hasDictIn K C = true)
    (hw : PySem.Within mA ns) (hsz : ns.length ≤ sizeLine)
    (h : ∀ h', ObjM h' x dx C (fun y => if y = name then some v else mA y) → Heap.SameBut dx s.heap h' → Q () { s with heap := h', toks := s.toks + 2 }) :
    wpAny (model prog w) A (setAttr (.ref x) name v) Q E s := by
  obtain ⟨od, J, hl⟩ := I.look
  refine PySem.W.set_plain X J hs (PySem.W.osa_open (s := { s with toks := s.toks + 1 }) (r := none) X J hp ht fun b => ?_)
  obtain ⟨cd, hc, hd'⟩ := PySem.W.any_some hh
  have hx : s.heap.get? x = some ⟨.ref C, some dx, .plain, #[]⟩ := I.obj
  refine wpAny_bind (wpAny_pure (wpAny_bind (wpAny_bind (wpAny_loadPart hx (wpAny_bind (PySem.W.Looks.here (s := { s with toks := s.toks + 1 }) (PySem.W.looks_clsIn X hc) ?_))))))
  rw [hd']
  refine wpAny_pure (a := some dx) (wpAny_bind (wpAny_pure (wpAny_bind ?_)))
  refine wpAny_nsSet1 (s := { s with toks := s.toks + 1 }) I.ns fun h' hn2 hs2 => ?_
  obtain ⟨oD, esD, epD, hoD, hdD, hcD⟩ := hn2.count (PySem.Within.cons name v hw)
  refine wpAny_bind (wpAny_lookBehind hoD (by rw [hdD]; exact pastItsLine_dict (Nat.le_trans hcD (by rw [List.length_cons]; omega))) ?_)
  exact wpAny_pure (h _ ⟨(hs2.2 _ (Ne.symm I.ne)).trans I.obj, hn2, I.ne⟩ hs2)

/-- C(..): the dict at the heap's end, the instance behind it; then its __init__ -/
theorem make_map {R : Result → Shared → Prop} {vs : List Value} {kw : List (Str × Value)} (X : K.In s.heap) (hm : PySem.W.makesIn K C = true)
    (hi : PySem.W.findIn K (.ref C) "__init__" = some (some (.ref f))) (hf : PySem.W.typeIn K (.ref f) = some (.type "function"))
    (h : codeAny (model prog w) (A.under (.builtin "type.__call__" ⟨.ref C :: vs, kw⟩)) (.call (.ref f) ⟨.ref (s.heap.objs.size + 1) :: vs, kw⟩) (PySem.W.InitBack (s.heap.objs.size + 1) R)
      { s with heap := (s.heap.push PySem.W.emptyDict).push (PySem.W.instObj C s.heap.objs.size) }) :
    codeAny (model prog w) A (.call (.ref C) ⟨vs, kw⟩) R s := by
  obtain ⟨hh, g, d, t, os⟩ := s
  exact PySem.W.make_core (PySem.W.makes_of X hm) (PySem.W.looks_findIn X hi) (fun self => PySem.W.bind_fn X self hf) (.inl rfl) h
end

/-! ### the attributes as a list of pairs -/
def putF (f : Str) (v : V) : List (Str × V) → List (Str × V)
  | [] => [(f, v)]
  | (g, x) :: r => if g = f then (g, v) :: r else (g, x) :: putF f v r
theorem lookup_putF (f g : Str) (v : V) : ∀ fs : List (Str × V), (putF f v fs).lookup g = if g = f then some v else fs.lookup g
  | [] => by
    show List.lookup g [(f, v)] = _
    by_cases h : g = f
    · have hb : (g == f) = true := beq_iff_eq.mpr h
      simp only [List.lookup, hb, if_pos h]
    · have hb : (g == f) = false := beq_eq_false_iff_ne.mpr h
      simp only [List.lookup, hb, if_neg h]
  | (k, x) :: r => by
    have ih := lookup_putF f g v r
    rw [show putF f v ((k, x) :: r) = (if k = f then (k, v) :: r else (k, x) :: putF f v r) from rfl]
    by_cases hk : k = f
    · rw [if_pos hk]
      by_cases h : g = k
      · have hb : (g == k) = true := beq_iff_eq.mpr h
        simp only [List.lookup, hb, if_pos (h.trans hk)]
      · have hb : (g == k) = false := beq_eq_false_iff_ne.mpr h
        simp only [List.lookup, hb, if_neg (fun e : g = f => h (e.trans hk.symm))]
    · rw [if_neg hk]
      by_cases h : g = k
      · have hb : (g == k) = true := beq_iff_eq.mpr h
        simp only [List.lookup, hb, if_neg (fun e : g = f => hk (h.symm.trans e))]
      · have hb : (g == k) = false := beq_eq_false_iff_ne.mpr h
        simp only [List.lookup, hb]
        exact ih
theorem keys_putF (f : Str) (v : V) : ∀ fs : List (Str × V), f ∈ (putF f v fs).map (·.1) ∧ ∀ g, g ∈ fs.map (·.1) → g ∈ (putF f v fs).map (·.1)
  | [] => ⟨by simp [putF], fun g h => by simp at h⟩
  | (k, x) :: r => by
    obtain ⟨i1, i2⟩ := keys_putF f v r
    rw [show putF f v ((k, x) :: r) = (if k = f then (k, v) :: r else (k, x) :: putF f v r) from rfl]
    by_cases hk : k = f
    · rw [if_pos hk]
      subst hk
      exact ⟨by simp, fun g h => by simpa using h⟩
    · rw [if_neg hk]
      refine ⟨?_, fun g h => ?_⟩
      · rw [List.map_cons]
        exact List.mem_cons_of_mem _ i1
      · rw [List.map_cons] at h ⊢
        rcases List.mem_cons.mp h with e | e
        · exact List.mem_cons.mpr (.inl e)
        · exact List.mem_cons_of_mem _ (i2 g e)
theorem length_putF (f : Str) (v : V) : ∀ fs : List (Str × V), (putF f v fs).length ≤ fs.length + 1
  | [] => by simp [putF]
  | (k, x) :: r => by
    have ih := length_putF f v r
    rw [show putF f v ((k, x) :: r) = (if k = f then (k, v) :: r else (k, x) :: putF f v r) from rfl]
    by_cases hk : k = f
    · rw [if_pos hk, List.length_cons, List.length_cons]; omega
    · rw [if_neg hk, List.length_cons, List.length_cons]; omega

theorem RelO.some_of {v : V} {o : Option Value} (r : RelO (some v) o) : ∃ u, o = some u ∧ RelV v u := by
  cases o with
  | none => exact (show False from r).elim
  | some u => exact ⟨u, rfl, r⟩
theorem RelO.none_of {o : Option Value} (r : RelO none o) : o = none := by
  cases o with
  | none => rfl
  | some u => exact (show False from r).elim
theorem handed_of {v : V} {u : Value} (r : RelV v u) : PySem.W.handedIn u = true := by
  cases v with
  | non => cases (show u = Value.none from r); rfl
  | bl b => cases (show u = Value.bool b from r); rfl
  | int i => obtain ⟨t, e⟩ := (show ∃ t, u = Value.int i t from r); cases e; rfl
  | str x => obtain ⟨t, e⟩ := (show ∃ t, u = Value.str x t from r); cases e; rfl
  | byt b => obtain ⟨t, e⟩ := (show ∃ t, u = Value.bytes b t from r); cases e; rfl
  | flt b => obtain ⟨t, e⟩ := (show ∃ t, u = Value.float b t from r); cases e; rfl
  | ref a => cases (show u = Value.ref a from r); rfl
  | ty n => cases (show u = Value.type n from r); rfl

section
variable {P : Program} {w : World} {H H' : Hp} {h h' : Heap} {a C dx : Addr} {fs fs' : List (Str × V)}
theorem ins_get (hok : HOk P w H h) (e : H a = some (.ins C dx fs)) : ∃ mA, ObjM h a dx C mA ∧ (∀ f, RelO (fs.lookup f) (mA f)) ∧ PySem.Within mA (fs.map (·.1)) ∧ fs.length ≤ 1000 ∧ H dx = some (.own a) := by
  obtain ⟨d, z, ne, ob, mA, n, r, q⟩ := (show ObjOk P w H h a (.ins C dx fs) from hok a _ e)
  exact ⟨mA, ⟨ob, n, ne⟩, r, q, z, d⟩
end

/-! ### what of the text a class must have -/
structure Cls (K : PySem.W.Frag) (C : Addr) : Prop where
  pg : PySem.W.plainGet K C Str.empty = true
  hd : PySem.W.hasDictIn K C = true
  po : PySem.W.plainOver K C = true
  sa : PySem.W.findIn K (.ref C) "__setattr__" = some (some (.builtin "object.__setattr__"))
theorem Cls.get {K : PySem.W.Frag} {C : Addr} (c : Cls K C) (f : Str) : PySem.W.plainGet K C f = true := c.pg
/-- no class of it has the name -/
def NoAttr (K : PySem.W.Frag) (C : Addr) (f : Str) : Prop := PySem.W.findIn K (.ref C) f = some none
theorem NoAttr.taker {K : PySem.W.Frag} {C : Addr} {f : Str} (n : NoAttr K C f) : PySem.W.takerIn K C f = some none := by
  unfold PySem.W.takerIn
  rw [show PySem.W.findIn K (.ref C) f = some none from n]
  rfl
/-- a constant of the class -/
structure Con (K : PySem.W.Frag) (C : Addr) (f : Str) (v : V) (u : Value) : Prop where
  at_ : PySem.W.findIn K (.ref C) f = some (some u)
  rel : RelV v u
  get : PySem.W.specialIn K u "__get__" = some none
  cp : PySem.W.copiedNames.contains f = false
/-- a method: a plain def of the class or of one above it -/
structure Meth (K : PySem.W.Frag) (C : Addr) (m : Str) (f : Addr) : Prop where
  at_ : PySem.W.findIn K (.ref C) m = some (some (.ref f))
  fn : PySem.W.isFn K (.ref f) = true
  kp : PySem.W.keepIn K (.ref f) = true

section
variable {X : Cx} {pins : List (Addr × Obj)} {σ : St} {H : Hp} {s : Shared} {a C dx : Addr} {fs : List (Str × V)} {f : Str} {v : V} {A : Around} {E : Value → Shared → Prop}

theorem getattr_ok {b : Bool} {Q : Value → Shared → Prop} (I : Inv X pins σ H s) (e : H a = some (.ins C dx fs)) (c : Cls X.K C) (n : NoAttr X.K C f) (l : fs.lookup f = some v)
    (h : ∀ u s', Inv X pins σ H s' → RelV v u → Q u s') : wpAny (model X.prog X.w) A (getAttr (.ref a) f b) Q E s := by
  obtain ⟨mA, O, r, _, _, _⟩ := ins_get I.hok e
  obtain ⟨u, hu, ru⟩ := RelO.some_of (v := v) (o := mA f) (by rw [← l]; exact r f)
  exact get_map I.kIn O (c.get f) c.hd n hu (handed_of ru) (h u _ (I.tok _) ru)

theorem getmeth_ok {m : Str} {g : Addr} {pl : Sem Bool} {Q : Value × List Value → Shared → Prop} (I : Inv X pins σ H s) (e : H a = some (.ins C dx fs)) (c : Cls X.K C) (k : Meth X.K C m g) (l : fs.lookup m = none)
    (h : Q (.ref g, [.ref a]) s) : wpAny (model X.prog X.w) A (getMethod (.ref a) m pl) Q E s := by
  obtain ⟨mA, O, r, _, _, _⟩ := ins_get I.hok e
  have hn : mA m = none := RelO.none_of (by rw [← l]; exact r m)
  exact get_meth I.kIn O (c.get m) k.at_ k.fn hn h

theorem setattr_ok {y : V} {u : Value} {Q : Unit → Shared → Prop} (I : Inv X pins σ H s) (e : H a = some (.ins C dx fs)) (c : Cls X.K C) (n : NoAttr X.K C f) (hl : fs.length < 1000) (ry : RelV y u)
    (h : ∀ s', Inv X pins σ (upd H a (.ins C dx (putF f y fs))) s' → Q () s') : wpAny (model X.prog X.w) A (setAttr (.ref a) f u) Q E s := by
  obtain ⟨mA, O, r, wi, _, ho⟩ := ins_get I.hok e
  have hz : (fs.map (·.1)).length ≤ sizeLine := by rw [List.length_map, sizeLine_eq]; omega
  refine set_map I.kIn O c.sa c.po n.taker c.hd wi hz fun h' O' sb => h _ ?_
  have hd : ∃ o, h'.get? dx = some o := let ⟨o, _, _, e', _⟩ := O'.ns; ⟨o, e'⟩
  refine I.write (x := a) (e := dx) (by rw [e]; exact True.intro) (.inr ho) (fun b q hb z => (sb.2 b hb).trans z) hd ?_
  refine ⟨by rw [upd_ne O.ne]; exact ho, ?_, O.ne, O'.obj, _, O'.ns, fun g => ?_, fun g hg => ?_⟩
  · have := length_putF f y fs; omega
  · show RelO ((putF f y fs).lookup g) (if g = f then some u else mA g)
    rw [lookup_putF]
    by_cases q : g = f
    · rw [if_pos q, if_pos q]; exact ry
    · rw [if_neg q, if_neg q]; exact r g
  · by_cases q : g = f
    · rw [q]; exact (keys_putF f y fs).1
    · refine (keys_putF f y fs).2 g (wi g fun z => hg ?_)
      show (if g = f then some u else mA g) = none
      rw [if_neg q]; exact z

/-- a new instance, tracked, without attributes -/
theorem Inv.made (I : Inv X pins σ H s) : Inv X pins σ (upd (upd H s.heap.objs.size (.own (s.heap.objs.size + 1))) (s.heap.objs.size + 1) (.ins C s.heap.objs.size []))
    { s with heap := (s.heap.push PySem.W.emptyDict).push (PySem.W.instObj C s.heap.objs.size) } := by
  have e1 : (s.heap.push PySem.W.emptyDict).get? s.heap.objs.size = some PySem.W.emptyDict := Heap.get?_push_size s.heap rfl
  have e2 : ((s.heap.push PySem.W.emptyDict).push (PySem.W.instObj C s.heap.objs.size)).get? (s.heap.objs.size + 1) = some (PySem.W.instObj C s.heap.objs.size) := by
    have := Heap.get?_push_size (s.heap.push PySem.W.emptyDict) (o := PySem.W.instObj C s.heap.objs.size) rfl
    rwa [Heap.size_push] at this
  have e3 : (s.heap.push PySem.W.emptyDict).Ns s.heap.objs.size (fun _ => none) := ⟨PySem.W.emptyDict, #[], _, e1, rfl, (fun e he => absurd he (by simp)), fun _ => rfl⟩
  have I1 := I.laid (a := s.heap.objs.size) (o := .own (s.heap.objs.size + 1)) (h' := s.heap.push PySem.W.emptyDict) (t' := s.toks) (fun b u q => Heap.get?_push_of_some _ q) (Nat.le_refl _) ⟨_, e1⟩
  refine I1.laid (a := s.heap.objs.size + 1) (o := .ins C s.heap.objs.size []) (t' := s.toks) (fun b u q => Heap.get?_push_of_some _ q) (Nat.le_of_eq (Heap.size_push _ _)) ?_
  have ne : s.heap.objs.size ≠ s.heap.objs.size + 1 := Nat.ne_of_lt (Nat.lt_succ_self _)
  refine ⟨by rw [upd_ne ne, upd_same], Nat.zero_le _, ne, e2, fun _ => none, (Heap.Ns1.of_empty e3).at fun o q => Heap.get?_push_of_some _ q, fun _ => True.intro, fun y hy => absurd rfl hy⟩

/-- e.f where nothing but the object is asked: through attributeBase (super) and the last hold -/
theorem attr_of {prog : Program} {w : World} {env : Env} {e : Expr} {f : Str} {pos : Pos} {s : Shared} {Q : Value → Shared → Prop} (hb : attributeBase e f env (eval e env) = eval e env)
    (h : wpAny (model prog w) A (eval e env) (fun o s₁ => wpAny (model prog w) A (getAttr o f true) Q E s₁) E s) : wpAny (model prog w) A (eval (.Attribute e f pos) env) Q E s :=
  Attribute_any_ h (by rw [arm_eval_Attribute, hb])
end

/-! ### readings and rules -/
/-- e.f, an attribute of the instance -/
def tFld (K : PySem.W.Frag) (ta : TE) (f : Str) : TE := fun σ H Q => ta σ H fun x H1 => ∃ a C dx fs v, x = .ref a ∧ H1 a = some (.ins C dx fs) ∧ Cls K C ∧ NoAttr K C f ∧ fs.lookup f = some v ∧ Q v H1
/-- e.f, a constant of the class -/
def tCon (K : PySem.W.Frag) (ta : TE) (f : Str) : TE := fun σ H Q => ta σ H fun x H1 => ∃ a C dx fs v u, x = .ref a ∧ H1 a = some (.ins C dx fs) ∧ Cls K C ∧ Con K C f v u ∧ fs.lookup f = none ∧ Q v H1
/-- e.f = value -/
def sFld (K : PySem.W.Frag) (ta tv : TE) (f : Str) : TS := fun D σ H => tv σ H fun y H1 => ta σ H1 fun x H2 => ∃ a C dx fs, x = .ref a ∧ H2 a = some (.ins C dx fs) ∧ Cls K C ∧ NoAttr K C f ∧ fs.length < 1000 ∧
  D.nx σ (upd H2 a (.ins C dx (putF f y fs)))
/-- an augmented operator on two values -/
def InOp (X : Cx) (op : Operator) (rd : V → V → Hp → VK → Prop) : Prop :=
  ∀ (pins : List (Addr × Obj)) (s : Shared) (σ : St) (H : Hp) (x y : V) (u v : Value) (Q : VK), Inv X pins σ H s → RelV x u → RelV y v → rd x y H Q → wpAny (model X.prog X.w) X.A (inplaceOp op u v) (EP X pins σ Q) X.xe s
/-- e.f op= value -/
def sFldAug (K : PySem.W.Frag) (ta tv : TE) (rd : V → V → Hp → VK → Prop) (f : Str) : TS := fun D σ H => ta σ H fun x H1 => ∃ a C dx fs v, x = .ref a ∧ H1 a = some (.ins C dx fs) ∧ Cls K C ∧ NoAttr K C f ∧ fs.lookup f = some v ∧
  tv σ H1 fun y H2 => rd v y H2 fun z H3 => ∃ dx' fs', H3 a = some (.ins C dx' fs') ∧ fs'.length < 1000 ∧ D.nx σ (upd H3 a (.ins C dx' (putF f z fs')))

section
variable {X : Cx} {o e value : Expr} {f : Str} {pos pos' tpos : Pos} {ta tv : TE}
theorem pe_fld (he : PE X e ta) (hb : attributeBase e f X.env (eval e X.env) = eval e X.env) : PE X (.Attribute e f pos) (tFld X.K ta f) := by
  intro pins s σ H Q I h
  refine attr_of hb (thn (he pins s σ H _ I h) fun u s1 ⟨x, H1, I1, rx, a, C, dx, fs, v, ex, ea, c, n, l, q⟩ => ?_)
  subst ex
  obtain rfl : u = Value.ref a := rx
  exact getattr_ok I1 ea c n l fun u' s2 I2 ru => ⟨v, H1, I2, ru, q⟩
theorem ps_fld (ha : PE X o ta) (hv : PE X value tv) (hs : swapsWith value (some (.Attribute o f pos')) pos.line X.env = pure false) : PS X (.Assign [.Attribute o f pos'] value pos) (sFld X.K ta tv f) := by
  intro pins s σ H D I h
  refine plainObj_wpAny_Assign_Attribute (thn (hv pins s σ H _ I h) fun u s1 ⟨y, H1, I1, ry, q⟩ => thn (ha pins s1 σ H1 _ I1 q) fun ov s2 ⟨x, H2, I2, rx, a, C, dx, fs, ex, ea, c, n, l, q2⟩ => ?_) hs
  subst ex
  obtain rfl : ov = Value.ref a := rx
  exact setattr_ok I2 ea c n l ry fun s3 I3 => ⟨σ, _, I3, q2⟩
def rAdd : V → V → Hp → VK → Prop := fun x y H Q => ∃ i j, x = .int i ∧ y = .int j ∧ Q (.int (i + j)) H
def rSub : V → V → Hp → VK → Prop := fun x y H Q => ∃ i j, x = .int i ∧ y = .int j ∧ Q (.int (i - j)) H
end

/-! ### isinstance -/
section
variable {X : Cx} {pins : List (Addr × Obj)} {σ : St} {H : Hp} {s : Shared} {A : Around} {E : Value → Shared → Prop} {Q : Value → Shared → Prop} {c : Value} {b : Bool}
/-- the type of a value, as the fragment's deciders take it; for an instance its class -/
inductive TyOf (K : PySem.W.Frag) (H : Hp) : V → Value → Prop where
  | non : TyOf K H .non (.type "NoneType")
  | bl (x : Bool) : TyOf K H (.bl x) (.type "bool")
  | int (i : Int) : TyOf K H (.int i) (.type "int")
  | str (x : Str) : TyOf K H (.str x) (.type "str")
  | flt (x : UInt64) : TyOf K H (.flt x) (.type "float")
  | lst {a : Addr} {xs : List V} (e : H a = some (.lst xs)) : TyOf K H (.ref a) (.type "list")
  | frz {a : Addr} {o : Obj} {xs : List V} (e : H a = some (.frz o (.lst xs))) : TyOf K H (.ref a) (.type "list")
  | tup {a : Addr} {xs : List V} (e : H a = some (.tup xs)) : TyOf K H (.ref a) (.type "tuple")
  | dK {a : Addr} {kvs : List (Key × V)} (e : H a = some (.dK kvs)) : TyOf K H (.ref a) (.type "dict")
  | dT {a : Addr} {kvs : List (List Key × V)} (e : H a = some (.dT kvs)) : TyOf K H (.ref a) (.type "dict")
  | ins {a C dx : Addr} {fs : List (Str × V)} (e : H a = some (.ins C dx fs)) (cl : Cls K C) (ha : PySem.W.findIn K (.ref C) "__class__" = some (some (.builtin "object.__class__")))
      (hn : PySem.W.specialIn K (.builtin "object.__class__") "__get__" = some (some (.builtin "getset_descriptor.__get__"))) (htk : PySem.W.takesIn K (.builtin "object.__class__") = some true)
      (hm : PySem.W.mroIn K C (.type "object") = some true) : TyOf K H (.ref a) (.ref C)
/-- isinstance(x, c) for one class c, a built-in or an own one: kitOne's answer -/
theorem isinst_ok {x : V} {u t : Value} (I : Inv X pins σ H s) (rx : RelV x u) (ty : TyOf X.K H x t) (e : PySem.W.kitOne X.K t c = some b) (h : ∀ tk, Q (.bool b) { s with toks := tk }) :
    wpAny (model X.prog X.w) A (call (.builtin "isinstance") [u, c]) Q E s := by
  cases ty with
  | non => cases (show u = Value.none from rx); exact PySem.W.kia_one PySem.W.kitx_none I.kIn True.intro e (fun z => nomatch z) h
  | bl y => cases (show u = Value.bool y from rx); exact PySem.W.kia_one PySem.W.kitx_bool I.kIn True.intro e (fun z => nomatch z) h
  | int i => obtain ⟨t, q⟩ := (show ∃ t, u = Value.int i t from rx); cases q; exact PySem.W.kia_one PySem.W.kitx_int I.kIn True.intro e (fun z => nomatch z) h
  | str y => obtain ⟨t, q⟩ := (show ∃ t, u = Value.str y t from rx); cases q; exact PySem.W.kia_one PySem.W.kitx_str I.kIn True.intro e (fun z => nomatch z) h
  | flt y => obtain ⟨t, q⟩ := (show ∃ t, u = Value.float y t from rx); cases q; exact PySem.W.kia_one PySem.W.kitx_float I.kIn True.intro e (fun z => nomatch z) h
  | @lst a xs ea =>
    cases (show u = Value.ref a from rx)
    obtain ⟨_, _, n, _, h1⟩ := (show ObjOk X.prog X.w H s.heap a (.lst xs) from I.hok a _ ea)
    exact PySem.W.kia_one PySem.W.kitx_list I.kIn ⟨_, h1, rfl⟩ e (fun z => nomatch z) h
  | @frz a ob xs ea =>
    cases (show u = Value.ref a from rx)
    obtain ⟨_, _, _, n, _, h1⟩ := (show ObjOk X.prog X.w H s.heap a (.frz ob (.lst xs)) from I.hok a _ ea)
    exact PySem.W.kia_one PySem.W.kitx_list I.kIn ⟨_, h1, rfl⟩ e (fun z => nomatch z) h
  | @tup a xs ea =>
    cases (show u = Value.ref a from rx)
    obtain ⟨_, _, _, p⟩ := (show ObjOk X.prog X.w H s.heap a (.tup xs) from I.hok a _ ea)
    obtain ⟨o, h1, h2, _⟩ := p
    exact PySem.W.kia_one PySem.W.kitx_tuple I.kIn ⟨o, h1, h2⟩ e (fun z => nomatch z) h
  | @dK a kvs ea =>
    cases (show u = Value.ref a from rx)
    obtain ⟨_, _, vs, _, p⟩ := (show ObjOk X.prog X.w H s.heap a (.dK kvs) from I.hok a _ ea)
    obtain ⟨o, es, ep, h1, h2, _⟩ := p
    exact PySem.W.kia_one PySem.W.kitx_dict I.kIn ⟨o, h1, h2.1⟩ e (fun z => nomatch z) h
  | @dT a kvs ea =>
    cases (show u = Value.ref a from rx)
    obtain ⟨_, _, xs, _, o, es, ep, h1, h2, _⟩ := (show ObjOk X.prog X.w H s.heap a (.dT kvs) from I.hok a _ ea)
    exact PySem.W.kia_one PySem.W.kitx_dict I.kIn ⟨o, h1, h2.1⟩ e (fun z => nomatch z) h
  | @ins a C dx fs ea cl ha hn htk hm =>
    cases (show u = Value.ref a from rx)
    obtain ⟨mA, O, _⟩ := ins_get I.hok ea
    obtain ⟨od, J, _⟩ := O.look
    exact PySem.W.kia_one (PySem.W.kitx_own (cl.get _) cl.hd ha hn htk hm) I.kIn J e (fun z => nomatch z) h
end
end L2

namespace L2
open PySem PySem.Spec PyProof.Rows

/-! ### room -/
structure Room (k : Nat) (A : Around) : Prop where
  hd : A.handled = none
  dp : A.depth + 3 * k + 5 < recursionLimit
  un : A.units + 16 * k + 200 < cLine
theorem Room.mono {j k : Nat} {A : Around} (r : Room k A) (h : j ≤ k) : Room j A := ⟨r.hd, by have := r.dp; omega, by have := r.un; omega⟩
theorem Room.deeper {k : Nat} {A : Around} (r : Room (k + 1) A) (env : Env) : Room k (A.deeper env) :=
  ⟨r.hd, by have := r.dp; show A.depth + 1 + 3 * k + 5 < _; omega, by have := r.un; show A.units + 3 + 16 * k + 200 < _; omega⟩
theorem make_depth {A : Around} {C : Addr} {us : List Value} {kw : List (Str × Value)} : (A.under (.builtin "type.__call__" ⟨.ref C :: us, kw⟩)).depth = A.depth + 1 := by
  first | rfl | simp [Around.under, Code.weight, Code.isCreation, Code.isGuard, Code.isCaller, Code.frames, Code.isFrame, guardIds]
theorem make_units {A : Around} {C : Addr} {us : List Value} {kw : List (Str × Value)} : (A.under (.builtin "type.__call__" ⟨.ref C :: us, kw⟩)).units = A.units + 1 := by
  first | rfl | simp [Around.under, Code.cUnits, Code.frames, Code.isFrame]
theorem Room.make {k : Nat} {A : Around} (r : Room (k + 1) A) (C : Addr) (us : List Value) (kw : List (Str × Value)) : Room k (A.under (.builtin "type.__call__" ⟨.ref C :: us, kw⟩)) :=
  ⟨r.hd, by have := r.dp; rw [make_depth]; omega, by have := r.un; rw [make_units]; omega⟩
theorem Room.depth {k : Nat} {A : Around} (r : Room k A) : A.depth < recursionLimit := by have := r.dp; omega
theorem Room.units {k : Nat} {A : Around} (r : Room k A) : A.units + 64 < cLine := by have := r.un; omega
/-! ### argument lists and displays -/
def tNil : TA := fun _ H Q => Q [] H
def tCons (ta : TE) (tr : TA) : TA := fun σ H Q => ta σ H fun x H1 => tr σ H1 fun xs H2 => Q (x :: xs) H2
section
variable {X : Cx} {e : Expr} {es : List Expr} {te : TE} {t : TA} {pos : Pos}
theorem pa_nil : PA X [] tNil := fun _ _ _ _ H Q I h => Calls.spliced_nil ⟨[], H, I, .nil, h⟩
theorem pa_cons (ha : PE X e te) (hr : PA X es t) (hs : starEach (e :: es) X.env = (false, eval e X.env) :: starEach es X.env := by rfl) : PA X (e :: es) (tCons te t) := by
  intro pos pins s σ H Q I h
  rw [hs]
  show wpAny _ _ (spliced ((false, eval e X.env) :: backTo pos (starEach es X.env))) _ _ s
  refine Calls.spliced_cons (thn (ha pins s σ H _ I h) fun u s1 ⟨x, H1, I1, r1, q1⟩ => ?_)
  exact thn (hr pos pins s1 σ H1 _ I1 q1) fun us s2 ⟨xs, H2, I2, r2, q2⟩ => ⟨x :: xs, H2, I2, .cons r1 r2, q2⟩

/-- a tuple, a list of written items -/
def tTup (t : TA) : TE := fun σ H Q => t σ H fun xs H1 => xs.length ≤ sizeLine ∧ ∀ p, H1 p = none → Q (.ref p) (upd H1 p (.tup xs))
def tLst (t : TA) : TE := fun σ H Q => t σ H fun xs H1 => xs.length ≤ sizeLine ∧ ∀ p, H1 p = none → Q (.ref p) (upd H1 p (.lst xs))
theorem pe_tup {x1} (h : PA X es t) : PE X (.Tuple es x1 pos) (tTup t) := by
  intro pins s σ H Q I hq
  refine wpAny_Tuple_spliced (thn (h pos pins s σ H _ I hq) fun us s1 ⟨xs, H1, I1, r, z, q⟩ => ⟨by rw [← r.length]; exact z, ?_⟩)
  have hf : H1 s1.heap.objs.size = none := I1.hok.fresh (Nat.le_refl _)
  refine ⟨.ref s1.heap.objs.size, upd H1 s1.heap.objs.size (.tup xs), I1.laid (t' := s1.toks) (fun b u e => Heap.get?_push_of_some _ e) (Nat.le_refl _) ?_, rfl, q _ hf⟩
  exact ⟨z, us, r, ⟨_, Heap.get?_push_size _ rfl, rfl, _, rfl⟩⟩
theorem pe_lst (h : PA X es t) : PE X (.List es pos) (tLst t) := by
  intro pins s σ H Q I hq
  refine wpAny_List_spliced (thn (h pos pins s σ H _ I hq) fun us s1 ⟨xs, H1, I1, r, z, q⟩ => ⟨by rw [← r.length]; exact z, ?_⟩)
  have hf : H1 s1.heap.objs.size = none := I1.hok.fresh (Nat.le_refl _)
  refine ⟨.ref s1.heap.objs.size, upd H1 s1.heap.objs.size (.lst xs), I1.laid (t' := s1.toks) (fun b u e => Heap.get?_push_of_some _ e) (Nat.le_refl _) ?_, rfl, q _ hf⟩
  exact ⟨z, us, 0, r, Heap.get?_push_size _ rfl⟩
end

/-! ### what a def promises -/
/-- a def's promise: the bound arguments in the parameters' order, the heap, the wanted end, the wanted exception -/
abbrev Sp := List V → Hp → VK → XK → Prop
/-- how an exception lies behind a call (file 08 gives it): the callers' frames, abstract heap and state ahead of the call, the wish, the exception, the state -/
abbrev CXT := List Env → Hp → Shared → XK → Value → Shared → Prop

/-- the state at a call -/
structure Env0 (P : Program) (w : World) (K : PySem.W.Frag) (mg : Str → Option Value) (base : Heap) (A : Around) (outer : List Env) (s : Shared) (H : Hp) : Prop where
  frames : A.frames = some outer
  mod : Mod K mg base
  bs : ∀ b o, base.get? b = some o → s.heap.get? b = some o ∧ H b = none
  bsz : base.objs.size ≤ s.heap.objs.size
  funs : s.heap.FunFrames base outer
  frf : ∀ b ∈ frs outer, H b = none
  hok : HOk P w H s.heap
  bare : AllBare s.gens
/-- a call's end -/
def CE (outer : List Env) (P : Program) (w : World) (H : Hp) (s : Shared) (Q : VK) (u : Value) (s' : Shared) : Prop :=
  ∃ v H', s'.os = s.os ∧ AllBare s'.gens ∧ Un (frs outer) [] H H' s.heap s'.heap ∧ HOk P w H' s'.heap ∧ RelV v u ∧ Q v H'
def CR (CX : CXT) (outer : List Env) (P : Program) (w : World) (H : Hp) (s : Shared) (Q : VK) (E : XK) (r : Result) (s' : Shared) : Prop :=
  match r with
  | .ok (.ret u) => CE outer P w H s Q u s'
  | .ok _ => False
  | .error e => CX outer H s E e s'
structure FnOk (P : Program) (w : World) (K : PySem.W.Frag) (mg : Str → Option Value) (base : Heap) (CX : CXT) (k : Nat) (f : Addr) (fd : FuncData) (ps : List Str) (sp : Sp) : Prop where
  len : ∀ vs H Q E, sp vs H Q E → vs.length = ps.length
  run : ∀ (A : Around) (outer : List Env) (s : Shared) (H : Hp) (args : Args) (us : List Value) (vs : List V) (Q : VK) (E : XK), Room k A → Env0 P w K mg base A outer s H → BindsTo s fd args (ps.zip us) → Vals vs us → sp vs H Q E →
    codeAny (model P w) A (.call (.ref f) args) (CR CX outer P w H s Q E) s
theorem FnOk.mono {P : Program} {w : World} {K : PySem.W.Frag} {mg : Str → Option Value} {base : Heap} {CX : CXT} {j k : Nat} {f : Addr} {fd : FuncData} {ps : List Str} {sp : Sp} (F : FnOk P w K mg base CX j f fd ps sp) (h : j ≤ k) :
    FnOk P w K mg base CX k f fd ps sp := ⟨F.len, fun A outer s H args us vs Q E hr => F.run A outer s H args us vs Q E (hr.mono h)⟩
theorem Env0.make {P : Program} {w : World} {K : PySem.W.Frag} {mg : Str → Option Value} {base : Heap} {A : Around} {outer : List Env} {s : Shared} {H : Hp} (e : Env0 P w K mg base A outer s H) (C : Addr) (us : List Value) (kw : List (Str × Value)) :
    Env0 P w K mg base (A.under (.builtin "type.__call__" ⟨.ref C :: us, kw⟩)) outer s H := ⟨by first | exact e.frames | (simpa [Around.under, Code.envs, Code.isFrame, pushEnvs] using e.frames), e.mod, e.bs, e.bsz, e.funs, e.frf, e.hok, e.bare⟩
section
variable {X : Cx} {pins : List (Addr × Obj)} {σ : St} {H : Hp} {s s' : Shared}
/-- from a body: what a callee wants -/
theorem Inv.env0 (I : Inv X pins σ H s) : Env0 X.prog X.w X.K X.mg X.base X.A X.stack s H :=
  ⟨I.ok.frames, I.ok.mod, I.bs, Nat.le_trans I.ok.bsz I.sz, I.stack, I.stkFree, I.hok, I.bare⟩
/-- behind a call -/
theorem Inv.after {Q : VK} {u : Value} (I : Inv X pins σ H s) (h : CE X.stack X.prog X.w H s Q u s') : EP X pins σ Q u s' := by
  obtain ⟨v, H', os, bare, un, hok, r, q⟩ := h
  obtain ⟨hh, g, d, t, os'⟩ := s'
  obtain rfl : os' = s.os := os
  exact ⟨v, H', I.call (h' := hh) (g' := g) (d' := d) (t' := t) (ch := []) un hok bare (fun b z => absurd z (by simp)), r, q⟩
end

/-! ### calls -/
/-- f(..): the written arguments, then the defaults dvs; E: what is wanted of an exception -/
def tCall (sp : Sp) (dvs : List V) (E : XK) (t : TA) : TE := fun σ H Q => t σ H fun vs H1 => sp (vs ++ dvs) H1 Q E
/-- o.m(..) of an instance of the class at C -/
def tMeth (C : Addr) (m : Str) (sp : Sp) (dvs : List V) (E : XK) (ta : TE) (t : TA) : TE := fun σ H Q => ta σ H fun x H1 => ∃ a dx fs, x = .ref a ∧ H1 a = some (.ins C dx fs) ∧ fs.lookup m = none ∧
  t σ H1 fun vs H2 => sp (x :: (vs ++ dvs)) H2 Q E
/-- C(..): a new instance and its dict, then __init__ -/
def tMake (C : Addr) (sp : Sp) (dvs : List V) (E : XK) (t : TA) : TE := fun σ H Q => t σ H fun vs H1 => ∀ x dx, H1 x = none → H1 dx = none → dx ≠ x →
  sp (.ref x :: (vs ++ dvs)) (upd (upd H1 dx (.own x)) x (.ins C dx [])) (fun v H2 => v = .non ∧ Q (.ref x) H2) E

/-- how the parameters are bound: us the positional arguments, kw the keywords' values by name, ds the defaults that fill up -/
def Binds (K : PySem.W.Frag) (fd : FuncData) (ps : List Str) (ds : List Value) : Prop :=
  ∀ (s : Shared) (us : List Value), K.In s.heap → (us ++ ds).length = ps.length → BindsTo s fd ⟨us, []⟩ (ps.zip (us ++ ds))
/-- every parameter is given -/
theorem Binds.all {K : PySem.W.Frag} {fd : FuncData} {ps : List Str} (h : ∀ us : List Value, us.length = ps.length → bindArgs fd ⟨us, []⟩ = pure (ps.zip us)) : Binds K fd ps [] := fun s us _ hl => by
  rw [List.append_nil] at hl ⊢
  exact .of_eq (h us hl)

/-- an exception of a callee reaches what this body wants of exceptions -/
def Passes (CX : CXT) (X : Cx) (E : XK) : Prop := ∀ (pins : List (Addr × Obj)) (σ : St) (H : Hp) (s : Shared) (e : Value) (s' : Shared), Inv X pins σ H s → CX X.stack H s E e s' → X.xe e s'

section
variable {X : Cx} {CX : CXT} {k : Nat} {f C : Addr} {fd : FuncData} {ps : List Str} {sp : Sp} {dvs : List V} {ds : List Value} {E : XK} {x m : Str} {p pos apos : Pos} {e o : Expr} {es : List Expr} {ta : TE} {t : TA}

/-- the callee runs -/
theorem run_fn {pins : List (Addr × Obj)} {σ : St} {H : Hp} {s : Shared} {Q : VK} {us : List Value} {vs : List V} (F : FnOk X.prog X.w X.K X.mg X.base CX k f fd ps sp) (hr : Room k X.A) (hb : Binds X.K fd ps ds) (hd : Vals dvs ds) (hx : Passes CX X E)
    (I : Inv X pins σ H s) (r : Vals vs us) (h : sp (vs ++ dvs) H Q E) : wpAny (model X.prog X.w) X.A (call (.ref f) us) (EP X pins σ Q) X.xe s := by
  have r2 : Vals (vs ++ dvs) (us ++ ds) := r.append hd
  have hl : (us ++ ds).length = ps.length := by rw [← r2.length]; exact F.len _ _ _ _ h
  refine wpAny_call (codeAny_mono (F.run X.A X.stack s H ⟨us, []⟩ (us ++ ds) (vs ++ dvs) Q E hr I.env0 (hb s us I.kIn hl) r2 h) fun r s' hq => ?_)
  cases r with
  | error e => exact hx pins σ H s e s' I hq
  | ok fl =>
    cases fl with
    | ret u => exact I.after hq
    | next => exact False.elim hq
    | brk => exact False.elim hq
    | cont => exact False.elim hq

theorem pe_call (F : FnOk X.prog X.w X.K X.mg X.base CX k f fd ps sp) (hr : Room k X.A) (hg : Gl X x) (hm : X.mg x = some (.ref f)) (hk : PySem.W.keepIn X.K (.ref f) = true) (hb : Binds X.K fd ps ds) (hd : Vals dvs ds) (hx : Passes CX X E)
    (ha : PA X (e :: es) t) (hdb : (x == ("__debug__" : Str)) = false := by decide) (he : starEach (e :: es) X.env = (false, eval e X.env) :: starEach es X.env := by rfl) (hpl : (backTo pos (starEach es X.env)).any (·.1) = false := by rfl) :
    PE X (.Call (.Name x p) (e :: es) [] pos) (tCall sp dvs E t) := by
  intro pins s σ H Q I h
  refine wpAny_Call_Name_kw (ld_glob I hg hm ?_ hdb)
  refine PySem.W.callWith_K (h₀ := X.base) I.ok.mod.kin hk (thn (ha pos pins s σ H _ I h) fun us s1 ⟨vs, H1, I1, r, q⟩ => ⟨I1.kIn, ?_⟩) he hpl
  exact run_fn F hr hb hd hx I1 r q
/-- what a class must have to be made -/
structure Mk (K : PySem.W.Frag) (C f : Addr) : Prop where
  makes : PySem.W.makesIn K C = true
  init : PySem.W.findIn K (.ref C) "__init__" = some (some (.ref f))
  fn : PySem.W.isFn K (.ref f) = true
  kp : PySem.W.keepIn K (.ref C) = true

theorem run_make {pins : List (Addr × Obj)} {σ : St} {H : Hp} {s : Shared} {Q : VK} {us : List Value} {vs : List V} (M : Mk X.K C f) (F : FnOk X.prog X.w X.K X.mg X.base CX k f fd ps sp) (hr : Room (k + 1) X.A) (hb : Binds X.K fd ps ds) (hd : Vals dvs ds)
    (hx : Passes CX X E) (I : Inv X pins σ H s) (r : Vals vs us)
    (h : ∀ x dx, H x = none → H dx = none → dx ≠ x → sp (.ref x :: (vs ++ dvs)) (upd (upd H dx (.own x)) x (.ins C dx [])) (fun v H2 => v = .non ∧ Q (.ref x) H2) E) :
    wpAny (model X.prog X.w) X.A (call (.ref C) us) (EP X pins σ Q) X.xe s := by
  have hq := h (s.heap.objs.size + 1) s.heap.objs.size (I.hok.fresh (Nat.le_succ _)) (I.hok.fresh (Nat.le_refl _)) (Nat.ne_of_lt (Nat.lt_succ_self _))
  have I2 := Inv.made (C := C) I
  have r2 : Vals (V.ref (s.heap.objs.size + 1) :: (vs ++ dvs)) (Value.ref (s.heap.objs.size + 1) :: (us ++ ds)) := .cons rfl (r.append hd)
  have hl : (Value.ref (s.heap.objs.size + 1) :: us ++ ds).length = ps.length := by
    have e := r2.length
    rw [F.len _ _ _ _ hq] at e
    exact e.symm
  refine wpAny_call (make_map (f := f) I.kIn M.makes M.init (beq_iff_eq.mp M.fn) (codeAny_mono (F.run _ X.stack _ _ ⟨Value.ref (s.heap.objs.size + 1) :: us, []⟩ (Value.ref (s.heap.objs.size + 1) :: (us ++ ds)) _ _ E (hr.make C us [])
    (I2.env0.make C us []) (hb _ (Value.ref (s.heap.objs.size + 1) :: us) I2.kIn hl) r2 hq) fun r s' hq' => ?_))
  cases r with
  | error e => exact hx pins σ _ _ e s' I2 hq'
  | ok fl =>
    cases fl with
    | ret u =>
      obtain ⟨v, H', I3, rv, ev, q3⟩ := I2.after hq'
      subst ev
      exact ⟨rv, ⟨V.ref (s.heap.objs.size + 1), H', I3, rfl, q3⟩⟩
    | next => exact False.elim hq'
    | brk => exact False.elim hq'
    | cont => exact False.elim hq'
theorem pe_make (M : Mk X.K C f) (F : FnOk X.prog X.w X.K X.mg X.base CX k f fd ps sp) (hr : Room (k + 1) X.A) (hg : Gl X x) (hm : X.mg x = some (.ref C)) (hb : Binds X.K fd ps ds) (hd : Vals dvs ds) (hx : Passes CX X E)
    (ha : PA X (e :: es) t) (hdb : (x == ("__debug__" : Str)) = false := by decide) (he : starEach (e :: es) X.env = (false, eval e X.env) :: starEach es X.env := by rfl) (hpl : (backTo pos (starEach es X.env)).any (·.1) = false := by rfl) :
    PE X (.Call (.Name x p) (e :: es) [] pos) (tMake C sp dvs E t) := by
  intro pins s σ H Q I h
  refine wpAny_Call_Name_kw (ld_glob I hg hm ?_ hdb)
  refine PySem.W.callWith_K (h₀ := X.base) I.ok.mod.kin M.kp (thn (ha pos pins s σ H _ I h) fun us s1 ⟨vs, H1, I1, r, q⟩ => ⟨I1.kIn, ?_⟩) he hpl
  exact run_make M F hr hb hd hx I1 r q
theorem pe_make0 (M : Mk X.K C f) (F : FnOk X.prog X.w X.K X.mg X.base CX k f fd ps sp) (hr : Room (k + 1) X.A) (hg : Gl X x) (hm : X.mg x = some (.ref C)) (hb : Binds X.K fd ps ds) (hd : Vals dvs ds) (hx : Passes CX X E)
    (hdb : (x == ("__debug__" : Str)) = false := by decide) : PE X (.Call (.Name x p) [] [] pos) (tMake C sp dvs E tNil) := by
  intro pins s σ H Q I h
  refine wpAny_Call_Name_kw (ld_glob I hg hm ?_ hdb)
  exact PySem.W.callWith_K0 I.kIn M.kp (run_make (us := []) M F hr hb hd hx I .nil h)
end

/-! ### keywords -/
/-- the values of the keywords, from the left -/
def PK (X : Cx) (kws : List Keyword) (t : TA) : Prop :=
  ∀ (pos : Pos) (pins : List (Addr × Obj)) (s : Shared) (σ : St) (H : Hp) (Q : List V → Hp → Prop), Inv X pins σ H s → t σ H Q → wpAny (model X.prog X.w) X.A (evalAll ((backToKw pos (keywordEach kws X.env)).map (·.2))) (AP X pins σ Q) X.xe s
section
variable {X : Cx} {CX : CXT} {k : Nat} {f C : Addr} {fd : FuncData} {ps ks : List Str} {sp : Sp} {E : XK} {x m : Str} {p pos apos kpos : Pos} {e o : Expr} {es : List Expr} {kws : List Keyword} {te ta : TE} {t tk : TA} {nm : Option Str}
/-- how a call with keywords binds: g puts the positional values us and the keywords' values ws (names ks) in the parameters' order, defaults among them -/
structure KBinds (K : PySem.W.Frag) (fd : FuncData) (ps ks : List Str) (g : List Value → List Value → List Value) (gV : List V → List V → List V) : Prop where
  to : ∀ (s : Shared) (us ws : List Value), K.In s.heap → (g us ws).length = ps.length → BindsTo s fd ⟨us, ks.zip ws⟩ (ps.zip (g us ws))
  rel : ∀ {vs : List V} {us : List Value} {zs : List V} {ws : List Value}, Vals vs us → Vals zs ws → Vals (gV vs zs) (g us ws)
def tCallK (sp : Sp) (gV : List V → List V → List V) (E : XK) (t tk : TA) : TE := fun σ H Q => t σ H fun vs H1 => tk σ H1 fun zs H2 => sp (gV vs zs) H2 Q E
variable {g : List Value → List Value → List Value} {gV : List V → List V → List V}
end

/-! ### a def's body keeps its promise -/
/-- names: the parameters first -/
structure FnScope (N P : List Str) (sc : Scope) : Prop where
  kind : sc.kind = .function
  co : sc.isCoroutine = false
  gen : sc.isGenerator = false
  nd : N.Nodup
  pre : N.take P.length = P
  par : ∀ x ∈ P, sc.names.lookup x = some .local ∨ sc.names.lookup x = some .cell
  nofree : ∀ y ∈ sc.names, y.2 ≠ .free

theorem bindL_out {kindOf : Str → Option NameKind} {x : Str} : ∀ {binds : List (Str × Value)} {m : Str → Option Value}, (∀ v, (x, v) ∉ binds) → bindL kindOf binds m x = m x
  | [], _, _ => rfl
  | (n, v) :: r, m, h => by
    unfold bindL
    rw [bindL_out fun w hw => h w (List.mem_cons_of_mem _ hw)]
    split
    · have : x ≠ n := by rintro rfl; exact h v List.mem_cons_self
      simp [this]
    · rfl
theorem bindC_out {kindOf : Str → Option NameKind} {x : Str} : ∀ {binds : List (Str × Value)} {m : Str → Option Value}, (∀ v, (x, v) ∉ binds) → bindC kindOf binds m x = m x
  | [], _, _ => rfl
  | (n, v) :: r, m, h => by
    unfold bindC
    rw [bindC_out fun w hw => h w (List.mem_cons_of_mem _ hw)]
    split
    · rfl
    · have : x ≠ n := by rintro rfl; exact h v List.mem_cons_self
      simp [this]
theorem bindL_get {kindOf : Str → Option NameKind} {x : Str} {v : Value} : ∀ {P : List Str} {vs : List Value} {i : Nat} {m : Str → Option Value}, P.Nodup → P[i]? = some x → vs[i]? = some v → kindOf x = some .local →
    bindL kindOf (P.zip vs) m x = some v
  | [], _, _, _, _, h, _, _ => by simp at h
  | _ :: _, [], _, _, _, _, h, _ => by simp at h
  | p :: P, w :: vs, 0, m, nd, h1, h2, hk => by
    simp at h1 h2; subst h1; subst h2
    show bindL kindOf ((p, w) :: P.zip vs) m p = _
    unfold bindL
    rw [bindL_out fun v hv => (List.nodup_cons.mp nd).1 (List.of_mem_zip hv).1, if_pos hk]
    simp
  | p :: P, w :: vs, i + 1, m, nd, h1, h2, hk => by
    show bindL kindOf ((p, w) :: P.zip vs) m x = _
    unfold bindL
    exact bindL_get (i := i) (List.nodup_cons.mp nd).2 (by simpa using h1) (by simpa using h2) hk
theorem bindC_get {kindOf : Str → Option NameKind} {x : Str} {v : Value} : ∀ {P : List Str} {vs : List Value} {i : Nat} {m : Str → Option Value}, P.Nodup → P[i]? = some x → vs[i]? = some v → kindOf x ≠ some .local →
    bindC kindOf (P.zip vs) m x = some v
  | [], _, _, _, _, h, _, _ => by simp at h
  | _ :: _, [], _, _, _, _, h, _ => by simp at h
  | p :: P, w :: vs, 0, m, nd, h1, h2, hk => by
    simp at h1 h2; subst h1; subst h2
    show bindC kindOf ((p, w) :: P.zip vs) m p = _
    unfold bindC
    rw [bindC_out fun v hv => (List.nodup_cons.mp nd).1 (List.of_mem_zip hv).1, if_neg hk]
    simp
  | p :: P, w :: vs, i + 1, m, nd, h1, h2, hk => by
    show bindC kindOf ((p, w) :: P.zip vs) m x = _
    unfold bindC
    exact bindC_get (i := i) (List.nodup_cons.mp nd).2 (by simpa using h1) (by simpa using h2) hk

/-- the names' values at the entry -/
def start (N : List Str) (vs : List V) : St := vs.map some ++ List.replicate (N.length - vs.length) none

/-- the context of a def's body, at its entry; an exception leaves the frame, then lies as CX says -/
def cxOf (CX : CXT) (P : Program) (w : World) (K : PySem.W.Frag) (mg : Str → Option Value) (base : Heap) (N : List Str) (qual : Str) (scope : Scope) (f : Addr) (cd : Value) (A : Around) (outer : List Env) (s : Shared) (H : Hp) (E : XK) : Cx where
  prog := P
  w := w
  K := K
  mg := mg
  base := base
  A := A.deeper (envOfC qual scope s.heap.objs.size f cd)
  N := N
  s₀ := s
  H₀ := H
  env := envOfC qual scope s.heap.objs.size f cd
  outer := outer
  stack := envOfC qual scope s.heap.objs.size f cd :: outer
  ex := []
  calm := true
  fn := fun _ => true
  pn := []
  xe := fun e s' => wpAny (model P w) (A.deeper (envOfC qual scope s.heap.objs.size f cd)) (leaving (envOfC qual scope s.heap.objs.size f cd) e) (fun _ s'' => CX outer H s E e s'') (fun e' s'' => CX outer H s E e' s'') s'

theorem cell_has {sc : Scope} {n : Nat} {x : Str} (h : sc.names.lookup x = some .cell) : ∃ c, (cellsFrom n sc.names []).lookup x = some c := by
  have q := PySem.W.cellsFrom_some sc.names n [] (.inl h)
  exact Option.isSome_iff_exists.mp q

theorem inv_start {CX : CXT} {P : Program} {w : World} {K : PySem.W.Frag} {mg : Str → Option Value} {base : Heap} {N ps : List Str} {qual : Str} {scope : Scope} {f : Addr} {cd : Value} {A : Around} {outer : List Env} {s s1 : Shared} {H : Hp} {E : XK} {us : List Value} {vs : List V}
    (S : FnScope N ps scope) (hd : A.handled = none) (e0 : Env0 P w K mg base A outer s H) (hl : vs.length = ps.length) (r : Vals vs us)
    (x : InCallC s s.heap.objs.size (bindL (envOfC qual scope s.heap.objs.size f cd).kindOf (ps.zip us) fun _ => none) (cellsFrom (s.heap.objs.size + 1) scope.names []) (bindC (envOfC qual scope s.heap.objs.size f cd).kindOf (ps.zip us) fun _ => none) s1) :
    Inv (cxOf CX P w K mg base N qual scope f cd A outer s H E) [] (start N vs) H s1 := by
  have hpl : ps.length ≤ N.length := by have := congrArg List.length S.pre; rw [List.length_take] at this; omega
  obtain ⟨h1, tk, rfl, hk⟩ := x.done
  have noA : ∀ b : Addr, b ∉ (cxOf CX P w K mg base N qual scope f cd A outer s H E).ex := fun b z => absurd (show b ∈ ([] : List Addr) from z) (by simp)
  refine ⟨⟨e0.mod, S.kind, rfl, rfl, Nat.le_refl _, fun y z c h1 h2 => ?_, fun y hy => ?_, fun y c _ h => ?_, fun _ => hd, Around.frames_deeper e0.frames, .inr ⟨rfl, rfl⟩, fun b z => absurd z (noA b), e0.bs, e0.bsz, fun b _ _ => noA b, fun b z => absurd z (noA b), e0.funs, e0.frf⟩,
    rfl, e0.bare, Un.kept hk, ⟨_, x.toInCall.ns, fun i y v h1 h2 h3 => ?_⟩, fun y c h => ⟨_, x.cell y c h⟩, e0.hok.fresh (Nat.le_refl _), fun y c h => ?_, fun p hp => absurd (show p ∈ ([] : List (Addr × Obj)) from hp) (by simp), e0.hok.kept hk, ?_⟩
  · exact name_of_addr x.apart (PySem.mem_of_lookup h1) (PySem.mem_of_lookup h2)
  · have hy : scope.names.lookup y = some .cell ∨ scope.names.lookup y = some .free := hy
    rcases hy with hy | hy
    · exact cell_has hy
    · exact absurd rfl (S.nofree _ (PySem.mem_of_lookup hy))
  · exact Nat.le_of_lt (x.above y c (PySem.mem_of_lookup h))
  · have hi : i < vs.length := by
      unfold start at h2
      by_cases hi : i < vs.length
      · exact hi
      · rw [List.getElem?_append_right (by simpa using hi)] at h2
        rw [List.getElem?_replicate] at h2
        split at h2 <;> cases h2
    have ha : vs[i]? = some v := by
      unfold start at h2
      rw [List.getElem?_append_left (by simpa using hi), List.getElem?_map] at h2
      cases e : vs[i]? with
      | none => rw [e] at h2; cases h2
      | some a => rw [e] at h2; cases h2; rfl
    obtain ⟨u, hu, rv⟩ := r.get ha
    have hp : ps[i]? = some y := by
      rw [← S.pre, List.getElem?_take_of_lt (by omega)]; exact h1
    have ndP : ps.Nodup := by rw [← S.pre]; exact S.nd.sublist (List.take_sublist _ _)
    refine ⟨u, rv, ?_⟩
    rcases S.par y (List.mem_of_getElem? hp) with k | k
    · exact .inl ⟨k, bindL_get ndP hp hu k⟩
    · obtain ⟨c, e⟩ := cell_has (n := s.heap.objs.size + 1) k
      refine .inr ⟨.inl k, c, e, ?_⟩
      have q := x.cell y c e
      rw [bindC_get ndP hp hu (by show scope.names.lookup y ≠ _; rw [k]; decide)] at q
      exact q
  · exact e0.hok.fresh (Nat.le_of_lt (x.above y c (PySem.mem_of_lookup h)))
  · unfold start
    show _ = N.length
    rw [List.length_append, List.length_map, List.length_replicate]
    omega

/-- THE RULE: a def (or a method) of the text, by its body. The body's reading t is chosen for each entry; it is run at the parameters' values -/
theorem fn_of {CX : CXT} {P : Program} {w : World} {K : PySem.W.Frag} {mg : Str → Option Value} {base : Heap} {k : Nat} {f : Addr} {name qual : Str} {params : Arguments} {body : List Stmt} {scope : Scope} {dV kV doc pm cdv ct oc : Value} {an od : Option Addr}
    {osl : Array (Option Value)} {N ps : List Str} {sp : Sp} (lk : K.lookup f = some ⟨oc, od, .func (PySem.W.fnOf name qual params body scope dV kV doc pm an cdv ct), osl⟩) (hcd : PySem.W.codeIn K cdv qual = true) (S : FnScope N ps scope)
    (len : ∀ vs H Q E, sp vs H Q E → vs.length = ps.length)
    (hbody : ∀ (A : Around) (outer : List Env) (s : Shared) (H : Hp) (vs : List V) (Q : VK) (E : XK), Room k (A.deeper (envOfC qual scope s.heap.objs.size f cdv)) → sp vs H Q E →
      ∃ t, PSs (cxOf CX P w K mg base N qual scope f cdv A outer s H E) body t ∧ t { nx := fun _ H' => Q .non H', rt := Q } (start N vs) H) :
    FnOk P w K mg base CX (k + 1) f (PySem.W.fnOf name qual params body scope dV kV doc pm an cdv ct) ps sp := by
  refine ⟨len, fun A outer s H args us vs Q E hr e0 hb r hsp => ?_⟩
  have hl := len _ _ _ _ hsp
  have KX : K.In s.heap := e0.mod.kin.keeps fun b o e => (e0.bs b o e).1
  have lim : s.heap.NoLimit := e0.mod.nolimit.keeps fun b o e => (e0.bs b o e).1
  have hkind : ∀ y ∈ ps.zip us, scope.names.lookup y.1 = some .local ∨ (scope.names.lookup y.1 = some .cell ∧ ((cellsFrom (s.heap.objs.size + 1) scope.names []).lookup y.1).isSome = true) := fun ⟨n, v⟩ hy => by
    rcases S.par n (List.of_mem_zip hy).1 with q | q
    · exact .inl q
    · exact .inr ⟨q, PySem.W.cellsFrom_some _ _ _ (.inl q)⟩
  refine codeAny_call_function hr.depth (KX _ _ lk) rfl S.co S.gen rfl (PySem.W.codeRec_of KX hcd) (hb _ _ _ _ ?_)
  refine wpAny_newFunctionEnv_cells S.kind hkind fun env he s1 x => ?_
  subst he
  refine ⟨lim.keeps x.toInCall.keep, codeAny_func ?_⟩
  obtain ⟨t, ht, hq⟩ := hbody A outer s H vs Q E (hr.deeper _) hsp
  have I : Inv (cxOf CX P w K mg base N qual scope f cdv A outer s H E) [] (start N vs) H s1 := inv_start S hr.hd e0 hl r x
  refine wpAny_mono (ht [] s1 (start N vs) H _ I hq) (fun fl s' hs => ?_) fun e s' hs => hs
  have fin : ∀ {σ' : St} {H' : Hp} {v : V} {u : Value}, Inv (cxOf CX P w K mg base N qual scope f cdv A outer s H E) [] σ' H' s' → RelV v u → Q v H' → CE outer P w H s Q u s' :=
    fun {σ' H' v u} J rv q => ⟨v, H', J.os, J.bare, J.base, J.hok, rv, q⟩
  cases fl with
  | ret u =>
    obtain ⟨v, σ', H', J, rv, q⟩ := hs
    exact fin J rv q
  | next =>
    obtain ⟨σ', H', J, q⟩ := hs
    exact fin (v := V.non) (u := Value.none) J rfl q
  | brk =>
    obtain ⟨_, _, _, q⟩ := hs
    exact False.elim q
  | cont =>
    obtain ⟨_, _, _, q⟩ := hs
    exact False.elim q
end L2

namespace L2
open PySem PySem.Spec PyProof.Rows
section
variable {X : Cx} {x : Str} {p pos : Pos} {e : Expr} {es : List Expr} {t : TA} {id T : String} {r : List V → Hp → VK → Prop}

def tCB (r : List V → Hp → VK → Prop) (t : TA) : TE := fun σ H Q => t σ H fun vs H1 => r vs H1 Q
/-- f(e, ..), f a built-in function -/
theorem pe_callB (hc : CallR X (.builtin id) r) (hg : Gl X x) (hm : X.mg x = none) (hv : bootBuiltins x = some (.builtin id)) (ha : PA X (e :: es) t) (hn : x ≠ "__name__" := by decide) (hdb : (x == ("__debug__" : Str)) = false := by decide)
    (he : starEach (e :: es) X.env = (false, eval e X.env) :: starEach es X.env := by rfl) (hpl : (backTo pos (starEach es X.env)).any (·.1) = false := by rfl) : PE X (.Call (.Name x p) (e :: es) [] pos) (tCB r t) := by
  intro pins s σ H Q I h
  refine wpAny_Call_Name_kw (ld_blt I hg hm hv ?_ hn hdb)
  exact PyProof.Rows.callWith_builtin1 (thn (ha pos pins s σ H _ I h) fun us s1 ⟨vs, H1, I1, r1, q1⟩ => hc pins s1 σ H1 vs us Q I1 r1 q1) he hpl
/-- T(e, ..), T a built-in type -/
theorem pe_callTy (hc : CallR X (.type T) r) (hg : Gl X x) (hm : X.mg x = none) (hv : bootBuiltins x = some (.type T)) (ha : PA X (e :: es) t) (hn : x ≠ "__name__" := by decide) (hdb : (x == ("__debug__" : Str)) = false := by decide)
    (he : starEach (e :: es) X.env = (false, eval e X.env) :: starEach es X.env := by rfl) (hpl : (backTo pos (starEach es X.env)).any (·.1) = false := by rfl) : PE X (.Call (.Name x p) (e :: es) [] pos) (tCB r t) := by
  intro pins s σ H Q I h
  refine wpAny_Call_Name_kw (ld_blt I hg hm hv ?_ hn hdb)
  exact PyProof.Rows.callWith_type1 (thn (ha pos pins s σ H _ I h) fun us s1 ⟨vs, H1, I1, r1, q1⟩ => hc pins s1 σ H1 vs us Q I1 r1 q1) he hpl
end
end L2

namespace HT
open PySem PyProof.Rows

/-- t < u of tuples of ints -/
def lexLt : List Int → List Int → Bool
  | [], [] => false
  | [], _ :: _ => true
  | _ :: _, [] => false
  | x :: xs, y :: ys => if x = y then lexLt xs ys else decide (x < y)
section
open PySem.SeqAt
open PySem.AutoSeq1 (wpAny_loadPart')
open PySem.MeetsSeq PySem.MeetsSeq2 PySem.MeetsSeq3

end

section
variable {prog : Program} {w : World} {A : Around} {E : Value → Shared → Prop} {s : Shared}

/-! ### t[a:b], not the whole -/
/-- a slice's bound as a place among n (d where it is left out) -/
def sIx (n d : Nat) : Option Int → Nat
  | none => d
  | some v => if v < 0 then (v + (n : Int)).toNat else min v.toNat n
theorem sIx_nat (n d k : Nat) : sIx n d (some (k : Int)) = min k n := by
  show (if (k : Int) < 0 then ((k : Int) + (n : Int)).toNat else min (k : Int).toNat n) = min k n
  rw [if_neg (by omega), Int.toNat_natCast]
end
end HT

namespace L2
open PySem PySem.Spec PyProof.Rows

/-! ### the parts of a slice -/
abbrev TO := St → Hp → (Option Int → Hp → Prop) → Prop
/-- a slice's part (left out, or an int) -/
def PO (X : Cx) (e : Option Expr) (t : TO) : Prop :=
  ∀ (pins : List (Addr × Obj)) (s : Shared) (σ : St) (H : Hp) (Q : Option Int → Hp → Prop), Inv X pins σ H s → t σ H Q →
    wpAny (model X.prog X.w) X.A (evalPart e X.env) (fun u s' => ∃ o H', Inv X pins σ H' s' ∧ IsPart u o ∧ Q o H') X.xe s
def tNoPart : TO := fun _ H Q => Q none H
def tPart (t : TE) : TO := fun σ H Q => t σ H fun x H1 => ∃ i, x = .int i ∧ Q (some i) H1

section
variable {X : Cx} {e : Expr} {te : TE} {lo hi : Option Expr} {tl th : TO} {pos p2 : Pos}

theorem po_none : PO X none tNoPart := by
  intro pins s σ H Q I h
  rw [evalPart_none]
  exact wpAny_pure ⟨none, H, I, .none, h⟩
theorem po_some (h : PE X e te) : PO X (some e) (tPart te) := by
  intro pins s σ H Q I hw
  rw [evalPart_some]
  refine thn (h pins s σ H _ I hw) fun u s1 ⟨x, H1, I1, r1, q1⟩ => ?_
  obtain ⟨i, rfl, q⟩ := q1
  obtain ⟨t, rfl⟩ := r1
  exact ⟨some i, H1, I1, .int i t, q⟩

/-- what a slice of a value is, by values: the slice object stands at sl -/
def SlR (X : Cx) (r : V → Option Int → Option Int → Hp → VK → Prop) : Prop :=
  ∀ (pins : List (Addr × Obj)) (s : Shared) (σ : St) (H : Hp) (x : V) (v vl vu : Value) (lo hi : Option Int) (sl : Addr) (Q : VK), Inv X pins σ H s → RelV x v → s.heap.IsSliceOf sl vl vu .none → IsPart vl lo → IsPart vu hi → r x lo hi H Q →
    ∃ T id, typeLookup (.type T) "__getitem__" = pure (some (.builtin id)) ∧ s.TypeIs v T ∧ wpAny (model X.prog X.w) X.A (getItem v (.ref sl)) (EP X pins σ Q) X.xe s
def tSl (r : V → Option Int → Option Int → Hp → VK → Prop) (te : TE) (tl th : TO) : TE := fun σ H Q => te σ H fun x H1 => tl σ H1 fun l H2 => th σ H2 fun u H3 => r x l u H3 Q
/-- a[lo:hi], any a -/
theorem pe_slice {r : V → Option Int → Option Int → Hp → VK → Prop} (hr : SlR X r) (he : PE X e te) (hl : PO X lo tl) (hu : PO X hi th) : PE X (.Subscript e (.Slice lo hi none p2) pos) (tSl r te tl th) := by
  intro pins s σ H Q I h
  refine Subscript_ (thn (he pins s σ H _ I h) fun v s1 ⟨x, H1, I1, r1, q1⟩ => ?_)
  refine wpAny_Slice (thn (hl pins s1 σ H1 _ I1 q1) fun vl s2 ⟨l, H2, I2, pl, q2⟩ => thn (hu pins s2 σ H2 _ I2 q2) fun vu s3 ⟨u, H3, I3, pu, q3⟩ => ?_)
  rw [evalPart_none]
  refine wpAny_pure ?_
  have I4 : Inv X pins σ H3 { s3 with heap := s3.heap.push { cls := .type "slice", data := .fields #[vl, vu, .none] } } := I3.kept (t' := s3.toks) fun b ob q => Heap.get?_push_of_some _ q
  obtain ⟨T, id, hT, ht, hg⟩ := hr pins { s3 with heap := s3.heap.push { cls := .type "slice", data := .fields #[vl, vu, .none] } } σ H3 x v vl vu l u s3.heap.objs.size Q I4 r1 (Heap.IsSliceOf.new ..) pl pu q3
  show wpAny (model X.prog X.w) X.A (subscriptTail e (.Slice lo hi none p2) v (.ref s3.heap.objs.size)) (EP X pins σ Q) X.xe { s3 with heap := s3.heap.push { cls := .type "slice", data := .fields #[vl, vu, .none] } }
  exact tail_any (ops := [.ref s3.heap.objs.size, v]) ht hT hg (by with_unfolding_all rfl)

/-- the items of xs[lo:hi] -/
def cutV (xs : List V) (lo hi : Option Int) : List V := (xs.drop (HT.sIx xs.length 0 lo)).take (HT.sIx xs.length xs.length hi - HT.sIx xs.length 0 lo)
theorem cutV_length (xs : List V) (lo hi : Option Int) : (cutV xs lo hi).length ≤ xs.length := by
  unfold cutV
  rw [List.length_take, List.length_drop]
  omega
/-- t[lo:hi], not the whole of it (the whole would be t itself) -/
def rSlT (K : PySem.W.Frag) : V → Option Int → Option Int → Hp → VK → Prop := fun x lo hi H Q => ∃ a xs, x = .ref a ∧ SqT K H a xs ∧
  ¬ (HT.sIx xs.length 0 lo = 0 ∧ HT.sIx xs.length xs.length hi = xs.length) ∧ ∀ p, H p = none → Q (.ref p) (upd H p (.tup (cutV xs lo hi)))
/-! ### t < u, t + u -/
def rLtT (K : PySem.W.Frag) : R2 := fun x y H Q => ∃ a b ns ms, x = .ref a ∧ y = .ref b ∧ SqT K H a (ns.map V.int) ∧ SqT K H b (ms.map V.int) ∧ Q (.bl (HT.lexLt ns ms)) H
/-- t + u, t not empty: u empty gives t itself -/
def rCatT (K : PySem.W.Frag) : R2 := fun x y H Q => ∃ a b xs ys, x = .ref a ∧ y = .ref b ∧ SqT K H a xs ∧ SqT K H b ys ∧ xs ≠ [] ∧ xs.length + ys.length ≤ sizeLine ∧
  (ys = [] → Q (.ref a) H) ∧ (ys ≠ [] → ∀ p, H p = none → Q (.ref p) (upd H p (.tup (xs ++ ys))))
end
end L2

namespace L2
open PySem PySem.Spec PyProof.Rows

/-! ### places -/
/-- the place that an index of any sign means -/
def ixN (n : Nat) (i : Int) : Option Nat := if 0 ≤ i then (if i < n then some i.toNat else none) else if -(n : Int) ≤ i then some (i + n).toNat else none
def atI {α : Type} (xs : List α) (i : Int) : Option α := (ixN xs.length i).bind fun j => xs[j]?
theorem ixN_seq {n : Nat} {i : Int} {j : Nat} (h : ixN n i = some j) : seqIndex? i n = some j ∧ j < n ∧ -(n : Int) ≤ i ∧ i < n := by
  unfold ixN at h
  by_cases h0 : 0 ≤ i
  · rw [if_pos h0] at h
    by_cases h1 : i < n
    · rw [if_pos h1] at h
      have e : i.toNat = j := Option.some.inj h
      exact ⟨by rw [seqIndex_of h0 h1, e], by omega, by omega, h1⟩
    · rw [if_neg h1] at h; cases h
  · rw [if_neg h0] at h
    by_cases h1 : -(n : Int) ≤ i
    · rw [if_pos h1] at h
      have e : (i + n).toNat = j := Option.some.inj h
      exact ⟨by rw [seqIndex_neg (by omega) h1, e], by omega, h1, by omega⟩
    · rw [if_neg h1] at h; cases h
theorem atI_get {α : Type} {xs : List α} {i : Int} {v : α} (h : atI xs i = some v) : ∃ j, seqIndex? i xs.length = some j ∧ xs[j]? = some v ∧ j < xs.length ∧ -(xs.length : Int) ≤ i ∧ i < xs.length := by
  unfold atI at h
  cases e : ixN xs.length i with
  | none => rw [e] at h; cases h
  | some j =>
    rw [e] at h
    obtain ⟨h1, h2, h3, h4⟩ := ixN_seq e
    exact ⟨j, h1, h, h2, h3, h4⟩
theorem atI_nat {α : Type} {xs : List α} {j : Nat} {v : α} (h : xs[j]? = some v) : atI xs (j : Int) = some v := by
  have hj : j < xs.length := (List.getElem?_eq_some_iff.mp h).1
  have e : ixN xs.length (j : Int) = some j := by
    unfold ixN
    rw [if_pos (by omega), if_pos (by omega)]; simp
  unfold atI; rw [e]; exact h
/-! ### what may be subscripted -/
/-- what stands as an index of a plain subscript -/
def PlainIx (b : Expr) : Prop := ∀ o i, subscripted b false o i = operate [o, i] (getItem o i)
/-- a subscript by values -/
def IxR (X : Cx) (r : R2) : Prop :=
  ∀ (value slice : Expr) (pins : List (Addr × Obj)) (s : Shared) (σ : St) (H : Hp) (x y : V) (v u : Value) (Q : VK), Inv X pins σ H s → RelV x v → RelV y u → r x y H Q →
    subscripted slice false v u = operate [v, u] (getItem v u) → wpAny (model X.prog X.w) X.A (subscriptTail value slice v u) (EP X pins σ Q) X.xe s
/-- a call of a builtin's method by values: the receiver, the arguments -/
def MtR (X : Cx) (id : String) (r : V → List V → Hp → VK → Prop) : Prop :=
  ∀ (pins : List (Addr × Obj)) (s : Shared) (σ : St) (H : Hp) (x : V) (xs : List V) (v : Value) (us : List Value) (Q : VK), Inv X pins σ H s → RelV x v → Vals xs us → r x xs H Q →
    wpAny (model X.prog X.w) X.A (call (.builtin id) (v :: us)) (EP X pins σ Q) X.xe s
section
variable {X : Cx} {a b : Expr} {ta tb : TE} {pos : Pos}
/-- a[b] -/
theorem pe_ix {r : R2} (hr : IxR X r) (ha : PE X a ta) (hb : PE X b tb) (hs : PlainIx b) : PE X (.Subscript a b pos) (tOp r ta tb) := by
  intro pins s σ H Q I h
  exact Subscript_ (binT ha hb I h fun v u s2 x y H2 I2 rx ry q => hr a b pins s2 σ H2 x y v u Q I2 rx ry q (hs _ _))

def rIxL (K : PySem.W.Frag) : R2 := fun x y H Q => ∃ p xs i v, x = .ref p ∧ y = .int i ∧ SqL K H p xs ∧ atI xs i = some v ∧ Q v H
def rIxT (K : PySem.W.Frag) : R2 := fun x y H Q => ∃ p xs i v, x = .ref p ∧ y = .int i ∧ SqT K H p xs ∧ atI xs i = some v ∧ Q v H
def rIxS : R2 := fun x y H Q => ∃ z i c, x = .str z ∧ y = .int i ∧ z.length ≤ sizeLine ∧ atI z.cps.toList i = some c ∧ Q (.str ⟨#[c]⟩) H
theorem ix_list : IxR X (rIxL X.K) := by
  intro value slice pins s σ H x y v u Q I rx ry h hs
  obtain ⟨p, xs, i, z, rfl, rfl, hq, he, q⟩ := h
  cases rx
  obtain ⟨t, rfl⟩ := ry
  obtain ⟨its, r, pl, hz⟩ := I.list hq
  obtain ⟨j, h1, h2, h3, h4, h5⟩ := atI_get he
  obtain ⟨w, ew, rw'⟩ := r.get h2
  have hl := r.length
  have hn := line63
  have fin : EP X pins σ Q w s := ⟨z, H, I, rw', q⟩
  by_cases h0 : 0 ≤ i
  · have hj : i.toNat = j := by
      rw [seqIndex_of h0 h5] at h1
      exact Option.some.inj h1
    exact item_listR pl.isList h0 (by omega) (by rw [hj]; simpa using ew) fin hs
  · have hj : (i + (its.toArray.size : Int)).toNat = j := by
      rw [seqIndex_neg (by omega) h4] at h1
      rw [List.size_toArray, ← hl]
      exact Option.some.inj h1
    exact subscriptTail_builtinR (x := w) pl.isList.typeIs slot_list_getitem.lookup
      (wpAny_getItem_list_neg (Q := fun r s' => r = w ∧ EP X pins σ Q r s') pl.isList (by omega) (by rw [List.size_toArray] <;> omega) (by omega) (by rw [hj]; simpa using ew) ⟨rfl, fin⟩) hs
theorem ix_str : IxR X rIxS := by
  intro value slice pins s σ H x y v u Q I rx ry h hs
  obtain ⟨z, i, c, rfl, rfl, hz, he, q⟩ := h
  obtain ⟨t, rfl⟩ := rx
  obtain ⟨t', rfl⟩ := ry
  obtain ⟨j, h1, h2, h3, h4, h5⟩ := atI_get he
  have hl : z.cps.toList.length = z.length := by simp [Str.length]
  rw [hl] at h1 h4 h5
  have hn := line63
  exact tail_any (typeIs_str s z t) slot_str_getitem.lookup (getItem_str (c := c) (by
    have e1 : decide (i < -(2 ^ 63 : Int)) = false := decide_eq_false (by omega)
    have e2 : decide (i ≥ 2 ^ 63) = false := decide_eq_false (by omega)
    rw [e1, e2, Bool.or_false]) (by rw [h1]; simpa using h2) ⟨.str ⟨#[c]⟩, H, I.tok _, ⟨_, rfl⟩, q⟩) hs
/-- list, tuple or str -/
def rIx (K : PySem.W.Frag) : R2 := fun x y H Q => rIxL K x y H Q ∨ rIxT K x y H Q ∨ rIxS x y H Q
/-! ### xs[i] = v, any sign -/
/-- the list's object behind a store -/
theorem mapSeq_set (its : List Value) (n j : Nat) (u : Value) : Obj.mapSeq (·.setIfInBounds j u) { cls := .type "list", data := .seq its.toArray n } = { cls := .type "list", data := .seq (its.set j u).toArray n } := by
  simp [Obj.mapSeq]
theorem Inv.lst {pins : List (Addr × Obj)} {σ : St} {H : Hp} {s : Shared} {p : Addr} {xs : List V} (I : Inv X pins σ H s) (h : H p = some (.lst xs)) :
    ∃ (its : List Value) (n : Nat), Vals xs its ∧ s.heap.get? p = some { cls := .type "list", data := .seq its.toArray n } ∧ xs.length ≤ sizeLine := by
  obtain ⟨z, its, n, r, e⟩ := I.hok p _ h
  exact ⟨its, n, r, e, z⟩
/-- the list at p is written by an update of its object -/
theorem Inv.lstUpd {pins : List (Addr × Obj)} {σ : St} {H : Hp} {s : Shared} {p : Addr} {xs ys : List V} {its its' : List Value} {n n' : Nat} {f : Obj → Obj} (I : Inv X pins σ H s) (h : H p = some (.lst xs))
    (ho : s.heap.get? p = some { cls := .type "list", data := .seq its.toArray n }) (hf : f { cls := .type "list", data := .seq its.toArray n } = { cls := .type "list", data := .seq its'.toArray n' }) (r : Vals ys its') (hz : ys.length ≤ sizeLine) (t : Nat) :
    Inv X pins σ (upd H p (.lst ys)) { s with heap := s.heap.update p f, toks := t } := by
  have e : (s.heap.update p f).get? p = some { cls := .type "list", data := .seq its'.toArray n' } := by
    rw [Heap.get?_update_self f ho (by rw [hf] <;> rfl), hf]
  refine I.write (x := p) (e := p) (by rw [h]; trivial) (.inl rfl) (fun b u hb q => (Heap.get?_update_other _ _ (Ne.symm hb)).trans q) ⟨_, e⟩ ?_
  exact ⟨hz, its', n', r, e⟩
def rSetL : V → V → V → Hp → (Hp → Prop) → Prop := fun o i v H Q => ∃ p xs k j, o = .ref p ∧ i = .int k ∧ H p = some (.lst xs) ∧ ixN xs.length k = some j ∧ Q (upd H p (.lst (xs.set j v)))
theorem set_list : PSet X rSetL := by
  intro pins s σ H o i v ov iv u Q I ro ri rv h
  obtain ⟨p, xs, k, j, rfl, rfl, hp, hj, q⟩ := h
  cases ro
  obtain ⟨t, rfl⟩ := ri
  obtain ⟨its, n, r, ho, hz⟩ := I.lst hp
  obtain ⟨h1, h2, h3, h4⟩ := ixN_seq hj
  have hl := r.length
  have hn := line63
  have I' : Inv X pins σ (upd H p (.lst (xs.set j v))) { s with heap := s.heap.update p (Obj.mapSeq (·.setIfInBounds j u)) } :=
    I.lstUpd hp ho (mapSeq_set its n j u) (r.set rv j) (by rw [List.length_set]; exact hz) s.toks
  by_cases h0 : 0 ≤ k
  · have hk : k.toNat = j := by
      rw [seqIndex_of h0 h4] at h1
      exact Option.some.inj h1
    exact PySem.W.ki_setAt ho h0 (by omega) (by rw [List.size_toArray, ← hl]; exact h4) (by rw [hk]; exact ⟨_, I', q⟩)
  · have hk : (k + (its.toArray.size : Int)).toNat = j := by
      rw [seqIndex_neg (by omega) h3] at h1
      rw [List.size_toArray, ← hl]
      exact Option.some.inj h1
    exact PySem.W.ki_setBack ho (by omega) (by rw [List.size_toArray, ← hl]; exact h3) (by omega) (by rw [hk]; exact ⟨_, I', q⟩)

/-! ### slices -/
theorem slice_bounds (lo hi : Option Int) (n : Nat) : (sliceBounds lo hi none n).1 = ((HT.sIx n 0 lo : Nat) : Int) ∧ (sliceBounds lo hi none n).2.1 = ((HT.sIx n n hi : Nat) : Int) ∧ (sliceBounds lo hi none n).2.2 = 1 := by
  refine ⟨?_, ?_, rfl⟩
  · cases lo with
    | none => simp [sliceBounds, HT.sIx]
    | some i =>
      simp only [sliceBounds, HT.sIx, Option.getD_none, show (1 : Int) > 0 by decide, if_true]
      by_cases h : i < 0
      · simp only [h, if_true] <;> omega
      · simp only [h, if_false] <;> omega
  · cases hi with
    | none => simp [sliceBounds, HT.sIx]
    | some i =>
      simp only [sliceBounds, HT.sIx, Option.getD_none, show (1 : Int) > 0 by decide, if_true]
      by_cases h : i < 0
      · simp only [h, if_true] <;> omega
      · simp only [h, if_false] <;> omega
theorem slicePick_cut (its : List Value) (lo hi : Option Int) : slicePick its.toArray lo hi none = ((its.drop (HT.sIx its.length 0 lo)).take (HT.sIx its.length its.length hi - HT.sIx its.length 0 lo)).toArray := by
  obtain ⟨h1, h2, h3⟩ := slice_bounds lo hi its.toArray.size
  unfold slicePick
  rw [h1, h2, h3]
  simp only [sliceRange_one, pick_run, List.size_toArray] <;> rfl
/-- xs[lo:hi] of a list: a new list -/
def rSlL (K : PySem.W.Frag) : V → Option Int → Option Int → Hp → VK → Prop := fun x lo hi H Q => ∃ a xs, x = .ref a ∧ SqL K H a xs ∧ ∀ p, H p = none → Q (.ref p) (upd H p (.lst (cutV xs lo hi)))
theorem sl_list : SlR X (rSlL X.K) := by
  intro pins s σ H x v vl vu lo hi sl Q I rx hs pl pu h
  obtain ⟨a, xs, rfl, hx, q⟩ := h
  cases rx
  obtain ⟨its, r, ht, hz⟩ := I.list hx
  have hlen := r.length
  refine ⟨"list", _, slot_list_getitem.lookup, ht.isList.typeIs, ?_⟩
  refine wpAny_getItem_list_slice ht.isList hs pl pu .none (by simp) ?_ (by rw [List.size_toArray] <;> omega)
  rw [slicePick_cut, ← hlen]
  refine ⟨.ref s.heap.objs.size, _, I.laid (t' := s.toks) (o := .lst (cutV xs lo hi)) (fun b ob q => Heap.get?_push_of_some _ q) (Nat.le_refl _) ?_, rfl, q _ (I.hok.fresh (Nat.le_refl _))⟩
  exact ⟨Nat.le_trans (cutV_length xs lo hi) hz, _, 0, (r.drop (HT.sIx xs.length 0 lo)).take (HT.sIx xs.length xs.length hi - HT.sIx xs.length 0 lo), Heap.get?_push_size _ rfl⟩

/-! ### in, not in: flat items -/
def flatV : V → Bool
  | .non => true
  | .bl _ => true
  | .int _ => true
  | .str _ => true
  | _ => false
/-- == of flat values -/
def eqV : V → V → Bool
  | .non, .non => true
  | .bl a, .bl b => a == b
  | .bl a, .int b => (if a then 1 else 0) == b
  | .int a, .bl b => a == (if b then 1 else 0)
  | .int a, .int b => a == b
  | .str a, .str b => a == b
  | _, _ => false
theorem eqAt_V {A : Around} {s : Shared} {y x : V} {u v : Value} (ry : RelV y u) (rx : RelV x v) (fy : flatV y = true) (fx : flatV x = true) : SeqAt.EqAt A s u v (eqV y x) := by
  cases y with
  | non =>
    cases ry
    cases x with
    | non => cases rx; exact SeqAt.EqAt.same _
    | bl b => cases rx; exact SeqAt.EqAt.none_bool b
    | int b => obtain ⟨t, rfl⟩ := rx; exact SeqAt.EqAt.none_int b t
    | str b => obtain ⟨t, rfl⟩ := rx; exact SeqAt.EqAt.none_str b t
    | _ => exact absurd (show false = true from fx) Bool.false_ne_true
  | bl a =>
    cases ry
    cases x with
    | non => cases rx; exact SeqAt.EqAt.bool_none a
    | bl b => cases rx; exact SeqAt.EqAt.bool_bool a b
    | int b => obtain ⟨t, rfl⟩ := rx; exact SeqAt.EqAt.bool_int a b t
    | str b => obtain ⟨t, rfl⟩ := rx; exact SeqAt.EqAt.bool_str a b t
    | _ => exact absurd (show false = true from fx) Bool.false_ne_true
  | int a =>
    obtain ⟨t', rfl⟩ := ry
    cases x with
    | non => cases rx; exact SeqAt.EqAt.int_none a t'
    | bl b => cases rx; exact SeqAt.EqAt.int_bool a t' b
    | int b => obtain ⟨t, rfl⟩ := rx; exact SeqAt.EqAt.int_int a t' b t
    | str b => obtain ⟨t, rfl⟩ := rx; exact SeqAt.EqAt.int_str a t' b t
    | _ => exact absurd (show false = true from fx) Bool.false_ne_true
  | str a =>
    obtain ⟨t', rfl⟩ := ry
    cases x with
    | non => cases rx; exact SeqAt.EqAt.str_none a t'
    | bl b => cases rx; exact SeqAt.EqAt.str_bool a t' b
    | int b => obtain ⟨t, rfl⟩ := rx; exact SeqAt.EqAt.str_int a t' b t
    | str b => obtain ⟨t, rfl⟩ := rx; exact SeqAt.EqAt.str_str a t' b t
    | _ => exact absurd (show false = true from fx) Bool.false_ne_true
  | _ => exact absurd (show false = true from fy) Bool.false_ne_true
/-- the items' answers, read off the values (a value's own answer does not lean on its token) -/
def eqU (x : V) (u : Value) : Bool := match u with
  | .none => eqV .non x
  | .bool b => eqV (.bl b) x
  | .int i _ => eqV (.int i) x
  | .str z _ => eqV (.str z) x
  | _ => false
theorem eqU_of {x y : V} {u : Value} (r : RelV y u) (f : flatV y = true) : eqU x u = eqV y x := by
  cases y with
  | non => cases r; rfl
  | bl b => cases r; rfl
  | int i => obtain ⟨t, rfl⟩ := r; rfl
  | str z => obtain ⟨t, rfl⟩ := r; rfl
  | _ => exact absurd (show false = true from f) Bool.false_ne_true
theorem any_eqU {x : V} : ∀ {xs : List V} {us : List Value}, Vals xs us → xs.all flatV = true → us.any (eqU x) = xs.any fun y => eqV y x
  | _, _, .nil, _ => rfl
  | y :: xs, u :: us, .cons r t, f => by
    rw [List.all_cons, Bool.and_eq_true] at f
    rw [List.any_cons, List.any_cons, eqU_of r f.1, any_eqU t f.2]
theorem mem_eqAt {A : Around} {s : Shared} {x : V} {v : Value} (rx : RelV x v) (fx : flatV x = true) : ∀ {xs : List V} {us : List Value}, Vals xs us → xs.all flatV = true → ∀ u ∈ us, SeqAt.EqAt A s u v (eqU x u)
  | _, _, .nil, _ => fun u hu => by cases hu
  | y :: xs, u :: us, .cons r t, f => fun u' hu => by
    rw [List.all_cons, Bool.and_eq_true] at f
    rcases List.mem_cons.mp hu with rfl | hu
    · rw [eqU_of r f.1]; exact eqAt_V r rx f.1 fx
    · exact mem_eqAt rx fx t f.2 u' hu
def inV (x : V) (xs : List V) : Bool := xs.any fun y => eqV y x
/-- x in a list or tuple of flat items -/
def rIn (K : PySem.W.Frag) (neg : Bool) : R2 := fun x y H Q => ∃ p xs, y = .ref p ∧ (SqL K H p xs ∨ SqT K H p xs) ∧ flatV x = true ∧ xs.all flatV = true ∧ Q (.bl (if neg then !inV x xs else inV x xs)) H
theorem op_in_seq : OpR X (compareOp .In) (rIn X.K false) := by
  intro pins s σ H x y v u Q I rx ry h
  obtain ⟨p, xs, rfl, hq, fx, fs, q⟩ := h
  cases ry
  rcases hq with hq | hq
  · obtain ⟨its, r, pl, hz⟩ := I.list hq
    refine SeqAt.in_listAt (eqU x) pl.isList (fun w hw => mem_eqAt rx fx r fs w (by simpa using hw)) ⟨.bl _, H, I, rfl, ?_⟩
    rw [show its.toArray.any (eqU x) = its.any (eqU x) by simp, any_eqU r fs]
    exact q
  · obtain ⟨its, r, pl, hz⟩ := I.tuple hq
    refine SeqAt.in_tupleAt (eqU x) pl (fun w hw => mem_eqAt rx fx r fs w (by simpa using hw)) ⟨.bl _, H, I, rfl, ?_⟩
    rw [show its.toArray.any (eqU x) = its.any (eqU x) by simp, any_eqU r fs]
    exact q
theorem op_notIn_seq : OpR X (compareOp .NotIn) (rIn X.K true) := by
  intro pins s σ H x y v u Q I rx ry h
  obtain ⟨p, xs, rfl, hq, fx, fs, q⟩ := h
  cases ry
  rcases hq with hq | hq
  · obtain ⟨its, r, pl, hz⟩ := I.list hq
    refine SeqAt.notIn_listAt (eqU x) pl.isList (fun w hw => mem_eqAt rx fx r fs w (by simpa using hw)) ⟨.bl _, H, I, rfl, ?_⟩
    rw [show its.toArray.any (eqU x) = its.any (eqU x) by simp, any_eqU r fs]
    exact q
  · obtain ⟨its, r, pl, hz⟩ := I.tuple hq
    refine SeqAt.notIn_tupleAt (eqU x) pl (fun w hw => mem_eqAt rx fx r fs w (by simpa using hw)) ⟨.bl _, H, I, rfl, ?_⟩
    rw [show its.toArray.any (eqU x) = its.any (eqU x) by simp, any_eqU r fs]
    exact q
/-! ### len, list(x), tuple(x) of any list or tuple that is read -/
theorem call_len_seq : CallR X (.builtin "len") (fun xs H Q => ∃ p ys, xs = [.ref p] ∧ (SqL X.K H p ys ∨ SqT X.K H p ys) ∧ Q (.int ys.length) H) := by
  intro pins s σ H xs us Q I r h
  obtain ⟨p, ys, rfl, hq, q⟩ := h
  obtain ⟨u, rfl, rx⟩ := vals1 r
  cases rx
  have hn := line63
  rcases hq with hq | hq
  · obtain ⟨its, r', pl, hz⟩ := I.list hq
    have hlen := r'.length
    exact Calls.call_len_list pl.isList (by simp only [List.size_toArray] <;> omega) ⟨.int ys.length, H, I.tok _, ⟨s.toks + 1, by rw [List.size_toArray, hlen]⟩, q⟩
  · obtain ⟨its, r', pl, hz⟩ := I.tuple hq
    have hlen := r'.length
    exact len_tuple pl (by simp only [List.size_toArray] <;> omega) ⟨.int ys.length, H, I.tok _, ⟨s.toks + 1, by rw [List.size_toArray, hlen]⟩, q⟩
theorem call_len_str : CallR X (.builtin "len") (fun xs H Q => ∃ z, xs = [.str z] ∧ z.length ≤ sizeLine ∧ Q (.int z.length) H) := by
  intro pins s σ H xs us Q I r h
  obtain ⟨z, rfl, hz, q⟩ := h
  obtain ⟨u, rfl, t, rfl⟩ := vals1 r
  have hn := line63
  exact len_str (by omega) ⟨.int z.length, H, I.tok _, ⟨_, rfl⟩, q⟩
theorem call_list_of : CallR X (.type "list") (fun xs H Q => ∃ p ys, xs = [.ref p] ∧ (SqL X.K H p ys ∨ SqT X.K H p ys) ∧ ∀ l, H l = none → Q (.ref l) (upd H l (.lst ys))) := by
  intro pins s σ H xs us Q I r h
  obtain ⟨p, ys, rfl, hq, q⟩ := h
  obtain ⟨u, rfl, rx⟩ := vals1 r
  cases rx
  have fin : ∀ (its : List Value), Vals ys its → ys.length ≤ sizeLine → ∀ (h' : Heap) (c' : Nat), (∀ b o', s.heap.get? b = some o' → h'.get? b = some o') →
      h'.get? s.heap.objs.size = some { cls := .type "list", dict := none, data := .seq its.toArray c', slots := #[] } → EP X pins σ Q (.ref s.heap.objs.size) { s with heap := h' } := fun its r' hz h' c' kp e =>
    ⟨.ref s.heap.objs.size, _, I.laid (t' := s.toks) kp (Nat.le_refl _) (show ObjOk X.prog X.w _ h' _ (.lst ys) from ⟨hz, its, c', r', e⟩), rfl, q _ (I.hok.fresh (Nat.le_refl _))⟩
  rcases hq with hq | hq
  · obtain ⟨its, r', pl, hz⟩ := I.list hq
    have hlen := r'.length
    obtain ⟨o, ho, hc, n, hd⟩ := pl.isList
    exact call_list_seq p (.inl rfl) ho hc hd (fun h' c' kp e => fin its r' hz h' c' kp e) (by simp only [List.size_toArray] <;> omega)
  · obtain ⟨its, r', pl, hz⟩ := I.tuple hq
    have hlen := r'.length
    obtain ⟨o, ho, hc, n, hd⟩ := pl
    exact call_list_seq p (.inr rfl) ho hc hd (fun h' c' kp e => fin its r' hz h' c' kp e) (by simp only [List.size_toArray] <;> omega)
/-! ### the call of a builtin's method: o.m(..) -/
/-- the value is of that builtin type -/
def tyV (K : PySem.W.Frag) (T : String) (x : V) (H : Hp) : Prop := match x with
  | .str _ => T = "str"
  | .int _ => T = "int"
  | .ref p => (T = "list" ∧ ∃ xs, SqL K H p xs) ∨ (T = "tuple" ∧ ∃ o, K.lookup p = some o ∧ o.cls = .type "tuple" ∧ o.dict = none) ∨
      (T = "dict" ∧ ((∃ kvs, H p = some (.dK kvs)) ∨ ∃ kvs, H p = some (.dT kvs))) ∨ (T = "set" ∧ ∃ S n, H p = some (.set S n))
  | _ => False
theorem tyV_is {pins : List (Addr × Obj)} {σ : St} {H : Hp} {s : Shared} {T : String} {x : V} {v : Value} (I : Inv X pins σ H s) (r : RelV x v) (ty : tyV X.K T x H) :
    s.TypeIs v T ∧ ∀ a, v = .ref a → ∃ ob, s.heap.get? a = some ob ∧ ob.dict = none := by
  cases x with
  | str z =>
    obtain ⟨t, rfl⟩ := r
    cases (show T = "str" from ty)
    exact ⟨typeIs_str s z t, fun _ e => nomatch e⟩
  | int i =>
    obtain ⟨t, rfl⟩ := r
    cases (show T = "int" from ty)
    exact ⟨typeIs_int s i t, fun _ e => nomatch e⟩
  | ref p =>
    cases r
    rcases ty with ⟨rfl, xs, hq⟩ | ⟨rfl, o, hk, hc, hd⟩ | ⟨rfl, hk⟩ | ⟨rfl, S, n, hk⟩
    · obtain ⟨its, _, pl, _⟩ := I.list hq
      refine ⟨pl.isList.typeIs, fun a e => ?_⟩
      cases e
      obtain ⟨o, n, e, c, hd, _⟩ := pl
      exact ⟨o, e, hd⟩
    · refine ⟨⟨o, I.kIn p o hk, hc⟩, fun a e => ?_⟩
      cases e
      exact ⟨o, I.kIn _ o hk, hd⟩
    · have z : ∃ o, s.heap.get? p = some o ∧ o.ExactDict := by
        rcases hk with ⟨kvs, hk⟩ | ⟨kvs, hk⟩
        · obtain ⟨_, _, _, _, o, _, _, e, ex, _⟩ := I.hok p _ hk
          exact ⟨o, e, ex⟩
        · obtain ⟨_, _, _, _, o, _, _, e, ex, _⟩ := I.hok p _ hk
          exact ⟨o, e, ex⟩
      obtain ⟨o, e, ex⟩ := z
      refine ⟨⟨o, e, ex.1⟩, fun a e2 => ?_⟩
      cases e2
      exact ⟨o, e, ex.2.1⟩
    · obtain ⟨o, _, _, _, e, ex, _⟩ := I.hok p _ hk
      refine ⟨⟨o, e, ex.1⟩, fun a e2 => ?_⟩
      cases e2
      exact ⟨o, e, ex.2.1⟩
  | _ => exact False.elim ty
def tBM0 (K : PySem.W.Frag) (T : String) (r : V → List V → Hp → VK → Prop) (to : TE) : TE := fun σ H Q => to σ H fun x H1 => tyV K T x H1 ∧ r x [] H1 Q
def tBM (K : PySem.W.Frag) (T : String) (r : V → List V → Hp → VK → Prop) (to : TE) (t : TA) : TE := fun σ H Q => to σ H fun x H1 => tyV K T x H1 ∧ t σ H1 fun xs H2 => r x xs H2 Q
variable {o e : Expr} {es : List Expr} {to : TE} {t : TA} {name : Str} {apos cpos : Pos} {T id : String} {r : V → List V → Hp → VK → Prop}
theorem pe_bm (pa : PlainAttrs T) (slot : Slot T name id) (hty : typeOf (.builtin id) = pure (.type "method_descriptor")) (hm : MtR X id r) (ho : PE X o to) (ha : PA X (e :: es) t)
    (hbase : attributeBase o name X.env (eval o X.env) = eval o X.env := by rfl)
    (hfew : ((backTo cpos (starEach (e :: es) X.env)).all (fun x => !x.1) && (backToKw cpos (keywordEach [] X.env)).all (fun x => x.1.isSome)
      && decide ((e :: es).length + ([] : List Keyword).length + (if ([] : List Keyword).isEmpty then 0 else 1) < 30)) = true := by rfl)
    (hline : (apos.endLine == cpos.line) = true := by rfl) (hs : starEach (e :: es) X.env = (false, eval e X.env) :: starEach es X.env := by rfl) (hplain : (backTo cpos (starEach es X.env)).any (·.1) = false := by rfl) :
    PE X (.Call (.Attribute o name apos) (e :: es) [] cpos) (tBM X.K T r to t) := by
  intro pins s σ H Q I h
  refine wpAny_Call_method_late hbase hfew hline rfl (thn (ho pins s σ H _ I h) fun v s1 ⟨x, H1, I1, r1, ty, q1⟩ => ?_)
  obtain ⟨h1, h2⟩ := tyV_is I1 r1 ty
  refine ⟨T, id, pa, slot, hty, h1, h2, ?_⟩
  have hA := ha cpos pins s1 σ H1 _ I1 q1
  rw [hs] at hA ⊢
  refine Calls.callWith_builtin (by show (false || (backTo cpos (starEach es X.env)).any (·.1)) = false; rw [hplain] <;> rfl) (Calls.evalArgs_plain ?_)
  exact thn hA fun us s2 ⟨vs, H2, I2, r2, q2⟩ => hm pins s2 σ H2 x vs v us Q I2 r1 r2 q2
/- xs.append(e), list.index on a module's tuple .. are MtR facts of 06m -/
end
end L2

namespace L2
open PySem PySem.Spec PyProof.Rows

def MtM (X : Cx) (id : String) (r : V → List V → Hp → VK → Prop) : Prop :=
  ∀ (pins : List (Addr × Obj)) (s : Shared) (σ : St) (H : Hp) (x : V) (xs : List V) (v : Value) (us : List Value) (Q : VK), Inv X pins σ H s → RelV x v → Vals xs us → r x xs H Q →
    wpAny (model X.prog X.w) X.A (call (.builtin id) (v :: us)) (EP X pins σ Q) X.xe s

/-! ### lists of values -/
theorem Vals.one : ∀ {x : V} {us : List Value}, Vals [x] us → ∃ u, us = [u] ∧ RelV x u
  | _, _, .cons r .nil => ⟨_, rfl, r⟩
theorem Vals.two : ∀ {x y : V} {us : List Value}, Vals [x, y] us → ∃ u v, us = [u, v] ∧ RelV x u ∧ RelV y v
  | _, _, _, .cons r (.cons q .nil) => ⟨_, _, rfl, r, q⟩
section
variable {X : Cx} {pins : List (Addr × Obj)} {σ : St} {H : Hp} {s : Shared} {l b : Addr} {xs ys zs : List V}

/-! ### the two steps: a tracked list is rewritten, a new list is laid -/
theorem Inv.lset {its its' : List Value} {n : Nat} {f : Array Value → Array Value} {t' : Nat} (I : Inv X pins σ H s) (hH : H l = some (.lst xs))
    (e : s.heap.get? l = some { cls := .type "list", data := .seq its.toArray n }) (hf : f its.toArray = its'.toArray) (hv : Vals ys its') (hz : ys.length ≤ sizeLine) :
    Inv X pins σ (upd H l (.lst ys)) { s with heap := s.heap.update l (Obj.mapSeq f), toks := t' } := by
  have q := PySem.IsL.update e f
  rw [hf] at q
  refine I.write (x := l) (e := l) (by rw [hH]; exact trivial) (.inl rfl) (fun b' u hb hu => (Heap.get?_update_other s.heap (Obj.mapSeq f) (Ne.symm hb)).trans hu) ⟨_, q⟩ ?_
  exact ⟨hz, its', _, hv, q⟩
theorem Inv.lnew {its : List Value} {t' : Nat} (I : Inv X pins σ H s) (hv : Vals ys its) (hz : ys.length ≤ sizeLine) :
    Inv X pins σ (upd H s.heap.objs.size (.lst ys)) { s with heap := s.heap.push { cls := .type "list", data := .seq its.toArray }, toks := t' } :=
  I.laid (fun _ _ q => Heap.get?_push_of_some _ q) (Nat.le_refl _) ⟨hz, its, 0, hv, Heap.get?_push_size _ rfl⟩
theorem Inv.fresh (I : Inv X pins σ H s) : H s.heap.objs.size = none := I.hok.fresh (Nat.le_refl _)
theorem Inv.lstM (I : Inv X pins σ H s) (hH : H l = some (.lst xs)) : xs.length ≤ sizeLine ∧ ∃ (its : List Value) (n : Nat), Vals xs its ∧ xs.length = its.length ∧ s.heap.get? l = some { cls := .type "list", data := .seq its.toArray n } := by
  obtain ⟨z, its, n, r, e⟩ := I.hok l _ hH
  exact ⟨z, its, n, r, r.length, e⟩

end

section
variable {X : Cx}

/-! ### methods -/
def rAppend : V → List V → Hp → VK → Prop := fun x vs H Q => ∃ l xs y, x = .ref l ∧ vs = [y] ∧ H l = some (.lst xs) ∧ xs.length < sizeLine ∧ Q .non (upd H l (.lst (xs ++ [y])))
theorem mt_append : MtM X "list.append" rAppend := by
  intro pins s σ H x vs v us Q I rx rv h
  obtain ⟨l, xs, y, rfl, rfl, hH, hz, q⟩ := h
  cases rx
  obtain ⟨u, rfl, ru⟩ := rv.one
  obtain ⟨z, its, n, r, hl, e⟩ := I.lstM hH
  refine call_meets F.slot_list_append ⟨_, e, rfl⟩ F.entry_list_append (F.args_list_append_2 _ _) (PySem.list_append l its.toArray n u (by rw [List.size_toArray]; omega)) ⟨e, ?_⟩
  refine ⟨.non, _, I.lset (its' := its ++ [u]) hH e (by simp) (r.append (.cons ru .nil)) ?_, rfl, q⟩
  rw [List.length_append, List.length_singleton]
  omega

def rExtend : V → List V → Hp → VK → Prop := fun x vs H Q => ∃ l b xs zs, x = .ref l ∧ vs = [.ref b] ∧ H l = some (.lst xs) ∧ H b = some (.lst zs) ∧ xs.length + zs.length ≤ sizeLine ∧ Q .non (upd H l (.lst (xs ++ zs)))
def rPop : V → List V → Hp → VK → Prop := fun x vs H Q => ∃ l xs y, x = .ref l ∧ vs = [] ∧ H l = some (.lst xs) ∧ xs[xs.length - 1]? = some y ∧ Q y (upd H l (.lst xs.dropLast))
def rPopAt : V → List V → Hp → VK → Prop := fun x vs H Q => ∃ l xs i k y, x = .ref l ∧ vs = [.int i] ∧ H l = some (.lst xs) ∧ -(2 ^ 63) ≤ i ∧ i < 2 ^ 63 ∧ seqIndex? i xs.length = some k ∧ xs[k]? = some y ∧ Q y (upd H l (.lst (xs.eraseIdx k)))
def rReverse : V → List V → Hp → VK → Prop := fun x vs H Q => ∃ l xs, x = .ref l ∧ vs = [] ∧ H l = some (.lst xs) ∧ Q .non (upd H l (.lst xs.reverse))
def rClear : V → List V → Hp → VK → Prop := fun x vs H Q => ∃ l xs, x = .ref l ∧ vs = [] ∧ H l = some (.lst xs) ∧ Q .non (upd H l (.lst []))
/-! ### list + list, list += list, list * int -/
def rCat : R2 := fun x y H Q => ∃ l b xs zs, x = .ref l ∧ y = .ref b ∧ H l = some (.lst xs) ∧ H b = some (.lst zs) ∧ xs.length + zs.length ≤ sizeLine ∧ ∀ p, H p = none → Q (.ref p) (upd H p (.lst (xs ++ zs)))
theorem op_cat : OpR X (binaryOp .Add) rCat := by
  intro pins s σ H x y v u Q I rx ry h
  obtain ⟨l, b, xs, zs, rfl, rfl, hH, hB, hz, q⟩ := h
  cases rx
  cases ry
  obtain ⟨z, its, n, r, hl, e⟩ := I.lstM hH
  obtain ⟨z2, its2, n2, r2, hl2, e2⟩ := I.lstM hB
  refine PySem.P.add_list e e2 ?_ (by rw [List.size_toArray, List.size_toArray]; omega)
  have ea : its.toArray ++ its2.toArray = (its ++ its2).toArray := by simp
  rw [ea]
  exact ⟨.ref _, _, I.lnew (t' := s.toks) (r.append r2) (by rw [List.length_append]; omega), rfl, q _ I.fresh⟩
/-- a list times an int (a negative one is nothing) -/
def rRep : R2 := fun x y H Q => ∃ l k xs, x = .ref l ∧ y = .int k ∧ H l = some (.lst xs) ∧ -(2 ^ 63) ≤ k ∧ k < 2 ^ 63 ∧ xs.length * k.toNat ≤ sizeLine ∧
  ∀ p, H p = none → Q (.ref p) (upd H p (.lst (List.replicate k.toNat xs).flatten))
/-! ### del xs[i] -/
end

/-! ### xs[a:b] = ys -/
section
variable {prog : Program} {w : World} {A : Around} {E : Value → Shared → Prop} {s : Shared}
end

section
variable {X : Cx}
end
end L2

namespace Att
open PySem PySem.W PySem.Calls PyProof.Rows

/-! ### the script -/
theorem ints_of_wellAll {P : Params} {h : Heap} : ∀ (ns : List Int) (vs : List Value), WellAll P h vs (ns.map WData.int) → IntsAre vs ns := by
  intro ns
  induction ns with
  | nil =>
    intro vs w
    rw [List.map_nil] at w
    cases w
    exact .nil
  | cons n ns ih =>
    intro vs w
    rw [List.map_cons] at w
    cases w with
    | cons a b =>
      cases a
      exact .cons _ _ (ih _ b)

theorem script_of {l : OpenLaw} {n : Nat} (hn : l.most = some n) {P : Params} {h : Heap} {args : List WData} {vals : List Value}
    (hpre : l.row.toRowW.claim.pre args = true) (hwl : WellAll P h vals args) :
    ∃ a vs ns, vals = [Value.ref a] ∧ args = [WData.list (ns.map WData.int)] ∧ h.get? a = some { cls := .type "list", data := .seq vs.toArray } ∧ IntsAre vs ns ∧ ns.length ≤ n := by
  have hsh : WShape.hasAll [] args [.list .int] = true := (pre_splitW hpre).1
  have hc : l.pre.holds [] { args := args } = true := (pre_splitW hpre).2
  obtain ⟨d, r, rfl, h1, h2⟩ := hasAllW_cons hsh
  obtain rfl := hasAllW_nil h2
  obtain ⟨xs, rfl, h3⟩ := hasW_list h1
  obtain ⟨ns, rfl⟩ := items_int h3
  have hlen : ns.length ≤ n := by
    unfold OpenLaw.pre at hc
    have h4 : (WTm.not (.lt (.lit (.int (n : Int))) (.len (.arg 0)))).holds [] { args := [.list (ns.map .int)] } = true := by
      have h4 := (holds_andW hc).1
      rw [hn] at h4
      exact h4
    have h5 := condW_of h4 (w_not (w_lt w_lit (w_len_list (w_arg rfl))))
    rw [List.length_map] at h5
    refine Nat.le_of_not_lt fun q => ?_
    have q' : (n : Int) < ((ns.length : Nat) : Int) := by omega
    first
      | (rw [decide_eq_true q'] at h5; exact absurd h5 (by decide))
      | (simp at h5; omega)
  cases hwl with
  | cons w1 w2 =>
    cases w2
    cases w1 with
    | list ho hall => exact ⟨_, _, ns, rfl, rfl, ho, ints_of_wellAll ns _ hall, hlen⟩

theorem post_true (l : OpenLaw) (args : List WData) : l.row.toRowW.claim.post args (.bool true) args = true :=
  postW_of (r := l.row.toRowW) (X := (true == true))
    (show WShape.has [] (.bool true) .bool = true by first | rfl | decide | simp [WShape.has, WShape.arms, WShape.armsAll])
    (show (WTm.eq .res (.lit (.bool true))).value [] { args := args, res := some (.bool true), after := args } = some (.bool (true == true)) from w_eq_bool (w_res rfl) w_lit) rfl

/-! ### the attachment: holds_open's last premise (the goal 'hc' behind k_head) from a wpAny of the law's body -/
/-- the same from a codeAny of the CALL (for a layer whose function contracts speak of calls) -/
theorem attach_call {l : OpenLaw} {n : Nat} {q : Program} {loose : List Str} {XP : (Str → Option Value) → Heap → Prop} {YP : World → Heap → Prop} {d : DefRec}
    (hn : l.most = some n) (hdf : d.params.defaults = [])
    (call : ∀ (w : World) (s₀ s₁ : Shared) (mg mb : Str → Option Value) (fa : Addr) (o : Obj) (pm cd doc : Value) (a : Addr) (vs : List Value) (ns : List Int),
      Ground q loose [] XP w s₀ mg mb s₁.heap → YP w s₁.heap →
      s₁.heap.get? fa = some o → o.data = .func (docDef d.name d.params d.body d.scope pm cd doc) → s₁.heap.CodeRec cd d.name → mg d.name = some (.ref fa) →
      s₁.heap.get? a = some { cls := .type "list", data := .seq vs.toArray } → IntsAre vs ns → ns.length ≤ n → s₁.gens = #[] →
      codeAny (model l.prog w) callerA (.call (.ref fa) ⟨[.ref a], []⟩) (fun r s' => r = .ok (.ret (.bool true)) ∧ OldK s₁.heap s'.heap ∧ s'.os = s₁.os ∧ AllBare s'.gens) s₁) :
    WalkO q loose XP YP l.row.toRowW d [] (fun f vs => PySem.call f vs) := by
  intro w s₀ s₁ mg mb G Y fa o pm cd doc dV kV ho hd hcd hD hmg hg args vals as hpre hlay hrd hwl hlo
  obtain rfl : dV = .none := Dflts.none hD hdf
  obtain rfl : kV = .none := Dflts.noKw hD
  obtain ⟨a, vs, ns, rfl, rfl, hobj, hints, hlen⟩ := script_of hn hpre hwl
  refine enter_call (codeAny_mono (call w s₀ s₁ mg mb fa o pm cd doc a vs ns G Y ho (fd_plain hd) hcd hmg hobj hints hlen hg) fun r s' hq => ?_)
  obtain ⟨rfl, h2, h3, h4⟩ := hq
  exact ⟨.inl ⟨.bool true, .bool true, [], rfl, fun _ => rfl, .bool true, post_true l _, fun _ => ⟨List.Pairwise.nil, fun _ hm => (nomatch hm)⟩⟩, h2, h3, h4⟩

/-! ### rules over ANY heap (no ledger) from facts about the written part K: the library's own take a ledger (News) for what they write -/
section
variable {prog : Program} {w : World} {A : Around} {E : Value → Shared → Prop} {s : Shared} {K : Frag}

/-! the whole heap as the ledger: makes every rule that writes through a ledger a rule over any heap -/
def noObjs (h : Heap) : Heap := { h with objs := #[] }
def ledger (h : Heap) (L d : Addr) : List (Addr × Obj) := (List.range h.objs.size).filterMap fun a => if a = L ∨ a = d then none else (h.get? a).map fun o => (a, o)
end
end Att

namespace L2
open PySem PySem.Spec PyProof.Rows

theorem vals_ints : ∀ {vs : List Value} {ns : List Int}, IntsAre vs ns → Vals (ns.map V.int) vs
  | _, _, .nil => .nil
  | _, _, .cons n t h => .cons ⟨t, rfl⟩ (vals_ints h)

/-- nothing is tracked but the script, known to the object (or it is an object of the module) -/
def Only (H : Hp) : Prop := ∀ b, H b = none ∨ ∃ o xs, H b = some (.frz o (.lst xs))

/-- THE HEAD: the law's promise, at the heap behind the top. F, the promise of the law's def, may use that base is part of the heap (so K.In base, base.Ns mainGlobals mg stand in Mod) -/
theorem law_call {P : Program} {w : World} {K : PySem.W.Frag} {mg mb : Str → Option Value} {CX : CXT} {k : Nat} {fa a : Addr} {fd : FuncData} {x : Str} {sp : Sp} {s₁ : Shared} {vs : List Value} {ns : List Int}
    (KX : K.In s₁.heap) (hns : s₁.heap.Ns mainGlobals mg) (hb : s₁.heap.Ns builtinsNs mb) (hbb : ∀ x : Str, x ≠ "__name__" → mb x = bootBuiltins x) (hlim : s₁.heap.NoLimit) (hg : s₁.gens = #[])
    (ha : s₁.heap.get? a = some { cls := .type "list", data := .seq vs.toArray }) (hi : IntsAre vs ns) (hl : ns.length ≤ sizeLine) (hr : Room k callerA)
    (F : ∀ base : Heap, K.In base → base.Ns mainGlobals mg → FnOk P w K mg base CX k fa fd [x] sp) (hbind : ∀ (s : Shared) (u : Value), BindsTo s fd ⟨[u], []⟩ [(x, u)])
    (hsp : ∀ H : Hp, Only H → SqL K H a (ns.map V.int) → sp [.ref a] H (fun v _ => v = .bl true) fun _ _ _ => False)
    (hCX : ∀ H e s', CX [] H s₁ (fun _ _ _ => False) e s' → False) :
    codeAny (model P w) callerA (.call (.ref fa) ⟨[.ref a], []⟩) (fun r s' => r = .ok (.ret (.bool true)) ∧ OldK s₁.heap s'.heap ∧ s'.os = s₁.os ∧ AllBare s'.gens) s₁ := by
  have rv := vals_ints hi
  have lenV := hi.length
  -- from an abstract heap in which nothing but the script may be tracked
  have core : ∀ H : Hp, Only H → SqL K H a (ns.map V.int) → HOk P w H s₁.heap → (∀ b, H b ≠ none → b = a) → (H a ≠ none → K.lookup a = none) →
      codeAny (model P w) callerA (.call (.ref fa) ⟨[.ref a], []⟩) (fun r s' => r = .ok (.ret (.bool true)) ∧ OldK s₁.heap s'.heap ∧ s'.os = s₁.os ∧ AllBare s'.gens) s₁ := by
    intro H hO hS hok hA hK
    have base_of : ∀ {b : Addr} {o : Obj}, s₁.heap.get? b = some o → H b = none → (hidT s₁.heap H).get? b = some o := fun e n => hidT_get e n
    have noA : ∀ {b : Addr} {o : Obj} {es : Array DictEntry} {ep : Nat}, s₁.heap.get? b = some o → o.data = .dict es ep → H b = none := fun {b o es ep} e d => by
      cases q : H b with
      | none => rfl
      | some u =>
        have e' : b = a := hA b (by rw [q]; simp)
        subst e'
        rw [ha] at e; cases e
        have d' : Data.seq vs.toArray _ = Data.dict es ep := d
        cases d'
    have nsK : ∀ {b : Addr} {m : Str → Option Value}, s₁.heap.Ns b m → (hidT s₁.heap H).Ns b m := fun {b m} ⟨o, es, ep, e, d, r⟩ => ⟨o, es, ep, base_of e (noA e d), d, r⟩
    have hKb : K.In (hidT s₁.heap H) := fun b o e => base_of (KX b o e) (by
      cases q : H b with
      | none => rfl
      | some u =>
        have e' : b = a := hA b (by rw [q]; simp)
        subst e'
        rw [hK (by rw [q]; simp)] at e; cases e)
    have hM : Mod K mg (hidT s₁.heap H) := ⟨hKb, nsK hns, ⟨mb, nsK hb, hbb⟩, let ⟨mc, h1, h2⟩ := hlim; ⟨mc, nsK h1, h2⟩⟩
    have e0 : Env0 P w K mg (hidT s₁.heap H) callerA [] s₁ H := ⟨rfl, hM, fun b o e => of_hidT e, Nat.le_of_eq (hidT_size _ _), trivial, fun b hb => absurd (show b ∈ ([] : List Addr) from hb) (by simp), hok, .of_eq hg⟩
    refine codeAny_mono ((F _ hKb (nsK hns)).run callerA [] s₁ H ⟨[.ref a], []⟩ [.ref a] [.ref a] _ _ hr e0 (hbind s₁ (.ref a)) (.cons rfl .nil) (hsp H hO hS)) fun r s' h => ?_
    cases r with
    | error e => exact (hCX H e s' h).elim
    | ok fl =>
      cases fl with
      | next => exact False.elim h
      | brk => exact False.elim h
      | cont => exact False.elim h
      | ret u =>
        obtain ⟨v, H', os, bare, un, hok', r', q⟩ := h
        have q' : v = .bl true := q
        subst q'
        obtain rfl : u = Value.bool true := r'
        refine ⟨rfl, OldK.of_keep fun b o e => ?_, os, bare⟩
        cases q : H b with
        | none => exact un.keep b o e q (by intro z; exact absurd (show b ∈ ([] : List Addr) from z) (by simp)) (by simp)
        | some u =>
          rcases hO b with z | ⟨ob, xs, z⟩
          · rw [q] at z; cases z
          · have z2 := un.frzs b ob _ z
            obtain ⟨e1, _⟩ := hok b _ z
            obtain ⟨e2, _⟩ := hok' b _ z2
            rw [e] at e1; cases e1
            exact e2
  cases hk : K.lookup a with
  | some o =>
    -- the script is one of the module's own objects
    have e := KX a o hk
    rw [ha] at e
    cases e
    refine core (fun _ => none) (fun _ => .inl rfl) (.inr ⟨_, vs.toArray, _, hk, rfl, rfl, rfl, by rw [List.size_toArray, lenV]; exact hl, by simpa using rv⟩) (fun b u z => by have z' : (none : Option HO) = some u := z; cases z') (fun b z => absurd rfl z) fun z => absurd rfl z
  | none =>
    refine core (fun b => if b = a then some (.frz { cls := .type "list", data := .seq vs.toArray } (.lst (ns.map V.int))) else none) (fun b => ?_) (.inl (.inr ⟨{ cls := .type "list", data := .seq vs.toArray }, if_pos rfl⟩)) (fun b u z => ?_) (fun b z => ?_) fun _ => hk
    · by_cases hb : b = a
      · exact .inr ⟨_, _, if_pos hb⟩
      · exact .inl (if_neg hb)
    · by_cases hb : b = a
      · have z' := (if_pos hb).symm.trans z
        cases z'
        subst hb
        exact ⟨ha, by rw [List.length_map]; exact hl, vs, _, rv, ha⟩
      · have z' := (if_neg hb).symm.trans z
        cases z'
    · by_cases hb : b = a
      · exact hb
      · exact absurd (if_neg hb) z
end L2

namespace L2
open PySem PySem.Spec PyProof.Rows

abbrev KOf {K : PySem.W.Frag} {h : Heap} (_ : K.In h) : PySem.W.Frag := K

/-- the goal that k_head leaves (case hc), from the law's promise. F gives the function object fd (K's own) once, then the promise over every base -/
theorem walk_of {l : PySem.W.OpenLaw} {n k : Nat} {q : Program} {loose : List Str} {XP : (Str → Option Value) → Heap → Prop} {YP : World → Heap → Prop} {d : DefRec} {K : Params → PySem.W.Frag} {CX : World → CXT} {sp : World → Sp} {x : Str}
    (hn : l.most = some n) (hn2 : n ≤ sizeLine) (hdf : d.params.defaults = []) (hr : Room k callerA)
    (hY : ∀ (w : World) (h : Heap), YP w h → (K w.params).In h)
    (F : ∀ (w : World) (mg : Str → Option Value) (fa : Addr) (h : Heap), (K w.params).In h → h.Ns mainGlobals mg → mg d.name = some (.ref fa) →
      ∃ fd : FuncData, (∀ (s : Shared) (u : Value), BindsTo s fd ⟨[u], []⟩ [(x, u)]) ∧
        ∀ base : Heap, (K w.params).In base → base.Ns mainGlobals mg → FnOk l.prog w (K w.params) mg base (CX w) k fa fd [x] (sp w))
    (hsp : ∀ (w : World) (H : Hp) (a : Addr) (ns : List Int), ns.length ≤ n → Only H → SqL (K w.params) H a (ns.map V.int) → sp w [.ref a] H (fun v _ => v = .bl true) fun _ _ _ => False)
    (hCX : ∀ (w : World) (H : Hp) (s : Shared) (e : Value) (s' : Shared), CX w [] H s (fun _ _ _ => False) e s' → False) :
    PySem.W.WalkO q loose XP YP l.row.toRowW d [] (fun f vs => PySem.call f vs) := by
  refine Att.attach_call hn hdf fun w s₀ s₁ mg mb fa o pm cd doc a vs ns G Y ho hd hcd hmg hobj hints hlen hg => ?_
  have KX := hY w _ Y
  obtain ⟨fd, hb, hF⟩ := F w mg fa _ KX G.T.g hmg
  exact law_call KX G.T.g G.T.b G.T.builtins G.T.nolimit hg hobj hints (Nat.le_trans hlen hn2) hr hF hb (fun H hO hS => hsp w H a ns hlen hO hS) fun H e s' => hCX w H s₁ e s'
end L2

/- THE LAST THEOREM (shape; LID, My.* are yours):
   My.Adr: a structure of the addresses that your layer names (classes, functions); My.Txt K t: a structure (Prop) of the equations over K;
   My.txt_mk : {K} {implicit addresses ..} (e1 : nsIn K mainGlobals "law" = some (some (.ref f))) (e2 : K.lookup f = some ⟨oc, od, .func (fnOf "law" "law" params body scope dV kV doc pm an cdv ct), sl⟩) (e3 : codeIn K cdv "law" = true) .. : ∃ t, My.Txt K t

set_option maxRecDepth 100000 in
set_option maxHeartbeats 0 in
theorem PySem.Challenge.cw_LID_holds : PySem.Challenge.rw_LID.Holds := by
  w_on; o_law; k_head; (case hw => w_witness2)
  k_fill
  refine L2.walk_of (l := PySem.Challenge.rw_LID) (n := 63) (k := 40) (x := "script") (CX := fun w => ..) (sp := fun _ => My.sp_law) rfl (by decide) rfl ⟨rfl, by decide, by decide⟩ (fun w h Y => PySem.W.kIn_of Y) ?F ?S ?C
  case F =>
    intro w mg fa h KX G hmg
    have T : ∃ t, My.Txt (L2.KOf KX) t := by
      dsimp only [L2.KOf]                          -- K must stand as «<heap const> w.params» for k_is
      refine' My.txt_mk ?e1 ?e2 ?e3 ..
      (case e1 => PySem.W.k_is)                    -- in the order: a name -> its address -> its object -> its parts
      (case e2 => PySem.W.k_is)
      ..
    obtain ⟨t, T⟩ := T
    have e0 := hmg.symm.trans (PySem.W.mg_of KX G T.law)
    cases e0                                       -- fa is the law's own address
    exact ⟨_, fun s u => .of_eq rfl, fun base kb nb => My.law_fn T kb nb⟩     -- if «.of_eq rfl» comes too early: refine' ⟨_, ?b, fun base kb nb => My.law_fn T kb nb⟩; exact fun s u => .of_eq rfl
  case S => exact fun w H a ns hl hO hS => ..
  case C => exact ..
(the tactic k_is has no namespace: write k_is) -/

/-! SHORT WORDS over the layer: a def of the text, its body, what a loop and a test want. -/
namespace L2
open PySem PySem.Spec PyProof.Rows

/-! ### the text by places -/
/-- the j-th statement of a class's body -/
def inClass (s : Stmt) (j : Nat) : Stmt := match s with
  | .ClassDef _ _ _ body _ _ _ _ _ _ _ => body.getD j (.Pass ⟨0, 0, 0, 0⟩)
  | _ => .Pass ⟨0, 0, 0, 0⟩
def defArgs (s : Stmt) : Arguments := match s with
  | .FunctionDef _ a _ _ _ _ _ _ _ _ => a
  | _ => { posonlyargs := [], args := [], vararg := none, kwonlyargs := [], kw_defaults := [], kwarg := none, defaults := [] }
def defBody (s : Stmt) : List Stmt := match s with
  | .FunctionDef _ _ b _ _ _ _ _ _ _ => b
  | _ => []
def defScope (s : Stmt) : Scope := match s with
  | .FunctionDef _ _ _ _ _ _ sc _ _ _ => sc
  | _ => { kind := .function, names := [], isGenerator := false, isCoroutine := false }

/-! ### no exception leaves a def -/
abbrev CX0 : CXT := fun _ _ _ _ _ _ => False
abbrev E0 : XK := fun _ _ _ => False
theorem pass0 {X : Cx} : Passes CX0 X E0 := fun _ _ _ _ _ _ _ h => h.elim

/-! ### a def (or method) of the text as it stands behind the top -/
structure Fun (K : PySem.W.Frag) (x qual : Str) (st : Stmt) (f : Addr) (fd : FuncData) : Prop where
  ex : ∃ (oc : Value) (od : Option Addr) (kV doc pm : Value) (an : Option Addr) (cdv ct : Value) (osl : Array (Option Value)),
    fd = PySem.W.fnOf x qual (defArgs st) (defBody st) (defScope st) .none kV doc pm an cdv ct ∧ K.lookup f = some ⟨oc, od, .func fd, osl⟩ ∧ PySem.W.codeIn K cdv qual = true
  kp : PySem.W.keepIn K (.ref f) = true
section
variable {P : Program} {w : World} {K : PySem.W.Frag} {mg : Str → Option Value} {base : Heap}
/-- THE RULE for a def: its body as a term of rules, and the reading of that term -/
theorem Fun.ok {x qual : Str} {st : Stmt} {f : Addr} {fd : FuncData} {N ps : List Str} {k : Nat} {sp : Sp} (F : Fun K x qual st f fd) (S : FnScope N ps (defScope st)) (len : ∀ vs H Q E, sp vs H Q E → vs.length = ps.length)
    (hbody : ∀ (cdv : Value) (A : Around) (outer : List Env) (s : Shared) (H : Hp) (vs : List V) (Q : VK) (E : XK), Room k (A.deeper (envOfC qual (defScope st) s.heap.objs.size f cdv)) → sp vs H Q E →
      ∃ t, PSs (cxOf CX0 P w K mg base N qual (defScope st) f cdv A outer s H E).nox (defBody st) t ∧ t { nx := fun _ H' => Q .non H', rt := Q } (start N vs) H) : FnOk P w K mg base CX0 (k + 1) f fd ps sp := by
  obtain ⟨oc, od, kV, doc, pm, an, cdv, ct, osl, rfl, lk, hcd⟩ := F.ex
  refine fn_of lk hcd S len fun A outer s H vs Q E hr hsp => ?_
  obtain ⟨t, h, q⟩ := hbody cdv A outer s H vs Q E hr hsp
  exact ⟨t, h.nox, q⟩
/-- how its arguments bind (no defaults): h is «fun _ _ _ _ _ _ us hl => match us, hl with | [_, _], _ => rfl», one _ a parameter -/
theorem Fun.binds {x qual : Str} {st : Stmt} {f : Addr} {fd : FuncData} {ps : List Str} (F : Fun K x qual st f fd)
    (h : ∀ (kV doc pm : Value) (an : Option Addr) (cdv ct : Value) (us : List Value), us.length = ps.length → bindArgs (PySem.W.fnOf x qual (defArgs st) (defBody st) (defScope st) .none kV doc pm an cdv ct) ⟨us, []⟩ = pure (ps.zip us)) : Binds K fd ps [] := by
  obtain ⟨oc, od, kV, doc, pm, an, cdv, ct, osl, rfl, lk, hcd⟩ := F.ex
  exact .all (h kV doc pm an cdv ct)
theorem fun_mk {x qual : Str} {st : Stmt} {f : Addr} {oc : Value} {od an : Option Addr} {osl : Array (Option Value)} {kV doc pm cdv ct : Value} (l : K.lookup f = some ⟨oc, od, .func (PySem.W.fnOf x qual (defArgs st) (defBody st) (defScope st) .none kV doc pm an cdv ct), osl⟩)
    (c : PySem.W.codeIn K cdv qual = true) (k : PySem.W.keepIn K (.ref f) = true) : Fun K x qual st f (PySem.W.fnOf x qual (defArgs st) (defBody st) (defScope st) .none kV doc pm an cdv ct) := ⟨⟨oc, od, kV, doc, pm, an, cdv, ct, osl, rfl, l, c⟩, k⟩
end
theorem small1000 {n : Nat} (h : n ≤ 1000) : n < sizeLine := Nat.lt_of_le_of_lt h (by decide)

/-! ### expressions in short: the name that stands in the i-th slot -/
section
variable {X : Cx}
theorem pv (i : Nat) {x : Str} {pos : Pos} (hN : X.N[i]? = some x := by rfl) (hv : Vis X.env.scope x := by first | exact Or.inl rfl | exact Or.inr (Or.inl rfl) | exact Or.inr (Or.inr rfl)) (hd : (x == ("__debug__" : Str)) = false := by decide)
    (hcd : (x == ("__classdict__" : Str)) = false := by decide) : PE X (.Name x pos) (tVar i) := pe_var hN hv hd hcd
end

/-! ### tests -/
theorem iteF {A B : Prop} (h : B) : if false = true then A else B := by
  rw [if_neg Bool.false_ne_true]
  exact h
theorem iteT {A B : Prop} (h : A) : if true = true then A else B := by
  rw [if_pos rfl]
  exact h
theorem ite2 {c A B : Prop} [Decidable c] (h1 : c → A) (h2 : ¬ c → B) : if c then A else B := by
  by_cases h : c
  · rw [if_pos h]
    exact h1 h
  · rw [if_neg h]
    exact h2 h
theorem iteNS {c A B : Prop} [Decidable c] (hc : c) (h : B) : if (!decide c) = true then A else B := by
  rw [decide_eq_true hc]
  exact iteF h

/-! ### heaps -/
/-- all that was tracked is as it was -/
def Same (H H' : Hp) : Prop := ∀ b o, H b = some o → H' b = some o
theorem Same.refl (H : Hp) : Same H H := fun _ _ h => h
theorem Same.trans {H H1 H2 : Hp} (a : Same H H1) (b : Same H1 H2) : Same H H2 := fun c o h => b c o (a c o h)
theorem Same.free {H H' : Hp} (e : Same H H') {l : Addr} (h : H' l = Option.none) : H l = Option.none := by
  cases q : H l with
  | none => rfl
  | some o =>
    rw [e l o q] at h
    cases h
theorem Same.seq {K : PySem.W.Frag} {H H' : Hp} {a : Addr} {xs : List V} (e : Same H H') (h : SqL K H a xs) : SqL K H' a xs := by
  rcases h with (h | ⟨o, h⟩) | h
  · exact .inl (.inl (e _ _ h))
  · exact .inl (.inr ⟨o, e _ _ h⟩)
  · exact .inr h

end L2

set_option maxHeartbeats 4000000
namespace L2
abbrev Pr := Int × Int
def inR (n : Int) (p : Pr) : Bool := decide (p.1 ≤ n) && decide (n ≤ p.2)
def inP (ps : List Pr) (n : Int) : Bool := ps.any (inR n)
/-- pairs that hold a number each, ascending and apart -/
structure Apart (R : List Pr) : Prop where
  le : ∀ p ∈ R, p.1 ≤ p.2
  gap : R.Pairwise fun p q => p.2 + 2 ≤ q.1
/-- what the loop of tidy keeps: R told so far of the pairs qs -/
structure TidI (R qs : List Pr) : Prop where
  ap : Apart R
  mem : ∀ n, inP R n = inP qs n
  cov : ∀ p ∈ qs, p.1 ≤ p.2 → ∃ r ∈ R, r.1 ≤ p.1 ∧ p.2 ≤ r.2
  low : ∀ r ∈ R, ∃ q ∈ qs, r.1 = q.1
end L2

namespace L2
open PySem PySem.Spec PyProof.Rows
/-! ### a def of the text that may be called, bundled -/
def Callee (P : Program) (w : World) (K : PySem.W.Frag) (mg : Str → Option Value) (base : Heap) (k : Nat) (x : Str) (ps : List Str) (sp : Sp) : Prop :=
  ∃ f fd, FnOk P w K mg base CX0 k f fd ps sp ∧ Binds K fd ps [] ∧ PySem.W.keepIn K (.ref f) = true ∧ mg x = some (.ref f)
theorem Callee.mono {P : Program} {w : World} {K : PySem.W.Frag} {mg : Str → Option Value} {base : Heap} {j k : Nat} {x : Str} {ps : List Str} {sp : Sp} (C : Callee P w K mg base j x ps sp) (h : j ≤ k) : Callee P w K mg base k x ps sp :=
  let ⟨f, fd, F, r⟩ := C
  ⟨f, fd, F.mono h, r⟩
section
variable {X : Cx} {k : Nat} {x : Str} {ps : List Str} {sp : Sp} {e : Expr} {es : List Expr} {t : TA} {p pos : Pos}
/-- f(..) of a bundled def -/
def tFn (sp : Sp) (t : TA) : TE := fun σ H Q => t σ H fun vs H1 => sp vs H1 Q E0
theorem pe_fn (C : Callee X.prog X.w X.K X.mg X.base k x ps sp) (hr : Room k X.A) (hg : Gl X x) (ha : PA X (e :: es) t) (hdb : (x == ("__debug__" : Str)) = false := by decide)
    (he : starEach (e :: es) X.env = (false, eval e X.env) :: starEach es X.env := by rfl) (hpl : (backTo pos (starEach es X.env)).any (·.1) = false := by rfl) : PE X (.Call (.Name x p) (e :: es) [] pos) (tFn sp t) := by
  obtain ⟨f, fd, F, b, kk, m⟩ := C
  have h := pe_call (E := E0) (dvs := []) (ds := []) (p := p) F hr hg m kk b .nil pass0 ha hdb he hpl
  intro pins s σ H Q I q
  refine h pins s σ H Q I ?_
  have q' : t σ H fun vs H1 => sp vs H1 Q E0 := q
  have e1 : (fun (vs : List V) (H1 : Hp) => sp (vs ++ []) H1 Q E0) = fun vs H1 => sp vs H1 Q E0 := by
    funext vs H1
    rw [List.append_nil]
  show t σ H fun vs H1 => sp (vs ++ []) H1 Q E0
  rw [e1]
  exact q'
end
/-! ### a block with a word between its first statement and the rest -/
def tCut (t u : TS) : TS := fun D σ H => ∃ M : St → Hp → Prop, t { D with nx := M } σ H ∧ ∀ σ' H', M σ' H' → u D σ' H'
theorem pss_cut {X : Cx} {st : Stmt} {rest : List Stmt} {t u : TS} (h1 : PS X st t) (h2 : PSs X rest u) : PSs X (st :: rest) (tCut t u) := by
  intro pins s σ H D I ⟨M, a, b⟩
  refine wpAny_execs_cons (thn (h1 pins s σ H { D with nx := M } I a) fun fl s1 q => ?_)
  cases fl with
  | next => obtain ⟨σ', H', I', q⟩ := q; exact h2 pins s1 σ' H' D I' (b σ' H' q)
  | ret v => exact q
  | brk => exact q
  | cont => exact q
/-! ### isinstance(x, T), T a built-in type -/
section
variable {X : Cx}
end
/-! ### == and != of lists -/
/-- what == says of two items of lists: plain values; one object; two tuples of plain values -/
inductive EqI (K : PySem.W.Frag) (H : Hp) : V → V → Bool → Prop where
  | flat {x y : V} (fx : flatV x = true) (fy : flatV y = true) : EqI K H x y (eqV x y)
  | same (a : Addr) : EqI K H (.ref a) (.ref a) true
  | tup {a b : Addr} {xs ys : List V} (ha : SqT K H a xs) (hb : SqT K H b ys) (fx : xs.all flatV = true) (fy : ys.all flatV = true) : EqI K H (.ref a) (.ref b) (decide (xs.length = ys.length) && (List.zipWith eqV xs ys).all id)
theorem eqV_refl : ∀ {x : V}, flatV x = true → eqV x x = true
  | .non, _ => rfl
  | .bl b, _ => by simp [eqV]
  | .int i, _ => by simp [eqV]
  | .str z, _ => by simp [eqV]
theorem eqAll_refl : ∀ {xs : List V}, xs.all flatV = true → (List.zipWith eqV xs xs).all id = true
  | [], _ => rfl
  | x :: xs, h => by
    rw [List.all_cons, Bool.and_eq_true] at h
    rw [List.zipWith_cons_cons, List.all_cons, eqAll_refl h.2, Bool.and_true]
    exact eqV_refl h.1
theorem all_range_zip {f : Nat → Bool} : ∀ {xs ys : List V}, (∀ j x y, xs[j]? = some x → ys[j]? = some y → f j = eqV x y) → (List.range (min xs.length ys.length)).all f = (List.zipWith eqV xs ys).all id
  | [], ys, _ => by simp
  | x :: xs, [], _ => by simp
  | x :: xs, y :: ys, h => by
    have ih := all_range_zip (f := fun j => f (j + 1)) (xs := xs) (ys := ys) fun j a b e1 e2 => h (j + 1) a b (by simpa using e1) (by simpa using e2)
    have e0 := h 0 x y rfl rfl
    have em : min (x :: xs).length (y :: ys).length = min xs.length ys.length + 1 := by simp only [List.length_cons]; omega
    rw [em, List.range_succ_eq_map, List.all_cons, List.zipWith_cons_cons, List.all_cons, List.all_map, e0]
    show (eqV x y && (List.range (min xs.length ys.length)).all (fun j => f (j + 1))) = _
    rw [ih]
    rfl
section
variable {X : Cx} {pins : List (Addr × Obj)} {σ : St} {H : Hp} {s : Shared}
theorem EqI.at {A : Around} {x y : V} {u v : Value} {b : Bool} (e : EqI X.K H x y b) (I : Inv X pins σ H s) (hu : A.units + 1 < cLine) (rx : RelV x u) (ry : RelV y v) : SeqAt.EqAt A s u v b := by
  cases e with
  | flat fx fy => exact eqAt_V rx ry fx fy
  | same a =>
    cases (show u = Value.ref a from rx)
    cases (show v = Value.ref a from ry)
    exact SeqAt.EqAt.same _
  | @tup a b xs ys ha hb fx fy =>
    cases (show u = Value.ref a from rx)
    cases (show v = Value.ref b from ry)
    by_cases z : a = b
    · subst z
      have e := I.tuple_inj ha hb
      subst e
      rw [eqAll_refl fx, decide_eq_true rfl]
      exact SeqAt.EqAt.same _
    · obtain ⟨its, r, p, _⟩ := I.tuple ha
      obtain ⟨its', r', p', _⟩ := I.tuple hb
      have l1 := r.length
      have l2 := r'.length
      have h0 := SeqAt.RcAt.tuples (A := A) (e := fun j => match its[j]?, xs[j]?, ys[j]? with | _, some x, some y => eqV x y | _, _, _ => false) (show s.heap.IsTuple a its.toArray from p) (show s.heap.IsTuple b its'.toArray from p') (by omega) (fun j h1 h2 => by
        have j1 : j < its.length := by simpa using h1
        have j2 : j < its'.length := by simpa using h2
        have x1 : xs[j]? = some xs[j] := List.getElem?_eq_getElem (by omega)
        have y1 : ys[j]? = some ys[j] := List.getElem?_eq_getElem (by omega)
        obtain ⟨u1, q1, r1⟩ := r.get x1
        obtain ⟨u2, q2, r2⟩ := r'.get y1
        have eu : its.toArray[j] = u1 := by
          have := List.getElem?_eq_getElem j1
          rw [this] at q1; simpa using Option.some.inj q1
        have ev : its'.toArray[j] = u2 := by
          have := List.getElem?_eq_getElem j2
          rw [this] at q2; simpa using Option.some.inj q2
        rw [eu, ev]
        rw [x1, y1]
        have f1 : flatV xs[j] = true := List.all_eq_true.mp fx _ (List.getElem_mem _)
        have f2 : flatV ys[j] = true := List.all_eq_true.mp fy _ (List.getElem_mem _)
        exact eqAt_V r1 r2 f1 f2)
      have h1 := SeqAt.EqAt.of_refs z h0
      have e1 : ((List.range (min its.toArray.size its'.toArray.size)).all fun j => match its[j]?, xs[j]?, ys[j]? with | _, some x, some y => eqV x y | _, _, _ => false) = (List.zipWith eqV xs ys).all id := by
        have es : min its.toArray.size its'.toArray.size = min xs.length ys.length := by simp only [List.size_toArray]; omega
        rw [es]
        exact all_range_zip fun j x y q1 q2 => by rw [q1, q2]
      rw [e1] at h1
      have e2 : (its.toArray.size == its'.toArray.size) = decide (xs.length = ys.length) := by
        simp only [List.size_toArray, ← l1, ← l2]
        exact Bool.beq_eq_decide_eq _ _
      rw [e2, Bool.and_comm] at h1
      exact h1
end
/-- == (neg: !=) of two lists -/
def rEqL (K : PySem.W.Frag) (neg : Bool) : R2 := fun x y H Q => ∃ a b xs ys, x = .ref a ∧ y = .ref b ∧ SqL K H a xs ∧ SqL K H b ys ∧
  ((xs.length ≠ ys.length ∧ Q (.bl neg) H) ∨ (xs.length = ys.length ∧ ∃ f : Nat → Bool, (∀ j x y, xs[j]? = some x → ys[j]? = some y → EqI K H x y (f j)) ∧ Q (.bl (if neg then !(List.range xs.length).all f else (List.range xs.length).all f)) H))
section
variable {X : Cx}
theorem eqs_at {pins : List (Addr × Obj)} {σ : St} {H : Hp} {s : Shared} {A : Around} {xs ys : List V} {its its' : List Value} {f : Nat → Bool} (I : Inv X pins σ H s) (hu : A.units + 1 < cLine) (r : Vals xs its) (r' : Vals ys its')
    (hf : ∀ j x y, xs[j]? = some x → ys[j]? = some y → EqI X.K H x y (f j)) : ∀ j (h1 : j < its.toArray.size) (h2 : j < its'.toArray.size), SeqAt.EqAt A s its.toArray[j] its'.toArray[j] (f j) := fun j h1 h2 => by
  have j1 : j < its.length := by simpa using h1
  have j2 : j < its'.length := by simpa using h2
  have l1 := r.length
  have l2 := r'.length
  have x1 : xs[j]? = some xs[j] := List.getElem?_eq_getElem (by omega)
  have y1 : ys[j]? = some ys[j] := List.getElem?_eq_getElem (by omega)
  obtain ⟨u1, q1, r1⟩ := r.get x1
  obtain ⟨u2, q2, r2⟩ := r'.get y1
  have eu : its.toArray[j] = u1 := by
    have := List.getElem?_eq_getElem j1
    rw [this] at q1; simpa using Option.some.inj q1
  have ev : its'.toArray[j] = u2 := by
    have := List.getElem?_eq_getElem j2
    rw [this] at q2; simpa using Option.some.inj q2
  rw [eu, ev]
  exact (hf j _ _ x1 y1).at I hu r1 r2
theorem op_eqL {k : Nat} (hr : Room k X.A) : OpR X (compareOp .Eq) (rEqL X.K false) := by
  intro pins s σ H x y v u Q I rx ry h
  obtain ⟨a, b, xs, ys, rfl, rfl, ha, hb, h⟩ := h
  cases (show v = Value.ref a from rx)
  cases (show u = Value.ref b from ry)
  obtain ⟨its, r, p, _⟩ := I.list ha
  obtain ⟨its', r', p', _⟩ := I.list hb
  have l1 := r.length
  have l2 := r'.length
  have hu := hr.units
  rcases h with ⟨hn, q⟩ | ⟨hl, f, hf, q⟩
  · refine SeqAt.eq_list_lengthsAt p.isList p'.isList (by simp only [List.size_toArray, bne_iff_ne, ne_eq]; omega) (by omega) ⟨.bl false, H, I, rfl, q⟩
  · refine SeqAt.eq_listAt (e := f) p.isList p'.isList (by simp only [List.size_toArray]; omega) (by omega) (eqs_at I (by show X.A.units + 1 + 1 < cLine; omega) r r' hf) ⟨.bl _, H, I, rfl, ?_⟩
    rw [show its.toArray.size = xs.length by simp only [List.size_toArray]; omega]
    exact q
end
/-! ### what stays -/
/-- every tuple stays -/
def SameT (H H' : Hp) : Prop := ∀ b xs, H b = some (.tup xs) → H' b = some (.tup xs)
theorem Same.tups {H H' : Hp} (h : Same H H') : SameT H H' := fun b xs e => h b _ e
theorem sameT_lst {H : Hp} {p : Addr} {o : HO} {ys : List V} (h : H p = some (.lst ys)) : SameT H (upd H p o) := fun b xs e => by rw [upd_ne (ne_of e h (by intro z; cases z))]; exact e
theorem same_new {H : Hp} {p : Addr} (h : H p = none) (o : HO) : Same H (upd H p o) := fun b u q => by rw [upd_ne (ne_of_none q h)]; exact q
/-- an address that was free is changed -/
theorem Same.upd {H H' : Hp} {p : Addr} {o : HO} (s : Same H H') (h : H p = none) : Same H (upd H' p o) := fun b u q => by rw [upd_ne (ne_of_none q h)]; exact s b u q
/-! ### lists of pairs -/
def PL (H : Hp) : List V → List (Int × Int) → Prop := Paired fun x p => ∃ r, x = .ref r ∧ H r = some (.tup [.int p.1, .int p.2])
theorem PL.mono {H H' : Hp} {xs : List V} {ps : List (Int × Int)} (h : PL H xs ps) (s : SameT H H') : PL H' xs ps := Paired.mapP h fun _ _ ⟨r, e, z⟩ => ⟨r, e, s r _ z⟩
theorem PL.get {H : Hp} : ∀ {xs : List V} {ps : List (Int × Int)} {i : Nat} {x : V}, PL H xs ps → xs[i]? = some x → ∃ p r, ps[i]? = some p ∧ x = .ref r ∧ H r = some (.tup [.int p.1, .int p.2])
  | _, _, _, _, .nil, e => by simp at e
  | _, _, 0, _, .cons (b := b) ⟨r, e1, z⟩ _, e => by simp at e; subst e; exact ⟨b, r, rfl, e1, z⟩
  | _, _, i + 1, x, .cons _ t, e => by
    obtain ⟨p, r, q⟩ := PL.get (i := i) (x := x) t (by simpa using e)
    exact ⟨p, r, by simpa using q.1, q.2⟩
/-! ### lists of triples of ints -/
abbrev Tr := Int × Int × Int
def TL (H : Hp) : List V → List Tr → Prop := Paired fun x t => ∃ r, x = .ref r ∧ H r = some (.tup [.int t.1, .int t.2.1, .int t.2.2])
theorem dec_t {p : Prop} [Decidable p] (h : decide p = true) : p := of_decide_eq_true h
theorem dec_f {p : Prop} [Decidable p] (h : ¬ decide p = true) : ¬ p := fun e => h (decide_eq_true e)
end L2

namespace L2
open PySem PySem.Spec PyProof.Rows
/-! ### rules that name the written part by itself (within a block) -/
theorem ix_listK {X : Cx} {K : PySem.W.Frag} (h : X.K = K) : IxR X (rIxL K) := h ▸ ix_list
/-! ### a list comprehension with one clause whose target is a plain name -/
/-- the block's context: nothing raises in it; the frames that run are the def's own and its callers' -/
def cmpCx (X : Cx) (N : List Str) (scope : Scope) (cl : List (Str × Addr)) (fp : List Addr) (C : Addr) (s2 : Shared) (H2 : Hp) : Cx :=
  { prog := X.prog, w := X.w, K := X.K, mg := X.mg, base := X.base, A := X.A, N := N, s₀ := s2, H₀ := H2, env := compEnvC scope cl C X.env, outer := X.stack, stack := X.stack, ex := fp, fn := fun _ => false, calm := X.calm, pn := [], xe := fun _ _ => False }
/-- the tests of a clause -/
def PIf (X : Cx) (ifs : List Expr) (t : TT) : Prop :=
  ∀ (pins : List (Addr × Obj)) (s : Shared) (σ : St) (H : Hp) (Q : Bool → Hp → Prop), Inv X pins σ H s → t σ H Q →
    wpAny (model X.prog X.w) X.A (forIn ifs true fun c r => if r = true then do let ok ← isTrue c X.env (eval c X.env); pure (ForInStep.yield ok) else pure (ForInStep.yield r)) (TP X pins σ Q) X.xe s
def tYes : TT := fun _ H Q => Q true H
theorem pif_nil {X : Cx} : PIf X [] tYes := fun _ _ _ H _ I h => wpAny_tests_nil ⟨H, I, h⟩
theorem pif_one {X : Cx} {c : Expr} {t : TT} (h : PT X c t) : PIf X [c] t := fun pins s σ H Q I q => wpAny_tests_one (h pins s σ H Q I q)
/-- what is asked of the block's names: N its slots (the target first, then the def's own names that it sees), fr where these stand among the def's slots -/
structure CmpOk (X : Cx) (N : List Str) (fr : List Nat) (scope : Scope) (cl : List (Str × Addr)) (x : Str) : Prop where
  clos : closureFor scope X.env = pure cl
  kind : scope.kind = .function
  nocell : ∀ y ∈ scope.names, y.2 ≠ .cell
  names : ∀ y ∈ scope.names, y.2 = .local → scope.names.lookup y.1 = some .local
  hx : scope.names.lookup x = some .local
  nd : N.Nodup
  n0 : N[0]? = some x
  len : N.length = fr.length + 1
  sub : ∀ (i : Nat) (y : Str), N[i + 1]? = some y → ∃ j, fr[i]? = some j ∧ X.N[j]? = some y ∧ (X.env.kindOf y = some .cell ∨ X.env.kindOf y = some .free) ∧ ((relabel scope X.env).names.lookup y = some .cell ∨ (relabel scope X.env).names.lookup y = some .free)
  cells : ∀ y c, cl.lookup y = some c → X.env.cells.lookup y = some c
  has : ∀ y, ((relabel scope X.env).names.lookup y = some .cell ∨ (relabel scope X.env).names.lookup y = some .free) → ∃ c, cl.lookup y = some c
/-- a block that sees no name of the def -/
theorem cmpOk_plain {X : Cx} {scope : Scope} {x : Str} (kind : scope.kind = .function) (nofree : ∀ y ∈ scope.names, y.2 ≠ .free) (nocell : ∀ y ∈ scope.names, y.2 ≠ .cell)
    (names : ∀ y ∈ scope.names, y.2 = .local → scope.names.lookup y.1 = some .local) (hx : scope.names.lookup x = some .local) : CmpOk X [x] [] scope [] x := by
  have er : (relabel scope X.env).names = scope.names := map_eq_self fun y hy => by
    have z : (y.2 == NameKind.free) = false := by simpa using nofree y hy
    simp [z]
  have no : ∀ y, ¬ ((relabel scope X.env).names.lookup y = some .cell ∨ (relabel scope X.env).names.lookup y = some .free) := fun y h => by
    rw [er] at h
    rcases h with h | h
    · exact nocell _ (PySem.mem_of_lookup h) rfl
    · exact nofree _ (PySem.mem_of_lookup h) rfl
  exact ⟨closureFor_none nofree, kind, nocell, names, hx, by simp, rfl, rfl, fun i y e => by simp at e, (fun y c e => by cases e), fun y h => absurd h (no y)⟩
/-- a block that sees names of the def: those are cells there -/
theorem cmpOk_free {X : Cx} {N : List Str} {fr : List Nat} {scope : Scope} {cl : List (Str × Addr)} {x : Str} (clos : closureFor scope X.env = pure cl) (kind : scope.kind = .function) (nocell : ∀ y ∈ scope.names, y.2 ≠ .cell)
    (names : ∀ y ∈ scope.names, y.2 = .local → scope.names.lookup y.1 = some .local) (hx : scope.names.lookup x = some .local) (nd : N.Nodup) (n0 : N[0]? = some x) (len : N.length = fr.length + 1)
    (sub : ((List.range fr.length).all fun i => match N[i + 1]?, fr[i]? with | some y, some j => (X.N[j]? == some y) && ((X.env.kindOf y == some .cell) && ((relabel scope X.env).names.lookup y == some .cell)) | _, _ => false) = true)
    (cells : ∀ p ∈ cl, X.env.cells.lookup p.1 = some p.2) (has : ((relabel scope X.env).names.all fun p => (p.2 != .cell && p.2 != .free) || (cl.lookup p.1).isSome) = true) : CmpOk X N fr scope cl x := by
  refine ⟨clos, kind, nocell, names, hx, nd, n0, len, fun i y e => ?_, fun y c e => cells _ (PySem.mem_of_lookup e), fun y h => ?_⟩
  · have hi : i < fr.length := by have := (List.getElem?_eq_some_iff.mp e).1; omega
    have z := List.all_eq_true.mp sub i (List.mem_range.mpr hi)
    rw [e, List.getElem?_eq_getElem hi] at z
    simp only [Bool.and_eq_true, beq_iff_eq] at z
    exact ⟨_, List.getElem?_eq_getElem hi, z.1, .inl z.2.1, .inl z.2.2⟩
  · have look : ∀ k, (relabel scope X.env).names.lookup y = some k → (k = .cell ∨ k = .free) → ∃ c, cl.lookup y = some c := fun k e hk => by
      have z := List.all_eq_true.mp has _ (PySem.mem_of_lookup e)
      rcases hk with rfl | rfl
      · exact Option.isSome_iff_exists.mp (by simpa using z)
      · exact Option.isSome_iff_exists.mp (by simpa using z)
    rcases h with h | h
    · exact look _ h (.inl rfl)
    · exact look _ h (.inr rfl)
def cmpSt (σ : St) (fr : List Nat) (x : Option V) : St := x :: fr.map fun j => (σ[j]?).join
/-- the comprehension's reading: D the new list, W the invariant by the turn and a measure -/
def CompAt (J : It) (fr : List Nat) (tt : TT) (te : TE) (σ : St) (Q : VK) (H1 : Hp) : Prop := ∀ D, H1 D = none → ∃ W : Nat → Nat → Hp → Prop, (∃ m, W 0 m (upd H1 D (.lst []))) ∧ ∀ i m H, W i m H →
  (J.stop i H ∧ Q (.ref D) H) ∨ (J.go i H ∧ ∀ x H', J.yld i H x H' → tt (cmpSt σ fr (some x)) H' fun b H2 => if b = true then te (cmpSt σ fr (some x)) H2 fun y H3 => ∃ ys, H3 D = some (.lst ys) ∧ ys.length < sizeLine ∧ ∃ m', m' < m ∧ W (i + 1) m' (upd H3 D (.lst (ys ++ [y])))
    else ∃ m', m' < m ∧ W (i + 1) m' H2)
def tComp (wi : TI) (fr : List Nat) (tt : TT) (te : TE) : TE := fun σ H Q => wi σ H fun J H1 => CompAt J fr tt te σ Q H1
section
variable {prog : Program} {w : World} {A : Around} {R : Result → Shared → Prop} {s : Shared}
theorem comp_turns {elt target iter : Expr} {ifs : List Expr} {scope : Scope} {pos : Pos} {it acc : Value} {env : Env} (J : Nat → Shared → Prop)
    (turn : ∀ n s, J n s → wpAny (model prog w) A (pyNext it) (fun r s1 => match r with
      | none => R (.ok .next) s1
      | some v => wpAny (model prog w) A (letOwnedTupleGo target it v) (fun _ s2 => wpAny (model prog w) A (assign target env v) (fun _ s3 =>
          wpAny (model prog w) A (forIn ifs true fun c r => if r = true then do let ok ← isTrue c env (eval c env); pure (ForInStep.yield ok) else pure (ForInStep.yield r)) (fun ok s4 =>
            if ok = true then wpAny (model prog w) A (eval elt env) (fun y s5 => wpAny (model prog w) A (call (.builtin "list.append") [acc, y]) (fun _ s6 => ∃ m, m < n ∧ J m s6) (fun _ _ => False) s5) (fun _ _ => False) s4
            else ∃ m, m < n ∧ J m s4) (fun _ _ => False) s3) (fun _ _ => False) s2) (fun _ _ => False) s1) (fun _ _ => False) s)
    (n : Nat) (h : J n s) : codeAny (model prog w) A (.compLoop (.ListComp elt [⟨target, iter, ifs, 0⟩] scope pos) 0 it acc env) R s := by
  refine codeAny_loop rfl J (fun n s hJ => ?_) n h
  show wpAny _ A ((compTurn (.ListComp elt [⟨target, iter, ifs, 0⟩] scope pos) 0 it acc env).onRaise (fun x => do noteFrame x env; theTreesLotGoes x)) _ _ s
  refine wpAny_noted ?_
  rw [compTurn_list]
  refine wpAny_bind (wpAny_standAt (wpAny_bind (wpAny_mono (turn n s hJ) (fun r s1 h1 => ?_) fun _ _ z => z.elim)))
  cases r with
  | none => exact wpAny_pure h1
  | some v =>
    refine wpAny_bind (wpAny_mono h1 (fun _ s2 h2 => ?_) fun _ _ z => z.elim)
    refine wpAny_bind (wpAny_mono h2 (fun _ s3 h3 => wpAny_bind (wpAny_mono h3 (fun ok s4 h4 => ?_) fun _ _ z => z.elim)) fun _ _ z => z.elim)
    cases ok with
    | false => exact wpAny_pure ⟨rfl, h4⟩
    | true => exact wpAny_bind (wpAny_bind (wpAny_mono h4 (fun y s5 h5 => wpAny_bind (wpAny_mono h5 (fun _ s6 h6 => wpAny_pure (wpAny_pure ⟨rfl, h6⟩)) fun _ _ z => z.elim)) fun _ _ z => z.elim))
end
section
variable {X : Cx} {elt iter : Expr} {ifs : List Expr} {x : Str} {px pos : Pos} {scope : Scope} {cl : List (Str × Addr)} {N : List Str} {fr : List Nat} {tt : TT} {te : TE}
theorem comp_core {pins : List (Addr × Obj)} {σ : St} {s2 : Shared} {H2 : Hp} {it : Addr} {fp : List Addr} {tn : Nat → Heap → Prop} {J : It} {Q : VK} {E : Value → Shared → Prop} {RR : Value → Addr → Result → Shared → Prop}
    (O : CmpOk X N fr scope cl x) (hc : X.calm = true) (I2 : Inv X pins σ H2 s2) (T : Turn X.prog X.w X.K (.Name x px) J fp it tn) (st2 : tn 0 s2.heap) (f2 : ∀ b ∈ fp, FpOk X pins H2 b)
    (ht : ∀ fp C s H, PIf (cmpCx X N scope cl fp C s H) ifs tt) (he : ∀ fp C s H, PE (cmpCx X N scope cl fp C s H) elt te)
    (hW : CompAt J fr tt te σ Q H2)
    (fin : ∀ D C s' H', s2.heap.objs.size ≤ C → H' C = none → (∃ m, s'.heap.Ns C m) → Inv X pins σ H' s' → Q (.ref D) H' → RR (.ref D) C (.ok .next) s') :
    wpAny (model X.prog X.w) X.A (newList []) (fun acc s3 => wpAny (model X.prog X.w) X.A (newFunctionEnv scope X.env.globals cl [] X.env.qual none .none (some X.env)) (fun cenv s4 =>
      codeAny (model X.prog X.w) X.A (.compStart (.ListComp elt [⟨.Name x px, iter, ifs, 0⟩] scope pos) 0 (.ref it) acc { cenv with scope := relabel scope X.env }) (RR acc cenv.locals) s4) E s3) E s2 := by
  refine wpAny_newObj_type (wpAny_newFunctionEnv O.nocell (by intro y hy; simp at hy) (fun h1 hns hsb => ?_) O.kind)
  dsimp only at hns hsb ⊢
  generalize hG : s2.heap.push { cls := .type "list", dict := none, data := .seq ([] : List Value).toArray } = G at hns hsb ⊢
  have hC : G.objs.size = s2.heap.objs.size + 1 := by rw [← hG, Heap.size_push]
  have old : ∀ b o, s2.heap.get? b = some o → h1.get? b = some o := fun b o e => hsb.extBut b o (Nat.ne_of_lt (by rw [hC]; exact Nat.lt_succ_of_lt (Heap.lt_size e))) (Heap.get?_push_of_some _ (hG ▸ Heap.get?_push_of_some _ e))
  have hacc : h1.get? s2.heap.objs.size = some { cls := .type "list", data := .seq ([] : List Value).toArray 0 } := hsb.extBut _ _ (Nat.ne_of_lt (by rw [hC]; exact Nat.lt_succ_self _)) (Heap.get?_push_of_some _ (hG ▸ Heap.get?_push_size _ rfl))
  have hD : H2 s2.heap.objs.size = none := I2.fresh
  have okX : (cmpCx X N scope cl fp G.objs.size s2 H2).Ok := by
    refine ⟨I2.ok.mod, O.kind, I2.ok.glob, I2.ok.blt, by show s2.heap.objs.size ≤ G.objs.size; rw [hC]; exact Nat.le_succ _, fun y z c e1 e2 => I2.ok.inj y z c (O.cells y c e1) (O.cells z c e2), fun y hy => O.has y hy, fun y c z => absurd (show false = true from z) Bool.false_ne_true, I2.ok.hd, I2.ok.frames, .inl rfl,
      fun b hb => ⟨?_, fun y c e => (f2 b hb).2.2.2.2.1 y c (O.cells y c e)⟩, I2.bs, Nat.le_trans I2.ok.bsz I2.sz, fun b o e hb => ?_, fun b hb z => ?_, I2.stack, I2.stkFree⟩
    · obtain ⟨o, e, _⟩ := T.obj _ _ st2 b hb
      show b ≠ G.objs.size
      exact Nat.ne_of_lt (by rw [hC]; exact Nat.lt_succ_of_lt (Heap.lt_size e))
    · rcases (f2 b hb).2.2.2.1 with z | z
      · exact I2.ok.noex b o e z
      · exact absurd (Nat.lt_of_lt_of_le (Heap.lt_size e) (Nat.le_trans I2.ok.bsz z)) (Nat.lt_irrefl _)
    · rcases List.mem_cons.mp (I2.stkSub b z) with z | z
      · exact (f2 b hb).2.1 z
      · exact (f2 b hb).2.2.1 z
  have statX : ∀ {H' : Hp}, (∀ b ∈ fp, H' b = none) → ∀ b ∈ fp, FpOk (cmpCx X N scope cl fp G.objs.size s2 H2) [] H' b := fun hn b hb =>
    ⟨hn b hb, (okX.exf b hb).1, okX.exfs b hb, .inl hb, (okX.exf b hb).2, fun p hp => absurd (show p ∈ ([] : List (Addr × Obj)) from hp) (by simp)⟩
  have I' : Inv (cmpCx X N scope cl fp G.objs.size s2 H2) [] (cmpSt σ fr none) (upd H2 s2.heap.objs.size (.lst [])) { s2 with heap := h1, toks := s2.toks + ([] : List (Str × Value)).length } := by
    refine ⟨okX, rfl, I2.bare, Un.laid old (Nat.le_refl _) hD, ⟨_, hns, fun i y v e1 e2 e3 => ?_⟩, fun y c e => ?_, ?_, fun y c e => ?_, fun p hp => absurd (show p ∈ ([] : List (Addr × Obj)) from hp) (by simp), I2.hok.laid old (Nat.le_refl _) ⟨Nat.zero_le _, [], 0, .nil, hacc⟩, ?_⟩
    · cases i with
      | zero => cases e2
      | succ i =>
        obtain ⟨j, q1, q2, q3, q4⟩ := O.sub i y e1
        have e2' : (σ[j]?).join = some v := by
          have : (fr.map fun j => (σ[j]?).join)[i]? = some (some v) := e2
          rw [List.getElem?_map, q1] at this
          exact Option.some.inj this
        have e4 : σ[j]? = some (some v) := by
          cases z : σ[j]? with
          | none => rw [z] at e2'; cases e2'
          | some t => rw [z] at e2'; exact congrArg some e2'
        obtain ⟨m, _, hl⟩ := I2.loc
        have vis : Vis X.env.scope y := .inr q3
        obtain ⟨u, r, l⟩ := hl j y v q2 e4 vis
        refine ⟨u, r, .inr ⟨q4, ?_⟩⟩
        obtain ⟨c', hc'⟩ := O.has y q4
        rcases l with ⟨k, _⟩ | ⟨_, c, ec, ic⟩
        · rcases q3 with z | z
          · rw [z] at k; cases k
          · rw [z] at k; cases k
        · have := O.cells y c' hc'
          have e' : c = c' := Option.some.inj (ec.symm.trans this)
          obtain ⟨o, ho, hd⟩ := ic
          rw [e'] at ho
          exact ⟨c', hc', o, old c' o ho, hd⟩
    · obtain ⟨v, o, ho, hd⟩ := I2.cell y c (O.cells y c e)
      exact ⟨v, o, old c o ho, hd⟩
    · show upd H2 s2.heap.objs.size (.lst []) G.objs.size = none
      rw [upd_ne (Nat.ne_of_gt (by rw [hC]; exact Nat.lt_succ_self _))]
      exact I2.hok.fresh (by rw [hC]; exact Nat.le_succ _)
    · obtain ⟨v, o, ho, hd⟩ := I2.cell y c (O.cells y c e)
      rw [upd_ne (Nat.ne_of_lt (Heap.lt_size ho))]
      exact I2.freeC y c (O.cells y c e)
    · show (cmpSt σ fr none).length = N.length
      rw [O.len]; simp [cmpSt]
  have st1 : tn 0 h1 := T.keep _ _ _ st2 fun b hb o e => old b o e
  have loop : ∀ s3 : Shared, s3 = { s2 with heap := h1, toks := s2.toks + ([] : List (Str × Value)).length } →
      codeAny (model X.prog X.w) X.A (.compLoop (.ListComp elt [⟨.Name x px, iter, ifs, 0⟩] scope pos) 0 (.ref it) (.ref s2.heap.objs.size) (compEnvC scope cl G.objs.size X.env)) (RR (.ref s2.heap.objs.size) G.objs.size) s3 := by
    rintro s3 rfl
    obtain ⟨W, ⟨m0, w0⟩, turn⟩ := hW _ hD
    refine comp_turns (fun n s' => ∃ i t H', Inv (cmpCx X N scope cl fp G.objs.size s2 H2) [] (cmpSt σ fr t) H' s' ∧ tn i s'.heap ∧ (∀ b ∈ fp, H' b = none) ∧ W i n H') ?_ m0
      ⟨0, none, _, I', st1, fun b hb => by
        rw [upd_ne (by obtain ⟨o, e, _⟩ := T.obj _ _ st2 b hb; exact Nat.ne_of_lt (Heap.lt_size e))]
        exact (f2 b hb).1, w0⟩
    rintro n s' ⟨i, t, H', I3, st3, fr3, w3⟩
    rcases turn i n H' w3 with ⟨stop, qn⟩ | ⟨go, step⟩
    · refine thn (T.done (cmpCx X N scope cl fp G.objs.size s2 H2) rfl rfl rfl hc i [] s' _ H' _ I3 (statX fr3) st3 stop) fun r s4 ⟨hr, I4⟩ => ?_
      subst hr
      obtain ⟨m, hm, _⟩ := I4.loc
      refine fin _ _ s4 H' (by rw [hC]; exact Nat.le_succ _) I4.free ⟨m, hm⟩ (I2.call' (ch := fp) I4.os I4.base I4.hok I4.bare fun b hb => ?_) qn
      exact ⟨(f2 b hb).2.2.2.1, (f2 b hb).2.1, (f2 b hb).2.2.2.2.1, (f2 b hb).2.2.2.2.2⟩
    · refine thn (T.item (cmpCx X N scope cl fp G.objs.size s2 H2) rfl rfl rfl hc i [] s' _ H' _ I3 (statX fr3) st3 go) fun r s4 ⟨u, hr, h4⟩ => ?_
      subst hr
      refine thn h4 fun _ s5 ⟨y, H5, I5, r5, y5, st5, fr5⟩ => ?_
      have I5' := I5.pinned (statX fr5) (T.obj _ _ st5)
      have lx : (cmpCx X N scope cl fp G.objs.size s2 H2).env.scope.names.lookup x = some .local := lookup_relabel_local O.hx
      refine thn (pg_name (X := cmpCx X N scope cl fp G.objs.size s2 H2) (i := 0) O.nd O.n0 (.inl lx) (.inr lx) _ s5 _ H5 y u (fun σ' H' => σ' = cmpSt σ fr (some y) ∧ H' = H5) I5' r5 ⟨rfl, rfl⟩) fun _ s6 ⟨σ6, H6, I6, e6, e6'⟩ => ?_
      subst e6; subst e6'
      have again : ∀ {σ7 : St} {H7 : Hp} {s7 : Shared} {m' : Nat}, σ7 = cmpSt σ fr (some y) → Inv (cmpCx X N scope cl fp G.objs.size s2 H2) ([] ++ pinsAt fp s5.heap) σ7 H7 s7 → m' < n → W (i + 1) m' H7 →
          ∃ m, m < n ∧ ∃ i t H', Inv (cmpCx X N scope cl fp G.objs.size s2 H2) [] (cmpSt σ fr t) H' s7 ∧ tn i s7.heap ∧ (∀ b ∈ fp, H' b = none) ∧ W i m H' := fun {σ7 H7 s7 m'} e7 I7 hm w7 => by
        subst e7
        refine ⟨m', hm, i + 1, some y, H7, I7.unpinned, T.keep _ _ _ st5 fun b hb o e => (I7.pin (b, o) (List.mem_append_right _ (List.mem_append_right _ (mem_pinsAt hb e)))).1, fun b hb => ?_, w7⟩
        obtain ⟨o, e, d⟩ := T.obj _ _ st5 b hb
        exact (I7.pin (b, o) (List.mem_append_right _ (List.mem_append_right _ (mem_pinsAt hb e)))).2.1
      refine thn (ht fp G.objs.size s2 H2 _ s6 _ H6 _ I6 (step y H6 y5)) fun ok s7 ⟨H7, I7, q7⟩ => ?_
      cases ok with
      | false =>
        rw [if_neg Bool.false_ne_true] at q7 ⊢
        obtain ⟨m', hm, w7⟩ := q7
        exact again rfl I7 hm w7
      | true =>
        rw [if_pos rfl] at q7 ⊢
        refine thn (he fp G.objs.size s2 H2 _ s7 _ H7 _ I7 q7) fun u8 s8 ⟨v8, H8, I8, r8, ys, hys, hlen, m', hm, w8⟩ => ?_
        refine thn (mt_append (X := cmpCx X N scope cl fp G.objs.size s2 H2) _ s8 _ H8 (.ref s2.heap.objs.size) [v8] _ [u8] (fun _ H9 => W (i + 1) m' H9) I8 rfl (.cons r8 .nil) ⟨_, ys, v8, rfl, rfl, hys, hlen, w8⟩) fun _ s9 ⟨_, H9, I9, _, w9⟩ => ?_
        exact again rfl I9 hm w9
  exact codeAny_compStart_list (loop _ rfl) (T.self _ 0 _ _ _ st1 (loop _ rfl))
/-- the frame of a block is let go -/
theorem Inv.left {pins : List (Addr × Obj)} {σ σ2 : St} {s2 s' : Shared} {H2 H' : Hp} {C : Addr} {h' : Heap} (I2 : Inv X pins σ2 H2 s2) (I' : Inv X pins σ H' s') (hC : s2.heap.objs.size ≤ C) (hn : H' C = none) (hs : Heap.SameBut C s'.heap h') : Inv X pins σ H' { s' with heap := h' } := by
  refine I'.turned (t' := s'.toks) (it := C) (fun b o hb e => (hs.2 b hb).trans e) hn (Nat.ne_of_gt (Nat.lt_of_lt_of_le I2.lt hC)) (.inr (Nat.le_trans I2.sz hC)) (fun y c e => ?_) fun p hp => ?_
  · obtain ⟨v, o, ho, _⟩ := I2.cell y c e
    exact Nat.ne_of_lt (Nat.lt_of_lt_of_le (Heap.lt_size ho) hC)
  · exact Nat.ne_of_lt (Nat.lt_of_lt_of_le (Heap.lt_size (I2.pin p hp).1) hC)
/-- [elt for x in iter if ..] -/
theorem pe_comp {wi : TI} (hi : PI X (.Name x px) iter wi) (O : CmpOk X N fr scope cl x) (hc : X.calm = true) (ht : ∀ fp C s H, PIf (cmpCx X N scope cl fp C s H) ifs tt) (he : ∀ fp C s H, PE (cmpCx X N scope cl fp C s H) elt te)
    (hs : ∀ v, foldedSetIterable iter X.env v = pure v := by intro _; rfl) : PE X (.ListComp elt [⟨.Name x px, iter, ifs, 0⟩] scope pos) (tComp wi fr tt te) := by
  intro pins s σ H Q I h
  rw [eval_ListComp]
  refine wpAny_comprehension_free (use := none) rfl hs O.clos O.kind O.names (thn (hi pins s σ H _ I h) fun v s1 h1 => thn h1 fun itv s2 h2 => ?_)
  obtain ⟨it, fp, tn, J, H2, e, I2, T, st2, f2, hW⟩ := h2
  subst e
  refine comp_core (RR := fun acc C => compPost (model X.prog X.w) X.A X.xe none (EP X pins σ Q) acc C) O hc I2 T st2 f2 ht he hW fun D C s' H' hC hn ⟨m, hm⟩ I' q => ?_
  exact ⟨m, hm, fun h' hs' => ⟨.ref D, H', I2.left I' hC hn hs', rfl, q⟩⟩
/-- y = [elt for x in iter if ..], both on one row: stored ahead of the block's end -/
theorem ps_comp {wi : TI} {i : Nat} {y : Str} {py spos : Pos} (hN : X.N.Nodup) (hy : X.N[i]? = some y) (hl : Loc X.env.scope y) (hi : PI X (.Name x px) iter wi) (O : CmpOk X N fr scope cl x) (hc : X.calm = true)
    (ht : ∀ fp C s H, PIf (cmpCx X N scope cl fp C s H) ifs tt) (he : ∀ fp C s H, PE (cmpCx X N scope cl fp C s H) elt te) (hs : ∀ v, foldedSetIterable iter X.env v = pure v := by intro _; rfl)
    (hsw : swapsWith (.ListComp elt [⟨.Name x px, iter, ifs, 0⟩] scope pos) (some (.Name y py)) spos.line X.env = pure true := by rfl) (hf : X.fn y = true ∨ X.env.scope.names.lookup y = some .local := by first | exact .inl rfl | exact .inr rfl | assumption) :
    PS X (.Assign [.Name y py] (.ListComp elt [⟨.Name x px, iter, ifs, 0⟩] scope pos) spos) (tAsg (tComp wi fr tt te) (gName i)) := by
  intro pins s σ H D0 I h
  rw [exec_Assign_Name_used _ _ _ _ hsw]
  refine wpAny_bind (wpAny_standAt (wpAny_bind ?_))
  show wpAny _ X.A (do let _ ← comprehension (.ListComp elt [⟨.Name x px, iter, ifs, 0⟩] scope pos) scope X.env _ (newList []) false (eval iter X.env) (some (assign (.Name y py) X.env))) _ _ s
  refine wpAny_bind (wpAny_mono (wpAny_comprehension_free (use := some (assign (.Name y py) X.env)) (Q := fun _ s' => SP X pins D0 .next s') rfl hs O.clos O.kind O.names (thn (hi pins s σ H _ I h) fun v s1 h1 => thn h1 fun itv s2 h2 => ?_)) (fun _ s' hq => wpAny_pure (wpAny_pure hq)) fun _ _ z => z)
  obtain ⟨it, fp, tn, J, H2, e, I2, T, st2, f2, hW⟩ := h2
  subst e
  refine comp_core (Q := fun v H1 => gName i v σ H1 D0.nx) (RR := fun acc C => compPost (model X.prog X.w) X.A X.xe (some (assign (.Name y py) X.env)) (fun _ s' => SP X pins D0 .next s') acc C) O hc I2 T st2 f2 ht he hW fun D C s' H' hC hn ⟨m, hm⟩ I' q => ?_
  show wpAny _ X.A (assign (.Name y py) X.env (.ref D)) _ _ s'
  refine wpAny_assign_Name (store_ok2 I' hN hy hl (v := .ref D) rfl (fun s3 I3 ⟨a, hsa, ha⟩ => ?_) hf)
  have hCa : C ≠ a := by
    rcases ha with z | z
    · rw [z]; exact Nat.ne_of_gt (Nat.lt_of_lt_of_le I2.lt hC)
    · obtain ⟨v, o, ho, _⟩ := I2.cell y a z
      exact Nat.ne_of_gt (Nat.lt_of_lt_of_le (Heap.lt_size ho) hC)
  exact ⟨m, hm.sameBut hsa hCa, fun h' hs' => ⟨_, H', I2.left I3 hC hn hs', q⟩⟩
/-- what is wanted behind a turn that tells nothing; behind one that tells y -/
def CNext (Pv : Addr → Nat → List V → Hp → Prop) (D : Addr) (i n : Nat) (H2 : Hp) : Prop := ∃ m', m' < n - i ∧ m' = n - (i + 1) ∧ i + 1 ≤ n ∧ ∃ zs, Pv D (i + 1) zs H2
def CYes (Pv : Addr → Nat → List V → Hp → Prop) (D : Addr) (i n : Nat) : VK := fun y H3 => ∃ ys, H3 D = some (.lst ys) ∧ ys.length < sizeLine ∧ CNext Pv D i n (upd H3 D (.lst (ys ++ [y])))
theorem CNext.mk {Pv : Addr → Nat → List V → Hp → Prop} {D : Addr} {i n : Nat} {H2 : Hp} {zs : List V} (hi : i < n) (h : Pv D (i + 1) zs H2) : CNext Pv D i n H2 := ⟨n - (i + 1), by omega, rfl, hi, zs, h⟩
theorem CYes.mk {Pv : Addr → Nat → List V → Hp → Prop} {D : Addr} {i n : Nat} {H3 : Hp} {ys : List V} {y : V} (hi : i < n) (e : H3 D = some (.lst ys)) (hl : ys.length < sizeLine) (h : Pv D (i + 1) (ys ++ [y]) (upd H3 D (.lst (ys ++ [y])))) : CYes Pv D i n y H3 := ⟨ys, e, hl, .mk hi h⟩
/-- over a list that the block leaves as it is -/
theorem comp_list {K : PySem.W.Frag} {a : Addr} {xs : List V} {σ : St} {H1 : Hp} {Q : VK} (Pv : Addr → Nat → List V → Hp → Prop) (h0 : ∀ D, H1 D = none → Pv D 0 [] (upd H1 D (.lst [])))
    (hk : ∀ D i ys H, H1 D = none → i ≤ xs.length → Pv D i ys H → SqL K H a xs)
    (hs : ∀ D i x ys H, H1 D = none → xs[i]? = some x → Pv D i ys H → tt (cmpSt σ fr (some x)) H fun b H2 => if b = true then te (cmpSt σ fr (some x)) H2 (CYes Pv D i xs.length) else CNext Pv D i xs.length H2)
    (hd : ∀ D ys H, H1 D = none → Pv D xs.length ys H → Q (.ref D) H) : CompAt (Itl K a) fr tt te σ Q H1 := by
  intro D hD
  refine ⟨fun i m H => m = xs.length - i ∧ i ≤ xs.length ∧ ∃ ys, Pv D i ys H, ⟨_, rfl, Nat.zero_le _, [], h0 D hD⟩, ?_⟩
  rintro i m H ⟨rfl, hi, ys, p⟩
  have q := hk D i ys H hD hi p
  by_cases hlt : i < xs.length
  · refine .inr ⟨⟨xs, xs[i], q, by simp [hlt]⟩, fun x H' y => ?_⟩
    obtain ⟨e, y⟩ := y
    subst e
    exact hs D i x ys _ hD (y xs q) p
  · have e : i = xs.length := by omega
    subst e
    exact .inl ⟨⟨xs, q, Nat.le_refl _⟩, hd D ys H hD p⟩
/-- over a range -/
theorem comp_range {lo : Int} {n : Nat} {σ : St} {H1 : Hp} {Q : VK} (Pv : Addr → Nat → List V → Hp → Prop) (h0 : ∀ D, H1 D = none → Pv D 0 [] (upd H1 D (.lst [])))
    (hs : ∀ D i ys H, H1 D = none → i < n → Pv D i ys H → tt (cmpSt σ fr (some (.int (lo + i)))) H fun b H2 => if b = true then te (cmpSt σ fr (some (.int (lo + i)))) H2 (CYes Pv D i n) else CNext Pv D i n H2)
    (hd : ∀ D ys H, H1 D = none → Pv D n ys H → Q (.ref D) H) : CompAt (Itr lo n) fr tt te σ Q H1 := by
  intro D hD
  refine ⟨fun i m H => m = n - i ∧ i ≤ n ∧ ∃ ys, Pv D i ys H, ⟨_, rfl, Nat.zero_le _, [], h0 D hD⟩, ?_⟩
  rintro i m H ⟨rfl, hi, ys, p⟩
  by_cases hlt : i < n
  · refine .inr ⟨hlt, fun x H' y => ?_⟩
    obtain ⟨e, y⟩ := y
    subst e; subst y
    exact hs D i ys _ hD hlt p
  · have e : i = n := by omega
    subst e
    exact .inl ⟨Nat.le_refl _, hd D ys H hD p⟩
end
end L2

namespace L2
open PySem PySem.Spec PyProof.Rows
/-! ### a list comprehension whose target is any (a tuple of names): k names of the target first, then the def's own that the block sees -/
structure CmpOkG (X : Cx) (N : List Str) (k : Nat) (fr : List Nat) (scope : Scope) (cl : List (Str × Addr)) : Prop where
  clos : closureFor scope X.env = pure cl
  kind : scope.kind = .function
  nocell : ∀ y ∈ scope.names, y.2 ≠ .cell
  names : ∀ y ∈ scope.names, y.2 = .local → scope.names.lookup y.1 = some .local
  len : N.length = k + fr.length
  sub : ∀ (i : Nat) (y : Str), N[k + i]? = some y → ∃ j, fr[i]? = some j ∧ X.N[j]? = some y ∧ (X.env.kindOf y = some .cell ∨ X.env.kindOf y = some .free) ∧ ((relabel scope X.env).names.lookup y = some .cell ∨ (relabel scope X.env).names.lookup y = some .free)
  cells : ∀ y c, cl.lookup y = some c → X.env.cells.lookup y = some c
  has : ∀ y, ((relabel scope X.env).names.lookup y = some .cell ∨ (relabel scope X.env).names.lookup y = some .free) → ∃ c, cl.lookup y = some c
theorem cmpOkG_plain {X : Cx} {N : List Str} {k : Nat} {scope : Scope} (len : N.length = k) (kind : scope.kind = .function) (nofree : ∀ y ∈ scope.names, y.2 ≠ .free) (nocell : ∀ y ∈ scope.names, y.2 ≠ .cell)
    (names : ∀ y ∈ scope.names, y.2 = .local → scope.names.lookup y.1 = some .local) : CmpOkG X N k [] scope [] := by
  have er : (relabel scope X.env).names = scope.names := map_eq_self fun y hy => by
    have z : (y.2 == NameKind.free) = false := by simpa using nofree y hy
    simp [z]
  have no : ∀ y, ¬ ((relabel scope X.env).names.lookup y = some .cell ∨ (relabel scope X.env).names.lookup y = some .free) := fun y h => by
    rw [er] at h
    rcases h with h | h
    · exact nocell _ (PySem.mem_of_lookup h) rfl
    · exact nofree _ (PySem.mem_of_lookup h) rfl
  refine ⟨closureFor_none nofree, kind, nocell, names, by rw [len]; rfl, fun i y e => ?_, (fun y c e => by cases e), fun y h => absurd h (no y)⟩
  have := (List.getElem?_eq_some_iff.mp e).1
  omega
def cmpStG (σ : St) (fr : List Nat) (ts : St) : St := ts ++ fr.map fun j => (σ[j]?).join
def CompAtG (J : It) (gt : TG) (k : Nat) (fr : List Nat) (tt : TT) (te : TE) (σ : St) (Q : VK) (H1 : Hp) : Prop := ∀ D, H1 D = none → ∃ W : Nat → Nat → Hp → Prop, (∃ m, W 0 m (upd H1 D (.lst []))) ∧ ∀ i m H, W i m H →
  (J.stop i H ∧ Q (.ref D) H) ∨ (J.go i H ∧ ∀ x H', J.yld i H x H' → ∀ ts : St, ts.length = k → gt x (cmpStG σ fr ts) H' fun σ2 H2 => (∃ ts2 : St, ts2.length = k ∧ σ2 = cmpStG σ fr ts2) ∧ tt σ2 H2 fun b H3 => if b = true then te σ2 H3 fun y H4 => ∃ ys, H4 D = some (.lst ys) ∧ ys.length < sizeLine ∧ ∃ m', m' < m ∧ W (i + 1) m' (upd H4 D (.lst (ys ++ [y])))
    else ∃ m', m' < m ∧ W (i + 1) m' H3)
def tCompG (wi : TI) (gt : TG) (k : Nat) (fr : List Nat) (tt : TT) (te : TE) : TE := fun σ H Q => wi σ H fun J H1 => CompAtG J gt k fr tt te σ Q H1
section
variable {X : Cx} {elt iter tg : Expr} {ifs : List Expr} {pos : Pos} {scope : Scope} {cl : List (Str × Addr)} {N : List Str} {k : Nat} {fr : List Nat} {gt : TG} {tt : TT} {te : TE}
theorem comp_coreG {pins : List (Addr × Obj)} {σ : St} {s2 : Shared} {H2 : Hp} {it : Addr} {fp : List Addr} {tn : Nat → Heap → Prop} {J : It} {Q : VK} {E : Value → Shared → Prop} {RR : Value → Addr → Result → Shared → Prop}
    (O : CmpOkG X N k fr scope cl) (hc : X.calm = true) (I2 : Inv X pins σ H2 s2) (T : Turn X.prog X.w X.K tg J fp it tn) (st2 : tn 0 s2.heap) (f2 : ∀ b ∈ fp, FpOk X pins H2 b)
    (ht : ∀ fp C s H, PIf (cmpCx X N scope cl fp C s H) ifs tt) (he : ∀ fp C s H, PE (cmpCx X N scope cl fp C s H) elt te)
    (hg : ∀ fp C s H, PG (cmpCx X N scope cl fp C s H) tg gt) (hW : CompAtG J gt k fr tt te σ Q H2)
    (fin : ∀ D C s' H', s2.heap.objs.size ≤ C → H' C = none → (∃ m, s'.heap.Ns C m) → Inv X pins σ H' s' → Q (.ref D) H' → RR (.ref D) C (.ok .next) s') :
    wpAny (model X.prog X.w) X.A (newList []) (fun acc s3 => wpAny (model X.prog X.w) X.A (newFunctionEnv scope X.env.globals cl [] X.env.qual none .none (some X.env)) (fun cenv s4 =>
      codeAny (model X.prog X.w) X.A (.compStart (.ListComp elt [⟨tg, iter, ifs, 0⟩] scope pos) 0 (.ref it) acc { cenv with scope := relabel scope X.env }) (RR acc cenv.locals) s4) E s3) E s2 := by
  refine wpAny_newObj_type (wpAny_newFunctionEnv O.nocell (by intro y hy; simp at hy) (fun h1 hns hsb => ?_) O.kind)
  dsimp only at hns hsb ⊢
  generalize hG : s2.heap.push { cls := .type "list", dict := none, data := .seq ([] : List Value).toArray } = G at hns hsb ⊢
  have hC : G.objs.size = s2.heap.objs.size + 1 := by rw [← hG, Heap.size_push]
  have old : ∀ b o, s2.heap.get? b = some o → h1.get? b = some o := fun b o e => hsb.extBut b o (Nat.ne_of_lt (by rw [hC]; exact Nat.lt_succ_of_lt (Heap.lt_size e))) (Heap.get?_push_of_some _ (hG ▸ Heap.get?_push_of_some _ e))
  have hacc : h1.get? s2.heap.objs.size = some { cls := .type "list", data := .seq ([] : List Value).toArray 0 } := hsb.extBut _ _ (Nat.ne_of_lt (by rw [hC]; exact Nat.lt_succ_self _)) (Heap.get?_push_of_some _ (hG ▸ Heap.get?_push_size _ rfl))
  have hD : H2 s2.heap.objs.size = none := I2.fresh
  have okX : (cmpCx X N scope cl fp G.objs.size s2 H2).Ok := by
    refine ⟨I2.ok.mod, O.kind, I2.ok.glob, I2.ok.blt, by show s2.heap.objs.size ≤ G.objs.size; rw [hC]; exact Nat.le_succ _, fun y z c e1 e2 => I2.ok.inj y z c (O.cells y c e1) (O.cells z c e2), fun y hy => O.has y hy, fun y c z => absurd (show false = true from z) Bool.false_ne_true, I2.ok.hd, I2.ok.frames, .inl rfl,
      fun b hb => ⟨?_, fun y c e => (f2 b hb).2.2.2.2.1 y c (O.cells y c e)⟩, I2.bs, Nat.le_trans I2.ok.bsz I2.sz, fun b o e hb => ?_, fun b hb z => ?_, I2.stack, I2.stkFree⟩
    · obtain ⟨o, e, _⟩ := T.obj _ _ st2 b hb
      show b ≠ G.objs.size
      exact Nat.ne_of_lt (by rw [hC]; exact Nat.lt_succ_of_lt (Heap.lt_size e))
    · rcases (f2 b hb).2.2.2.1 with z | z
      · exact I2.ok.noex b o e z
      · exact absurd (Nat.lt_of_lt_of_le (Heap.lt_size e) (Nat.le_trans I2.ok.bsz z)) (Nat.lt_irrefl _)
    · rcases List.mem_cons.mp (I2.stkSub b z) with z | z
      · exact (f2 b hb).2.1 z
      · exact (f2 b hb).2.2.1 z
  have statX : ∀ {H' : Hp}, (∀ b ∈ fp, H' b = none) → ∀ b ∈ fp, FpOk (cmpCx X N scope cl fp G.objs.size s2 H2) [] H' b := fun hn b hb =>
    ⟨hn b hb, (okX.exf b hb).1, okX.exfs b hb, .inl hb, (okX.exf b hb).2, fun p hp => absurd (show p ∈ ([] : List (Addr × Obj)) from hp) (by simp)⟩
  have I' : Inv (cmpCx X N scope cl fp G.objs.size s2 H2) [] (cmpStG σ fr (List.replicate k none)) (upd H2 s2.heap.objs.size (.lst [])) { s2 with heap := h1, toks := s2.toks + ([] : List (Str × Value)).length } := by
    refine ⟨okX, rfl, I2.bare, Un.laid old (Nat.le_refl _) hD, ⟨_, hns, fun i y v e1 e2 e3 => ?_⟩, fun y c e => ?_, ?_, fun y c e => ?_, fun p hp => absurd (show p ∈ ([] : List (Addr × Obj)) from hp) (by simp), I2.hok.laid old (Nat.le_refl _) ⟨Nat.zero_le _, [], 0, .nil, hacc⟩, ?_⟩
    · by_cases hik : i < k
      · have e2' : (List.replicate k none ++ fr.map fun j => (σ[j]?).join)[i]? = some (some v) := e2
        rw [List.getElem?_append_left (by rw [List.length_replicate]; exact hik), List.getElem?_replicate, if_pos hik] at e2'
        cases e2'
      · obtain ⟨j, q1, q2, q3, q4⟩ := O.sub (i - k) y (by rw [show k + (i - k) = i by omega]; exact e1)
        have e2' : (σ[j]?).join = some v := by
          have : (List.replicate k none ++ fr.map fun j => (σ[j]?).join)[i]? = some (some v) := e2
          rw [List.getElem?_append_right (by rw [List.length_replicate]; omega), List.length_replicate, List.getElem?_map, q1] at this
          exact Option.some.inj this
        have e4 : σ[j]? = some (some v) := by
          cases z : σ[j]? with
          | none => rw [z] at e2'; cases e2'
          | some t => rw [z] at e2'; exact congrArg some e2'
        obtain ⟨m, _, hl⟩ := I2.loc
        have vis : Vis X.env.scope y := .inr q3
        obtain ⟨u, r, l⟩ := hl j y v q2 e4 vis
        refine ⟨u, r, .inr ⟨q4, ?_⟩⟩
        obtain ⟨c', hc'⟩ := O.has y q4
        rcases l with ⟨k, _⟩ | ⟨_, c, ec, ic⟩
        · rcases q3 with z | z
          · rw [z] at k; cases k
          · rw [z] at k; cases k
        · have := O.cells y c' hc'
          have e' : c = c' := Option.some.inj (ec.symm.trans this)
          obtain ⟨o, ho, hd⟩ := ic
          rw [e'] at ho
          exact ⟨c', hc', o, old c' o ho, hd⟩
    · obtain ⟨v, o, ho, hd⟩ := I2.cell y c (O.cells y c e)
      exact ⟨v, o, old c o ho, hd⟩
    · show upd H2 s2.heap.objs.size (.lst []) G.objs.size = none
      rw [upd_ne (Nat.ne_of_gt (by rw [hC]; exact Nat.lt_succ_self _))]
      exact I2.hok.fresh (by rw [hC]; exact Nat.le_succ _)
    · obtain ⟨v, o, ho, hd⟩ := I2.cell y c (O.cells y c e)
      rw [upd_ne (Nat.ne_of_lt (Heap.lt_size ho))]
      exact I2.freeC y c (O.cells y c e)
    · show (cmpStG σ fr (List.replicate k none)).length = N.length
      rw [O.len]; simp [cmpStG]
  have st1 : tn 0 h1 := T.keep _ _ _ st2 fun b hb o e => old b o e
  have loop : ∀ s3 : Shared, s3 = { s2 with heap := h1, toks := s2.toks + ([] : List (Str × Value)).length } →
      codeAny (model X.prog X.w) X.A (.compLoop (.ListComp elt [⟨tg, iter, ifs, 0⟩] scope pos) 0 (.ref it) (.ref s2.heap.objs.size) (compEnvC scope cl G.objs.size X.env)) (RR (.ref s2.heap.objs.size) G.objs.size) s3 := by
    rintro s3 rfl
    obtain ⟨W, ⟨m0, w0⟩, turn⟩ := hW _ hD
    refine comp_turns (fun n s' => ∃ i ts H', ts.length = k ∧ Inv (cmpCx X N scope cl fp G.objs.size s2 H2) [] (cmpStG σ fr ts) H' s' ∧ tn i s'.heap ∧ (∀ b ∈ fp, H' b = none) ∧ W i n H') ?_ m0
      ⟨0, List.replicate k none, _, List.length_replicate, I', st1, fun b hb => by
        rw [upd_ne (by obtain ⟨o, e, _⟩ := T.obj _ _ st2 b hb; exact Nat.ne_of_lt (Heap.lt_size e))]
        exact (f2 b hb).1, w0⟩
    rintro n s' ⟨i, ts, H', hts, I3, st3, fr3, w3⟩
    rcases turn i n H' w3 with ⟨stop, qn⟩ | ⟨go, step⟩
    · refine thn (T.done (cmpCx X N scope cl fp G.objs.size s2 H2) rfl rfl rfl hc i [] s' _ H' _ I3 (statX fr3) st3 stop) fun r s4 ⟨hr, I4⟩ => ?_
      subst hr
      obtain ⟨m, hm, _⟩ := I4.loc
      refine fin _ _ s4 H' (by rw [hC]; exact Nat.le_succ _) I4.free ⟨m, hm⟩ (I2.call' (ch := fp) I4.os I4.base I4.hok I4.bare fun b hb => ?_) qn
      exact ⟨(f2 b hb).2.2.2.1, (f2 b hb).2.1, (f2 b hb).2.2.2.2.1, (f2 b hb).2.2.2.2.2⟩
    · refine thn (T.item (cmpCx X N scope cl fp G.objs.size s2 H2) rfl rfl rfl hc i [] s' _ H' _ I3 (statX fr3) st3 go) fun r s4 ⟨u, hr, h4⟩ => ?_
      subst hr
      refine thn h4 fun _ s5 ⟨y, H5, I5, r5, y5, st5, fr5⟩ => ?_
      have I5' := I5.pinned (statX fr5) (T.obj _ _ st5)
      refine thn (hg fp G.objs.size s2 H2 _ s5 _ H5 y u _ I5' r5 (step y H5 y5 ts hts)) fun _ s6 ⟨σ6, H6, I6, ⟨ts6, hts6, e6⟩, q6⟩ => ?_
      subst e6
      have again : ∀ {σ7 : St} {H7 : Hp} {s7 : Shared} {m' : Nat}, σ7 = cmpStG σ fr ts6 → Inv (cmpCx X N scope cl fp G.objs.size s2 H2) ([] ++ pinsAt fp s5.heap) σ7 H7 s7 → m' < n → W (i + 1) m' H7 →
          ∃ m, m < n ∧ ∃ i ts H', ts.length = k ∧ Inv (cmpCx X N scope cl fp G.objs.size s2 H2) [] (cmpStG σ fr ts) H' s7 ∧ tn i s7.heap ∧ (∀ b ∈ fp, H' b = none) ∧ W i m H' := fun {σ7 H7 s7 m'} e7 I7 hm w7 => by
        subst e7
        refine ⟨m', hm, i + 1, ts6, H7, hts6, I7.unpinned, T.keep _ _ _ st5 fun b hb o e => (I7.pin (b, o) (List.mem_append_right _ (List.mem_append_right _ (mem_pinsAt hb e)))).1, fun b hb => ?_, w7⟩
        obtain ⟨o, e, d⟩ := T.obj _ _ st5 b hb
        exact (I7.pin (b, o) (List.mem_append_right _ (List.mem_append_right _ (mem_pinsAt hb e)))).2.1
      refine thn (ht fp G.objs.size s2 H2 _ s6 _ H6 _ I6 q6) fun ok s7 ⟨H7, I7, q7⟩ => ?_
      cases ok with
      | false =>
        rw [if_neg Bool.false_ne_true] at q7 ⊢
        obtain ⟨m', hm, w7⟩ := q7
        exact again rfl I7 hm w7
      | true =>
        rw [if_pos rfl] at q7 ⊢
        refine thn (he fp G.objs.size s2 H2 _ s7 _ H7 _ I7 q7) fun u8 s8 ⟨v8, H8, I8, r8, ys, hys, hlen, m', hm, w8⟩ => ?_
        refine thn (mt_append (X := cmpCx X N scope cl fp G.objs.size s2 H2) _ s8 _ H8 (.ref s2.heap.objs.size) [v8] _ [u8] (fun _ H9 => W (i + 1) m' H9) I8 rfl (.cons r8 .nil) ⟨_, ys, v8, rfl, rfl, hys, hlen, w8⟩) fun _ s9 ⟨_, H9, I9, _, w9⟩ => ?_
        exact again rfl I9 hm w9
  exact codeAny_compStart_list (loop _ rfl) (T.self _ 0 _ _ _ st1 (loop _ rfl))
theorem pe_compG {wi : TI} (hi : PI X tg iter wi) (O : CmpOkG X N k fr scope cl) (hc : X.calm = true) (hg : ∀ fp C s H, PG (cmpCx X N scope cl fp C s H) tg gt) (ht : ∀ fp C s H, PIf (cmpCx X N scope cl fp C s H) ifs tt) (he : ∀ fp C s H, PE (cmpCx X N scope cl fp C s H) elt te)
    (hs : ∀ v, foldedSetIterable iter X.env v = pure v := by intro _; rfl) : PE X (.ListComp elt [⟨tg, iter, ifs, 0⟩] scope pos) (tCompG wi gt k fr tt te) := by
  intro pins s σ H Q I h
  rw [eval_ListComp]
  refine wpAny_comprehension_free (use := none) rfl hs O.clos O.kind O.names (thn (hi pins s σ H _ I h) fun v s1 h1 => thn h1 fun itv s2 h2 => ?_)
  obtain ⟨it, fp, tn, J, H2, e, I2, T, st2, f2, hW⟩ := h2
  subst e
  refine comp_coreG (RR := fun acc C => compPost (model X.prog X.w) X.A X.xe none (EP X pins σ Q) acc C) O hc I2 T st2 f2 ht he hg hW fun D C s' H' hC hn ⟨m, hm⟩ I' q => ?_
  exact ⟨m, hm, fun h' hs' => ⟨.ref D, H', I2.left I' hC hn hs', rfl, q⟩⟩
theorem compG_list {K : PySem.W.Frag} {a : Addr} {xs : List V} {σ : St} {H1 : Hp} {Q : VK} (Pv : Addr → Nat → List V → Hp → Prop) (h0 : ∀ D, H1 D = none → Pv D 0 [] (upd H1 D (.lst [])))
    (hk : ∀ D i ys H, H1 D = none → i ≤ xs.length → Pv D i ys H → SqL K H a xs)
    (hs : ∀ D i x ys H, H1 D = none → xs[i]? = some x → Pv D i ys H → ∀ ts : St, ts.length = k → gt x (cmpStG σ fr ts) H fun σ2 H2 => (∃ ts2 : St, ts2.length = k ∧ σ2 = cmpStG σ fr ts2) ∧ tt σ2 H2 fun b H3 => if b = true then te σ2 H3 (CYes Pv D i xs.length) else CNext Pv D i xs.length H3)
    (hd : ∀ D ys H, H1 D = none → Pv D xs.length ys H → Q (.ref D) H) : CompAtG (Itl K a) gt k fr tt te σ Q H1 := by
  intro D hD
  refine ⟨fun i m H => m = xs.length - i ∧ i ≤ xs.length ∧ ∃ ys, Pv D i ys H, ⟨_, rfl, Nat.zero_le _, [], h0 D hD⟩, ?_⟩
  rintro i m H ⟨rfl, hi, ys, p⟩
  have q := hk D i ys H hD hi p
  by_cases hlt : i < xs.length
  · refine .inr ⟨⟨xs, xs[i], q, by simp [hlt]⟩, fun x H' y => ?_⟩
    obtain ⟨e, y⟩ := y
    subst e
    exact hs D i x ys _ hD (y xs q) p
  · have e : i = xs.length := by omega
    subst e
    exact .inl ⟨⟨xs, q, Nat.le_refl _⟩, hd D ys H hD p⟩
end
theorem gTupK {X : Cx} {K : PySem.W.Frag} {es : List Expr} {k : Nat} {t : TGs} {n : Nat} {pos : Pos} (hK : X.K = K) (hc : X.calm = true) (h : PGs X es t) (hn : (assignEach es X.env).length = n := by rfl) (hst : (assignEach es X.env).findIdx? (·.1) = none := by rfl) : PG X (.Tuple es k pos) (gTup K n t) := hK ▸ pg_tup hc h hn hst
end L2

namespace Srt
open PySem PySem.W PyProof.Rows
/-- the tree's end under an oracle; each question is about places below n -/
def Ok (n : Nat) (lt : Nat → Nat → Bool) {α : Type} : KasT α → (α → Prop) → Prop
  | .ret a, Q => Q a
  | .ask i j k, Q => i < n ∧ j < n ∧ Ok n lt (k (lt i j)) Q
section
variable {n : Nat} {lt : Nat → Nat → Bool}
abbrev g (p : Array Nat) (i : Nat) : Nat := p.getD i 0
/-- p holds places below n alone -/
def Bd (n : Nat) (p : Array Nat) : Prop := 0 < n ∧ ∀ i, g p i < n
/-- ascending up to k; not ascending up to k -/
def Up (lt : Nat → Nat → Bool) (p : Array Nat) (k : Nat) : Prop := ∀ i j, i ≤ j → j < k → lt (g p j) (g p i) = false
def Dn (lt : Nat → Nat → Bool) (p : Array Nat) (k : Nat) : Prop := ∀ i j, i ≤ j → j < k → lt (g p i) (g p j) = false
structure Ord (lt : Nat → Nat → Bool) : Prop where
  tr : ∀ a b c, lt b a = false → lt c b = false → lt c a = false
  as : ∀ a b, lt a b = true → lt b a = false
/-- equal keys between a and b -/
def Eqs (lt : Nat → Nat → Bool) (p : Array Nat) (a b : Nat) : Prop := ∀ i j, a ≤ i → i < b → a ≤ j → j < b → lt (g p i) (g p j) = false
end
end Srt

namespace L2
open PySem PySem.Spec PySem.W PyProof.Rows
/-! ### sorted(..) of a short list of pairs of ints -/
def ltP (p q : Int × Int) : Bool := decide (p.1 < q.1) || (decide (p.1 = q.1) && decide (p.2 < q.2))
section
variable {prog : Program} {w : World} {A : Around} {E : Value → Shared → Prop} {s : Shared}
end
section
variable {X : Cx}
end
end L2

namespace L2
/-! ### both, gaps, without: the mathematics -/
/-- what the loop of both keeps: S told so far, A and B the rests -/
structure BothI (S A B A0 B0 : List Pr) : Prop where
  ap : Apart S
  aA : Apart A
  aB : Apart B
  mem : ∀ n, (inP A0 n && inP B0 n) = (inP S n || (inP A n && inP B n))
  gap : ∀ s ∈ S, (∀ p ∈ A, s.2 + 2 ≤ p.1) ∨ (∀ p ∈ B, s.2 + 2 ≤ p.1)
/-- what the loop of gaps keeps: F told so far of the spans T -/
structure GapI (F T : List Pr) (lo hi st : Int) : Prop where
  ap : Apart F
  lt : ∀ s ∈ F, s.2 + 2 ≤ st
  rng : ∀ s ∈ F, lo ≤ s.1 ∧ s.2 ≤ hi
  tk : ∀ p ∈ T, p.2 < st
  fr : st = lo ∨ ∃ p ∈ T, st = p.2 + 1
  ge : lo ≤ st
  mem : ∀ n, lo ≤ n → n ≤ hi → n < st → inP F n = !inP T n
end L2

namespace L2
/-! ### runs of pieces: the mathematics -/
/-- the pieces of a walk: each begins behind the one ahead of it -/
structure Walk (ts : List (Int × Int × Int)) : Prop where
  le : ∀ t ∈ ts, t.1 ≤ t.2.1
  nx : ∀ (i : Nat) a b, ts[i]? = some a → ts[i + 1]? = some b → b.1 = a.2.1 + 1
def pcs (msk : Int → Bool) (ts : List (Int × Int × Int)) (n : Int) : Bool := ts.any fun t => inR n (t.1, t.2.1) && msk t.2.2
/-- what the loop over the pieces keeps: R told of the first i pieces, at where the next one begins -/
structure RunI (R : List Pr) (ts : List (Int × Int × Int)) (msk : Int → Bool) (i : Nat) (at_ : Int) : Prop where
  ap : Apart R
  mem : ∀ n, inP R n = pcs msk (ts.take i) n
  lt : ∀ r ∈ R, r.2 < at_
  few : 2 * R.length ≤ i ∨ (2 * R.length ≤ i + 1 ∧ ∃ R' l, R = R' ++ [l] ∧ l.2 = at_ - 1)
section
variable {R : List Pr} {ts : List (Int × Int × Int)} {msk : Int → Bool} {i : Nat} {at_ : Int} {t : Int × Int × Int}
end
end L2

namespace L2
/-! ### edges: the mathematics -/
/-- each low, and the number behind each high -/
def ends (R : List Pr) : List Int := R.flatMap fun p => [p.1, p.2 + 1]
end L2

namespace L2
open PySem PySem.Spec PyProof.Rows
/-! ### sum of a list of ints; min of five ints -/
section
variable {X : Cx}
end
section
variable {prog : Program} {w : World} {A : Around} {E : Value → Shared → Prop} {s : Shared}
end
section
variable {X : Cx}
end
end L2

namespace L2
open PySem PySem.Spec PyProof.Rows
/-! ### texts: a loop over the signs, join, globals -/
/-- the signs of z, one by one -/
def Its (z : Str) : It := ⟨fun i _ => i < z.cps.size, fun i H x H' => H' = H ∧ ∃ c, z.cps[i]? = some c ∧ x = .str ⟨#[c]⟩, fun i _ => z.cps.size ≤ i⟩
theorem turn_ascii {P : Program} {w : World} {K : PySem.W.Frag} {tg : Expr} (z : Str) (t : Tok) (it : Addr) : Turn P w K tg (Its z) [it] it (fun i h => h.IsStrIter it "str_ascii_iterator" z t i) where
  mem := by simp
  obj := fun i h st b hb => by
    obtain ⟨o, e, c, d⟩ := st
    rw [show b = it by simpa using hb]
    exact ⟨o, e, fun v q => by rw [d] at q; cases q⟩
  keep := fun i h h' ⟨o, e, r⟩ k => ⟨o, k it (by simp) o e, r⟩
  item := by
    intro X hP hw hK hc i pins s σ H E I hf st hg
    subst hP hw hK
    have hlt : i < z.cps.size := hg
    have hi : z.cps[i]? = some z.cps[i] := Array.getElem?_eq_getElem hlt
    obtain ⟨f0, f1, f2, f3, f4, f5⟩ := hf it (by simp)
    refine wpAny_pyNext_ascii_item st hi fun h' st' sb => ?_
    have I1 : Inv X pins σ H { s with heap := h', toks := s.toks + 1 } := I.turned (t' := s.toks + 1) (fun b o hb e => (sb.2 b hb).trans e) f0 f1 f3 f4 f5
    obtain ⟨o, e, c, d⟩ := id st'
    exact ⟨_, rfl, go_of (s := { s with heap := h', toks := s.toks + 1 }) e c d (by decide) ⟨.str ⟨#[z.cps[i]]⟩, H, I1, ⟨_, rfl⟩, ⟨rfl, _, hi, rfl⟩, st', fun b hb => (hf b hb).1⟩⟩
  done := by
    intro X hP hw hK hc i pins s σ H E I hf st hg
    subst hP hw hK
    obtain ⟨f0, f1, f2, f3, f4, f5⟩ := hf it (by simp)
    exact wpAny_pyNext_ascii_end (I.ok.hd hc) st (by simpa using (show z.cps.size ≤ i from hg)) fun h' eb => ⟨rfl, I.turned (t' := s.toks) (fun b o hb e => eb b o hb e) f0 f1 f3 f4 f5⟩
  self := fun _ _ _ _ _ st h => wpAny_pyIter_striter_ascii st h
theorem turn_wide {P : Program} {w : World} {K : PySem.W.Frag} {tg : Expr} (z : Str) (t : Tok) (it : Addr) : Turn P w K tg (Its z) [it] it (fun i h => h.IsStrIter it "str_iterator" z t i) where
  mem := by simp
  obj := fun i h st b hb => by
    obtain ⟨o, e, c, d⟩ := st
    rw [show b = it by simpa using hb]
    exact ⟨o, e, fun v q => by rw [d] at q; cases q⟩
  keep := fun i h h' ⟨o, e, r⟩ k => ⟨o, k it (by simp) o e, r⟩
  item := by
    intro X hP hw hK hc i pins s σ H E I hf st hg
    subst hP hw hK
    have hlt : i < z.cps.size := hg
    have hi : z.cps[i]? = some z.cps[i] := Array.getElem?_eq_getElem hlt
    obtain ⟨f0, f1, f2, f3, f4, f5⟩ := hf it (by simp)
    refine wpAny_pyNext_wide_item st hi fun h' st' sb => ?_
    have I1 : Inv X pins σ H { s with heap := h', toks := s.toks + 1 } := I.turned (t' := s.toks + 1) (fun b o hb e => (sb.2 b hb).trans e) f0 f1 f3 f4 f5
    obtain ⟨o, e, c, d⟩ := id st'
    exact ⟨_, rfl, go_of (s := { s with heap := h', toks := s.toks + 1 }) e c d (by decide) ⟨.str ⟨#[z.cps[i]]⟩, H, I1, ⟨_, rfl⟩, ⟨rfl, _, hi, rfl⟩, st', fun b hb => (hf b hb).1⟩⟩
  done := by
    intro X hP hw hK hc i pins s σ H E I hf st hg
    subst hP hw hK
    obtain ⟨f0, f1, f2, f3, f4, f5⟩ := hf it (by simp)
    exact wpAny_pyNext_wide_end (I.ok.hd hc) st (by simpa using (show z.cps.size ≤ i from hg)) fun h' eb => ⟨rfl, I.turned (t' := s.toks) (fun b o hb e => eb b o hb e) f0 f1 f3 f4 f5⟩
  self := fun _ _ _ _ _ st h => wpAny_pyIter_striter_wide st h
section
variable {X : Cx} {tg : Expr}
def iStr (tl : TE) : PySem.W.Frag → St → Hp → (It → Hp → Prop) → Prop := fun _ σ H R => tl σ H fun x H1 => ∃ z, x = .str z ∧ R (Its z) H1
theorem pi_str {l : Expr} {tl : TE} (hl : PE X l tl) : PI X tg l (iStr tl X.K) := by
  intro pins s σ H R I h
  refine thn (hl pins s σ H _ I h) fun v s1 ⟨x, H1, I1, r1, q1⟩ => ?_
  obtain ⟨z, e, q⟩ := q1
  subst e
  obtain ⟨t, rfl⟩ := r1
  have fpo : ∀ b ∈ [s1.heap.objs.size], FpOk X pins H1 b := fun b hb => by
    rw [show b = s1.heap.objs.size by simpa using hb]
    exact I1.fpOk (Nat.le_refl _) (I1.hok.fresh (Nat.le_refl _))
  cases ha : z.cps.all (· < 128) with
  | true => exact wpAny_pyIter_ascii ha ⟨s1.heap.objs.size, [s1.heap.objs.size], _, _, H1, rfl, I1.kept (t' := s1.toks) fun b o e => Heap.get?_push_of_some _ e, turn_ascii z t _, ⟨_, Heap.get?_push_size _ rfl, rfl, rfl⟩, fpo, q⟩
  | false => exact wpAny_pyIter_wide ha ⟨s1.heap.objs.size, [s1.heap.objs.size], _, _, H1, rfl, I1.kept (t' := s1.toks) fun b o e => Heap.get?_push_of_some _ e, turn_wide z t _, ⟨_, Heap.get?_push_size _ rfl, rfl, rfl⟩, fpo, q⟩
end
theorem for_str {z : Str} {g : TG} {tb : TS} {D : Ends} {σ : St} {H : Hp} (Pv : Nat → St → Hp → Prop) (h0 : Pv 0 σ H)
    (hs : ∀ i c σ H, z.cps.toList[i]? = some c → Pv i σ H → g (.str ⟨#[c]⟩) σ H fun σ2 H2 => tb { D with nx := Pv (i + 1), ct := Pv (i + 1), bk := D.nx } σ2 H2) (hd : ∀ σ H, Pv z.cps.size σ H → D.nx σ H) :
    ∃ W : Nat → Nat → St → Hp → Prop, (∃ m, W 0 m σ H) ∧ ∀ i m σ H, W i m σ H →
      ((Its z).stop i H ∧ D.nx σ H) ∨ ((Its z).go i H ∧ ∃ N : St → Hp → Prop, (∀ σ' H', N σ' H' → ∃ m', m' < m ∧ W (i + 1) m' σ' H') ∧ ∀ x H', (Its z).yld i H x H' → g x σ H' fun σ2 H2 => tb { D with nx := N, ct := N, bk := D.nx } σ2 H2) := by
  refine ⟨fun i m σ H => m = z.cps.size - i ∧ i ≤ z.cps.size ∧ Pv i σ H, ⟨_, rfl, Nat.zero_le _, h0⟩, ?_⟩
  rintro i m σ H ⟨rfl, hi, p⟩
  by_cases hlt : i < z.cps.size
  · refine .inr ⟨hlt, Pv (i + 1), fun σ' H' p' => ⟨z.cps.size - (i + 1), by omega, rfl, hlt, p'⟩, fun x H' y => ?_⟩
    obtain ⟨e, c, y1, y2⟩ := y
    subst e; subst y2
    exact hs i c σ _ (by simpa using y1) p
  · have e : i = z.cps.size := by omega
    subst e
    exact .inl ⟨Nat.le_refl _, hd σ H p⟩
section
variable {X : Cx}
/-- sep.join(xs), xs a list of texts -/
def rJoin (K : PySem.W.Frag) : V → List V → Hp → VK → Prop := fun x vs H Q => ∃ (z : Str) (a : Addr) (ys : List Str), x = .str z ∧ vs = [.ref a] ∧ SqL K H a (ys.map V.str) ∧ z.length ≤ 64 ∧ (ys.map (·.length)).sum + ys.length * 64 ≤ 16777216 ∧ Q (.str (Txt.join z ys)) H
/-- a global whose value is known -/
theorem pe_gl {x : Str} {v : V} {pos : Pos} (hg : Gl X x) (h : ∃ u, X.mg x = some u ∧ RelV v u) (hd : (x == ("__debug__" : Str)) = false := by decide) : PE X (.Name x pos) (tC v) :=
  let ⟨_, m, r⟩ := h
  pe_glob hg m r hd
end
/-- a sign that stands in g -/
def sg (g : Str) (c : Nat) : Bool := !(Builtin.Str.occurrences g ⟨#[c]⟩ 0 g.length 1).isEmpty
def allIn (z g : Str) : Bool := z.cps.toList.all (sg g)
end L2

namespace L2
open PySem PySem.Spec PyProof.Rows PySem.NumText
/-! ### texts of numbers: slices, startswith, int(text), figures -/
section
variable {X : Cx}
/-- z[lo:hi] -/
def rSlS : V → Option Int → Option Int → Hp → VK → Prop := fun x lo hi H Q => ∃ z, x = .str z ∧ z.length ≤ sizeLine ∧ Q (.str (Txt.slice z lo hi)) H
def rStarts : V → List V → Hp → VK → Prop := fun x vs H Q => ∃ z y : Str, x = .str z ∧ vs = [.str y] ∧ Q (.bl (Txt.startswith z y)) H
end
/-! figures -/
/-- figures with no nought ahead -/
structure Figs (cs : List Nat) : Prop where
  all : AllDigits cs
  one : cs.length = 1 ∨ ∃ c r, cs = c :: r ∧ 49 ≤ c
/-- the signs of str(n) -/
def numCs (n : Int) (cs : List Nat) : List Nat := if n < 0 then 45 :: cs else cs
end L2

/-! ### the script's numbers are of a bounded size -/
namespace L2
open PySem PySem.Spec PyProof.Rows PySem.W
end L2

namespace L2
open PySem PySem.Spec PyProof.Rows
/-! ### exceptions of own classes: raised, passed on, caught -/
/-- an exception: its own record and the head of its trace -/
def ExcT (h : Heap) (e T : Addr) (cls a0 : Value) : Prop :=
  ∃ oe vs oT ts, h.get? e = some oe ∧ (oe.cls = cls ∧ vs[0]? = some a0) ∧ oe.data = .fields vs ∧ vs[1]? = some (.ref T) ∧ T ≠ e ∧ h.get? T = some oT ∧ oT.data = .fields ts ∧ ts[3]? = some .none
/-- what a step of a trace changes: the records at X, the slots of the frames at F -/
structure Stp (F X : List Addr) (h h' : Heap) : Prop where
  keep : ∀ b o, b ∉ F → b ∉ X → h.get? b = some o → h'.get? b = some o
  slot : ∀ b o, b ∈ F → h.get? b = some o → ∃ sl, h'.get? b = some { o with slots := sl }
section
variable {M : Model} {A : Around} {E : Value → Shared → Prop} {s : Shared} {base : Heap} {env : Env} {outer : List Env} {L e T : Addr} {oe : Obj} {vs : Array Value} {a0 cls : Value} {Q : Unit → Shared → Prop}
theorem hid_frames {base h : Heap} {l : List Env} (xs : List Addr) (ff : h.FunFrames base l) : h.FunFrames (PySem.W.hideAll h (xs ++ frs l)) l :=
  PySem.W.funFrames_hide ff fun v hv a ha => List.mem_append_right _ (List.mem_filterMap.mpr ⟨v, hv, ha⟩)
theorem new_head {base h h' : Heap} {l : List Env} {xs : List Addr} (ff : h.FunFrames base l) (hT : (PySem.W.hideAll h (xs ++ frs l)).get? T = none) (sl : ∀ b o, b ∈ frs l → h.get? b = some o → ∃ sl, h'.get? b = some { o with slots := sl })
    {oT : Obj} {ts : Array Value} (h1 : h'.get? T = some oT) (h2 : oT.data = .fields ts) : h.get? T = none ∨ T ∈ xs := by
  cases q : h.get? T with
  | none => exact .inl rfl
  | some o =>
    by_cases hx : T ∈ xs
    · exact .inr hx
    · by_cases hF : T ∈ frs l
      · obtain ⟨_, o2, q2, nf⟩ := ff.mem hF
        obtain ⟨sl', q3⟩ := sl T o2 hF q2
        rw [h1] at q3
        have q4 := Option.some.inj q3
        exact absurd (by rw [q4] at h2; exact h2) (nf ts)
      · have z := PySem.W.hideAll_get (xs ++ frs l) q (by simp [hx, hF])
        rw [hT] at z; cases z
/-- the exception lands in a frame: its entry, then out of flight -/
theorem land {E2 : Value → Shared → Prop} (hf : A.frames = some (env :: outer)) (ff : s.heap.FunFrames base (env :: outer)) (hL : env.frame = some L) (x : ExcT s.heap e T cls a0)
    (h : ∀ h' T', Stp (frs (env :: outer)) [e, T] s.heap h' → ExcT h' e T' cls a0 → (s.heap.get? T' = none ∨ T' = T) → Q () { s with heap := h' }) : wpAny M A (noteFrame (.ref e) env) (fun _ s2 => wpAny M A (setFlight (.ref e) none) Q E s2) E2 s := by
  obtain ⟨oe, vs, oT, ts, x1, x2, x3, x4, x5, x6, x7, x8⟩ := x
  refine wpAny_noteFrame_onW (base := PySem.W.hideAll s.heap ([e, T] ++ frs (env :: outer))) hf (hid_frames _ ff) hL ⟨oe, vs, T, oT, ts, x1, x2, x3, x4, PySem.W.hideAll_none _ (by simp), x5, x6, x7, x8⟩ (fun b o q => PySem.W.of_hideAll _ q) (PySem.W.hideAll_none _ (by simp)) fun h1 lw => ?_
  obtain ⟨st1, ff1, tr1, up1⟩ := lw
  refine wpAny_setFlight_noneW (s := { s with heap := h1 }) st1 ff1 tr1 fun h' st ff2 tr up => ?_
  obtain ⟨oe', vs', T', oT', ts', t1, t2, t3, t4, t5, t6, t7, t8, t9⟩ := tr
  have hslot : ∀ b o, b ∈ frs (env :: outer) → s.heap.get? b = some o → ∃ sl, h'.get? b = some { o with slots := sl } := fun b o hb q => by
    obtain ⟨_, o2, q2, nf⟩ := ff.mem hb
    rw [q] at q2; cases q2
    obtain ⟨sl, q3⟩ := up1 b o q nf
    exact ⟨sl, up b _ q3 nf⟩
  refine h h' T' ⟨fun b o hb hx q => st b o (PySem.W.hideAll_get _ q (by simp only [List.mem_append]; exact fun z => z.elim hx hb)), hslot⟩ ⟨oe', vs', oT', ts', t1, t2, t3, t4, t6, t7, t8, t9⟩ ?_
  rcases new_head ff t5 hslot t7 t8 with z | z
  · exact .inl z
  · rcases List.mem_cons.mp z with z | z
    · exact absurd z t6
    · exact .inr (by simpa using z)
theorem flight {l : List Env} (ff : s.heap.FunFrames base l) (x : ExcT s.heap e T cls a0)
    (h : ∀ h' T', Stp (frs l) [e, T] s.heap h' → ExcT h' e T' cls a0 → (s.heap.get? T' = none ∨ T' = T) → Q () { s with heap := h' }) : wpAny M A (setFlight (.ref e) none) Q E s := by
  obtain ⟨oe, vs, oT, ts, x1, x2, x3, x4, x5, x6, x7, x8⟩ := x
  refine wpAny_setFlight_noneW (base := PySem.W.hideAll s.heap ([e, T] ++ frs l)) (fun b o q => PySem.W.of_hideAll _ q) (hid_frames _ ff) ⟨oe, vs, T, oT, ts, x1, x2, x3, x4, PySem.W.hideAll_none _ (by simp), x5, x6, x7, x8⟩ fun h' st ff2 tr up => ?_
  obtain ⟨oe', vs', T', oT', ts', t1, t2, t3, t4, t5, t6, t7, t8, t9⟩ := tr
  have hslot : ∀ b o, b ∈ frs l → s.heap.get? b = some o → ∃ sl, h'.get? b = some { o with slots := sl } := fun b o hb q => by
    obtain ⟨_, o2, q2, nf⟩ := ff.mem hb
    rw [q] at q2; cases q2
    exact ⟨o.slots, up b _ q nf⟩
  refine h h' T' ⟨fun b o hb hx q => st b o (PySem.W.hideAll_get _ q (by simp only [List.mem_append]; exact fun z => z.elim hx hb)), hslot⟩ ⟨oe', vs', oT', ts', t1, t2, t3, t4, t6, t7, t8, t9⟩ ?_
  rcases new_head ff t5 hslot t7 t8 with z | z
  · exact .inl z
  · rcases List.mem_cons.mp z with z | z
    · exact absurd z t6
    · exact .inr (by simpa using z)
end
end L2

namespace L2
open PySem PySem.Spec PyProof.Rows
section
variable {P : Program} {w : World} {H H' : Hp} {h h' : Heap} {a : Addr} {o : HO} {F Y fs : List Addr}
theorem ObjOk.there (x : ObjOk P w H h a o) : ∃ ob, h.get? a = some ob := by
  cases o with
  | lst xs => obtain ⟨_, _, _, _, e⟩ := x; exact ⟨_, e⟩
  | tup xs => obtain ⟨_, _, _, ob, e, _⟩ := x; exact ⟨_, e⟩
  | dK kvs => obtain ⟨_, _, _, _, o, _, _, e, _⟩ := x; exact ⟨_, e⟩
  | dT kvs => obtain ⟨_, _, _, _, o, _, _, e, _⟩ := x; exact ⟨_, e⟩
  | set S n => obtain ⟨o, _, _, _, e, _⟩ := x; exact ⟨_, e⟩
  | ins C dx fs => obtain ⟨_, _, _, e, _⟩ := x; exact ⟨_, e⟩
  | own y => obtain ⟨_, e⟩ := x; exact ⟨_, e⟩
  | xd fs => obtain ⟨_, ⟨_, _, _, e, _⟩, _⟩ := x; exact ⟨_, e⟩
  | rng lo hi => obtain ⟨_, _, _, e⟩ := x; exact ⟨_, e⟩
  | frz ob u => obtain ⟨e, _⟩ := x; exact ⟨_, e⟩
  | tbl ps => exact ⟨_, (show h.get? a = some _ from x)⟩
  | met f y => exact ⟨_, (show h.get? a = some _ from x)⟩
  | ext φ => obtain ⟨_, ⟨_, e⟩, _⟩ := x; exact ⟨_, e⟩
theorem HOk.none_of (x : HOk P w H h) (e : h.get? a = none) : H a = none := by
  cases q : H a with
  | none => rfl
  | some u =>
    obtain ⟨ob, z⟩ := (x a u q).there
    rw [e] at z; cases z
theorem HOk.stp (x : HOk P w H h) (st : Stp F Y h h') (hF : ∀ b ∈ F, H b = none) (hY : ∀ b ∈ Y, H b = none) : HOk P w H h' := fun a o e =>
  (x a o e).stay (fun b u hb q => by
    have hn : H b ≠ none := by
      rcases hb with rfl | hb
      · rw [e]; simp
      · rw [hb]; simp
    exact st.keep b u (fun z => hn (hF b z)) (fun z => hn (hY b z)) q) (fun _ q => q) fun _ _ q => q
theorem Un.stp {H0 : Hp} {h0 : Heap} (u : Un fs [] H0 H h0 h) (st : Stp F Y h h') (h1 : ∀ b o, h0.get? b = some o → b ∈ F → b ∈ fs) (h2 : ∀ b ∈ fs, b ∈ F) (hY : ∀ b ∈ Y, h0.get? b = none) : Un fs [] H0 H h0 h' := by
  have nY : ∀ b o, h0.get? b = some o → b ∉ Y := fun b o q z => by rw [hY b z] at q; cases q
  refine ⟨fun b o q n hb hx => st.keep b o (fun z => hb (h1 b o q z)) (nY b o q) (u.keep b o q n hb hx), fun b o q n hb hx => ?_, u.free, fun b o q hx => ?_, u.tups, u.frzs, u.tbls⟩
  · obtain ⟨sl, q1⟩ := u.slot b o q n hb hx
    obtain ⟨sl2, q2⟩ := st.slot b _ (h2 b hb) q1
    exact ⟨sl2, q2⟩
  · obtain ⟨o1, q1⟩ := u.there b o q hx
    by_cases hF : b ∈ F
    · obtain ⟨sl2, q2⟩ := st.slot b _ hF q1
      exact ⟨_, q2⟩
    · exact ⟨_, st.keep b o1 hF (nY b o q) q1⟩
end
/-- how an exception of an own class lies behind a call -/
def CX1 (P : Program) (w : World) : CXT := fun outer H s E ev s' => ∃ (e T C : Addr) (a0 : Value) (H' : Hp), ev = .ref e ∧ s'.os = s.os ∧ AllBare s'.gens ∧ Un (frs outer) [] H H' s.heap s'.heap ∧ HOk P w H' s'.heap ∧
  ExcT s'.heap e T (.ref C) a0 ∧ s.heap.get? e = none ∧ s.heap.get? T = none ∧ H' e = none ∧ H' T = none ∧ E (.ref C) none H'
/-- a record that is new to a body, not its frame's, not pinned -/
structure NewAt (X : Cx) (pins : List (Addr × Obj)) (H : Hp) (b : Addr) : Prop where
  ent : X.s₀.heap.get? b = none
  unt : H b = none
  loc : b ≠ X.env.locals
  cel : ∀ x c, X.env.cells.lookup x = some c → c ≠ b
  pin : ∀ p ∈ X.pn ++ pins, p.1 ≠ b
section
variable {X : Cx} {pins : List (Addr × Obj)} {σ : St} {H : Hp} {s : Shared} {h' : Heap} {e T : Addr}
/-- what isn't there yet is new to the body -/
theorem Inv.newAt (I : Inv X pins σ H s) (hx : X.ex = []) {b : Addr} (hb : s.heap.get? b = none) : NewAt X pins H b := by
  refine ⟨?_, I.hok.none_of hb, ?_, ?_, ?_⟩
  · cases q : X.s₀.heap.get? b with
    | none => rfl
    | some o =>
      obtain ⟨o', q'⟩ := I.base.there b o q (by rw [hx]; simp)
      rw [hb] at q'; cases q'
  · rintro rfl
    obtain ⟨m, ⟨o, _, _, q, _⟩, _⟩ := I.loc
    rw [hb] at q; cases q
  · rintro x c hc rfl
    obtain ⟨v, o, q, _⟩ := I.cell x c hc
    rw [hb] at q; cases q
  · rintro p hp rfl
    obtain ⟨q, _⟩ := I.pin p hp
    rw [hb] at q; cases q
theorem Inv.excStep (I : Inv X pins σ H s) (hx : X.ex = []) (st : Stp (frs X.stack) [e, T] s.heap h') (ne : NewAt X pins H e) (nT : NewAt X pins H T) : Inv X pins σ H { s with heap := h' } := by
  have nY : ∀ b ∈ [e, T], NewAt X pins H b := fun b hb => by
    rcases List.mem_cons.mp hb with rfl | hb
    · exact ne
    · rw [show b = T by simpa using hb]; exact nT
  have hsub : ∀ b, b ≠ X.env.locals → b ∉ X.fs → b ∉ frs X.stack := fun b h1 h2 z => (List.mem_cons.mp (I.stkSub b z)).elim h1 h2
  have entY : ∀ b o, X.s₀.heap.get? b = some o → b ∉ [e, T] := fun b o q z => by rw [(nY b z).ent] at q; cases q
  have neL : ∀ b o, X.s₀.heap.get? b = some o → b ≠ X.env.locals := fun b o q => Nat.ne_of_lt (Nat.lt_of_lt_of_le (Heap.lt_size q) I.ok.above)
  have any : ∀ b o, b ∉ [e, T] → s.heap.get? b = some o → ∃ sl, h'.get? b = some { o with slots := sl } := fun b o hy q => by
    by_cases hF : b ∈ frs X.stack
    · exact st.slot b o hF q
    · exact ⟨o.slots, st.keep b o hF hy q⟩
  have cellK : ∀ x c, X.env.cells.lookup x = some c → ∀ v, s.heap.IsCell c v → h'.IsCell c v := fun x c ec v ⟨o, ho, hd⟩ => by
    obtain ⟨sl, q⟩ := any c o (fun z => (nY c z).cel x c ec rfl) ho
    exact ⟨_, q, hd⟩
  refine ⟨I.ok, I.os, I.bare, ⟨fun b o q n hb hxx => ?_, fun b o q n hb hxx => ?_, I.base.free, fun b o q hxx => ?_, I.base.tups, I.base.frzs, I.base.tbls⟩, ?_, fun x c ec => ?_, I.free, I.freeC, fun p hp => ?_, I.hok.stp st I.stkFree (fun b hb => (nY b hb).unt), I.len⟩
  · exact st.keep b o (hsub b (neL b o q) hb) (entY b o q) (I.base.keep b o q n hb hxx)
  · obtain ⟨sl, q1⟩ := I.base.slot b o q n hb hxx
    obtain ⟨sl2, q2⟩ := any b _ (entY b o q) q1
    exact ⟨sl2, q2⟩
  · obtain ⟨o1, q1⟩ := I.base.there b o q hxx
    obtain ⟨sl2, q2⟩ := any b _ (entY b o q) q1
    exact ⟨_, q2⟩
  · obtain ⟨m, ⟨oL, es, ep, hoL, r⟩, hl⟩ := I.loc
    obtain ⟨sl, q⟩ := any X.env.locals oL (fun z => (nY _ z).loc rfl) hoL
    refine ⟨m, ⟨_, es, ep, q, r⟩, fun i x v e1 e2 e3 => ?_⟩
    obtain ⟨u, ru, l⟩ := hl i x v e1 e2 e3
    refine ⟨u, ru, ?_⟩
    rcases l with l | ⟨k, c, ec, z⟩
    · exact .inl l
    · exact .inr ⟨k, c, ec, cellK x c ec _ z⟩
  · obtain ⟨v, z⟩ := I.cell x c ec
    exact ⟨v, cellK x c ec v z⟩
  · obtain ⟨q, n, nL, nf, d⟩ := I.pin p hp
    exact ⟨st.keep p.1 p.2 (hsub p.1 nL nf) (fun z => (nY _ z).pin p hp rfl) q, n, nL, nf, d⟩
end
/-! raise -/
/-- a class of the text below a built-in exception -/
structure ExcCls (K : PySem.W.Frag) (C : Addr) : Prop where
  ex : ∃ (bmB bmN : List Value) (newId B Bn nid initId inN : String), PySem.W.excIn K C bmB newId = true ∧ ExcBaseFacts Bn newId inN bmN ∧ bmB.contains (Value.type Bn) = true ∧ ExcBaseFacts B nid initId bmB
theorem ExcCls.value {K : PySem.W.Frag} {C : Addr} (h : PySem.W.excIn K C [.type "ValueError", .type "Exception", .type "BaseException", .type "object"] "ValueError.__new__" = true) : ExcCls K C :=
  ⟨_, _, _, _, _, _, _, _, h, PySem.F.excBase_ValueError, by decide, PySem.F.excBase_ValueError⟩
theorem ExcCls.obj {K : PySem.W.Frag} {C : Addr} {h : Heap} {bmB : List Value} {newId : String} (KI : K.In h) (e : PySem.W.excIn K C bmB newId = true) : ∃ bm N nm q bs hdct sn sub ab col dd k0 k1 k2 k3 k5 mN,
      h.get? C = some (excClassObj nm q C N bs bm hdct sn sub ab col dd k0 k1 k2 k3 k5 newId) ∧ h.Ns N mN ∧ mN "__init__" = none ∧ OwnTail h bmB bm := by
  unfold PySem.W.excIn at e
  split at e
  · rename_i dd cd sl lk
    split at e
    · rename_i C' bm k0 k1 k2 k3 n k5 em es
      simp only [Bool.and_eq_true, beq_iff_eq, Bool.not_eq_true'] at e
      obtain ⟨⟨⟨⟨⟨rfl, rfl⟩, hd⟩, ht⟩, hn⟩, hi⟩ := e
      obtain ⟨nm, bs, mro, ns, q, hdct, sn, sub, ab, col, hdel⟩ := cd
      dsimp only at em hd ht hn hi
      subst em hd
      have hsl : sl = #[k0, k1, k2, k3, some (Value.builtin n), k5] := by
        apply Array.toList_inj.mp
        rw [es]
      subst hsl
      exact ⟨bm, ns, nm, q, bs, hdct, sn, sub, ab, col, dd, k0, k1, k2, k3, k5, _, KI _ _ lk, Heap.Ns.of_isNs (PySem.W.isNs_of_in KI hn), PySem.W.nsMap_none_of_in KI hn hi, PySem.W.tail_of_in KI ht⟩
    · cases e
  · cases e
section
variable {P : Program} {w : World} {K : PySem.W.Frag} {mg : Str → Option Value} {base : Heap} {N : List Str} {qual : Str} {scope : Scope} {f : Addr} {cd : Value} {A : Around} {outer : List Env} {s0 : Shared} {H0 : Hp} {E : XK}
def tRaise (C : Addr) (E : XK) (t : TA) : TS := fun _ σ H => t σ H fun vs H1 => vs.length ≤ sizeLine ∧ E (.ref C) none H1
end
end L2

namespace L2
open PySem PySem.Spec PyProof.Rows
/-! ### a call that may raise; try with one except clause -/
/-- behind an exception, in the frame that sees it -/
def XP (X : Cx) (pins : List (Addr × Obj)) (σ : St) (EX : Addr → Hp → Prop) (ev : Value) (s' : Shared) : Prop :=
  ∃ (e T C : Addr) (a0 : Value) (H' : Hp), ev = .ref e ∧ Inv X pins σ H' s' ∧ ExcT s'.heap e T (.ref C) a0 ∧ NewAt X pins H' e ∧ NewAt X pins H' T ∧ EX C H'
abbrev TX := St → Hp → VK → (Addr → Hp → Prop) → Prop
def PEX (X : Cx) (e : Expr) (t : TX) : Prop :=
  ∀ (pins : List (Addr × Obj)) (s : Shared) (σ : St) (H : Hp) (Q : VK) (EX : Addr → Hp → Prop), Inv X pins σ H s → t σ H Q EX → wpAny (model X.prog X.w) X.A (eval e X.env) (EP X pins σ Q) (XP X pins σ EX) s
/-- a def that may raise, bundled -/
def CalleeX (P : Program) (w : World) (K : PySem.W.Frag) (mg : Str → Option Value) (base : Heap) (k : Nat) (x : Str) (ps : List Str) (sp : Sp) : Prop :=
  ∃ f fd, FnOk P w K mg base (CX1 P w) k f fd ps sp ∧ Binds K fd ps [] ∧ PySem.W.keepIn K (.ref f) = true ∧ mg x = some (.ref f)
theorem CalleeX.mono {P : Program} {w : World} {K : PySem.W.Frag} {mg : Str → Option Value} {base : Heap} {j k : Nat} {x : Str} {ps : List Str} {sp : Sp} (C : CalleeX P w K mg base j x ps sp) (h : j ≤ k) : CalleeX P w K mg base k x ps sp :=
  let ⟨f, fd, F, r⟩ := C
  ⟨f, fd, F.mono h, r⟩
section
variable {X : Cx} {pins : List (Addr × Obj)} {σ : St} {H : Hp} {s s' : Shared}
/-- an exception of a callee comes back -/
theorem Inv.afterX {E : XK} {EX : Addr → Hp → Prop} {ev : Value} (I : Inv X pins σ H s) (hx : X.ex = []) (hE : ∀ C H', E (.ref C) none H' → EX C H') (h : CX1 X.prog X.w X.stack H s E ev s') : XP X pins σ EX ev s' := by
  obtain ⟨e, T, C, a0, H', rfl, os, bare, un, hok, x, ne, nT, he, hT, q⟩ := h
  have I' : Inv X pins σ H' s' := I.call' (ch := []) os un hok bare fun b z => absurd z (by simp)
  have a := I.newAt hx ne
  have b := I.newAt hx nT
  exact ⟨e, T, C, a0, H', rfl, I', x, ⟨a.ent, he, a.loc, a.cel, a.pin⟩, ⟨b.ent, hT, b.loc, b.cel, b.pin⟩, hE _ _ q⟩
end
section
variable {X : Cx} {k : Nat} {x : Str} {ps : List Str} {sp : Sp} {e : Expr} {es : List Expr} {t : TA} {p pos : Pos}
def tFnX (sp : Sp) (t : TA) : TX := fun σ H Q EX => t σ H fun vs H1 => sp vs H1 Q fun cv _ H2 => ∃ C, cv = .ref C ∧ EX C H2
abbrev TSX := Ends → St → Hp → (Addr → Hp → Prop) → Prop
/-- a statement that may raise, at the state it was begun with -/
def PSX (X : Cx) (st : Stmt) (t : TSX) : Prop :=
  ∀ (pins : List (Addr × Obj)) (s : Shared) (σ : St) (H : Hp) (D : Ends) (EX : Addr → Hp → Prop), Inv X pins σ H s → t D σ H EX → wpAny (model X.prog X.w) X.A (exec st X.env) (SP X pins D) (XP X pins σ EX) s
def tSetX (i : Nat) (te : TX) : TSX := fun D σ H EX => te σ H (fun v H1 => D.nx (σ.set i (some v)) H1) EX
def tDropX (te : TX) : TSX := fun D σ H EX => te σ H (fun _ H1 => D.nx σ H1) EX
theorem psx_expr {e : Expr} {te : TX} (he : PEX X e te) (hs : swapsWith e none pos.line X.env = pure false := by rfl) : PSX X (.Expr e pos) (tDropX te) := by
  intro pins s σ H D EX I h
  exact wpAny_Expr_any (thn (he pins s σ H _ EX I h) fun v s1 ⟨x, H1, I1, r1, q1⟩ => ⟨σ, H1, I1, q1⟩) I.quiet hs
end
/-! the except suite -/
/-- its context: the exception is handled, its record is pinned -/
def sfx (X : Cx) (e : Addr) (oe : Obj) : Cx := { X with A := X.A.mark (some (.ref e)), calm := false, pn := (e, oe) :: X.pn, xe := fun _ _ => False }
section
variable {X : Cx} {pins : List (Addr × Obj)} {σ : St} {H : Hp} {s s' : Shared} {e : Addr} {oe : Obj}
theorem Inv.suite (I : Inv X pins σ H s) (he : s.heap.get? e = some oe) (hn : NewAt X pins H e) (hd : ∀ v, oe.data ≠ .cell v) (hf : e ∉ X.fs) : Inv (sfx X e oe) pins σ H s := by
  refine ⟨⟨I.ok.mod, I.ok.kind, I.ok.glob, I.ok.blt, I.ok.above, I.ok.inj, I.ok.has, I.ok.cab, fun z => absurd z Bool.false_ne_true, I.ok.frames, I.ok.stk, I.ok.exf, I.ok.bs, I.ok.bsz, I.ok.noex, I.ok.exfs, I.ok.funs, I.ok.frf⟩, I.os, I.bare, I.base, I.loc, I.cell, I.free, I.freeC, fun p hp => ?_, I.hok, I.len⟩
  rcases List.mem_cons.mp (show p ∈ (e, oe) :: (X.pn ++ pins) from hp) with rfl | hp
  · exact ⟨he, hn.unt, hn.loc, hf, hd⟩
  · exact I.pin p hp
theorem Inv.unsuite (ok : X.Ok) (I : Inv (sfx X e oe) pins σ H s) : Inv X pins σ H s :=
  ⟨ok, I.os, I.bare, I.base, I.loc, I.cell, I.free, I.freeC, fun p hp => I.pin p (List.mem_cons_of_mem (e, oe) hp), I.hok, I.len⟩
theorem Inv.excObj (I : Inv (sfx X e oe) pins σ H s) : s.heap.get? e = some oe := (I.pin (e, oe) (List.mem_append_left _ List.mem_cons_self)).1
/-- the frame's map has changed at one name -/
theorem Inv.unbound {i : Nat} {x : Str} {m : Str → Option Value} {u : Option Value} {h' : Heap} (I : Inv X pins σ H s) (hi : X.N[i]? = some x) (hN : X.N.Nodup) (hm : s.heap.Ns X.env.locals m) (ns : h'.Ns X.env.locals fun y => if y = x then u else m y) (hs : Heap.SameBut X.env.locals s.heap h') :
    Inv X pins (σ.set i none) H { s with heap := h' } := by
  have cne := I.cne
  obtain ⟨oL, _, _, hoL, _⟩ := id hm
  refine ⟨I.ok, I.os, I.bare, ⟨fun b o e n hb hx => ?_, fun b o e n hb hx => ?_, I.base.free, fun b o e hx => ?_, I.base.tups, I.base.frzs, I.base.tbls⟩, ⟨_, ns, fun j y v' e1 e2 e3 => ?_⟩, fun y c e => ?_, I.free, I.freeC, fun p hp => ?_, ?_, by simpa using I.len⟩
  · exact (hs.2 b (Nat.ne_of_lt (Nat.lt_of_lt_of_le (Heap.lt_size e) I.ok.above))).trans (I.base.keep b o e n hb hx)
  · obtain ⟨sl, e1⟩ := I.base.slot b o e n hb hx
    exact ⟨sl, (hs.2 b (Nat.ne_of_lt (Nat.lt_of_lt_of_le (Heap.lt_size e) I.ok.above))).trans e1⟩
  · obtain ⟨o', e1⟩ := I.base.there b o e hx
    exact ⟨o', (hs.2 b (Nat.ne_of_lt (Nat.lt_of_lt_of_le (Heap.lt_size e) I.ok.above))).trans e1⟩
  · by_cases hj : j = i
    · subst hj
      by_cases hlt : j < σ.length
      · rw [List.getElem?_set_self hlt] at e2; cases e2
      · rw [List.getElem?_eq_none (by simpa using hlt)] at e2; cases e2
    · rw [List.getElem?_set_ne (Ne.symm hj)] at e2
      obtain ⟨m2, hm2, hl⟩ := I.loc
      obtain ⟨u', r', q⟩ := hl j y v' e1 e2 e3
      have em : m2 = m := by rw [hm2.eq_nsMap, hm.eq_nsMap]
      subst em
      refine ⟨u', r', ?_⟩
      rcases q with ⟨k, e⟩ | ⟨k, c, e, z⟩
      · refine .inl ⟨k, ?_⟩
        have : y ≠ x := fun e => hj (nodup_ix hN e1 (e ▸ hi))
        simp [this, e]
      · exact .inr ⟨k, c, e, z.sameBut hs (cne y c e)⟩
  · obtain ⟨w', z⟩ := I.cell y c e
    exact ⟨w', z.sameBut hs (cne y c e)⟩
  · obtain ⟨e, n, ne, nf, d⟩ := I.pin p hp
    exact ⟨(hs.2 p.1 ne).trans e, n, ne, nf, d⟩
  · intro b ob e
    refine (I.hok b ob e).stay (fun c w' hc q => (hs.2 c ?_).trans q) (fun _ q => q) fun _ _ q => q
    rintro rfl
    rcases hc with rfl | hc
    · rw [I.free] at e; cases e
    · rw [I.free] at hc; cases hc
end

section
variable {X : Cx} {pins : List (Addr × Obj)} {σ : St} {H : Hp} {s : Shared}
/-- behind the suite: the name is unbound -/
theorem unbind_ok {M : Model} {A : Around} {E : Value → Shared → Prop} {i : Nat} {x : Str} {pos : Pos} {Q : Unit → Shared → Prop} (I : Inv X pins σ H s) (hN : X.N.Nodup) (hi : X.N[i]? = some x) (hk : X.env.scope.names.lookup x = some .local)
    (h : ∀ s', Inv X pins (σ.set i none) H s' → Q () s') : wpAny M A (do bindName X.env x Value.none; unbindBehindTheSuite X.env x pos) Q E s := by
  refine wpAny_bind (wpAny_bindName (store_ok I hN hi (.inl hk) (v := .non) (u := Value.none) rfl (fun s1 I1 => ?_) (.inr hk)))
  refine wpAny_onRaise ?_
  obtain ⟨m, hm, hl⟩ := I1.loc
  have hiσ : i < σ.length := by rw [I.len]; exact (List.getElem?_eq_some_iff.mp hi).1
  obtain ⟨u, ru, l⟩ := hl i x .non hi (by rw [List.getElem?_set_self hiσ]) (.inl hk)
  have hcls : (X.env.scope.kind == .class || (X.env.scope.kind == .module && X.env.locals != X.env.globals)) = false := by rw [I.ok.kind]; rfl
  rcases l with ⟨k, em⟩ | ⟨k, _⟩
  · refine wpAny_unbindName_local hk hm em hcls fun h' v ns sb => ?_
    have J := I1.unbound hi hN hm ns sb
    rw [List.set_set] at J
    exact h _ J
  · exfalso
    have hk' : X.env.kindOf x = some .local := hk
    rcases k with k | k
    · rw [hk'] at k; cases k
    · rw [hk'] at k; cases k
end
def tTry (i : Nat) (B : Addr) (K : PySem.W.Frag) (G : Addr → Prop) (tb : TSX) (ts : Addr → Addr → TS) : TS := fun D σ H => tb D σ H fun C H1 => PySem.W.exmOne K (.ref C) (.ref B) = some true ∧ G C ∧
  ∀ e, ts C e { nx := fun σ' H' => D.nx (σ'.set i none) H', rt := D.rt, bk := fun σ' H' => D.bk (σ'.set i none) H', ct := fun σ' H' => D.ct (σ'.set i none) H' } (σ.set i (some (.ref e))) H1
section
variable {X : Cx} {st b₀ : Stmt} {su : List Stmt} {tb : TSX} {ts : Addr → Addr → TS} {Tn n : Str} {B : Addr} {i : Nat} {np hpos pos : Pos}
theorem ps_try {G : Addr → Prop} (hb : PSX X st tb) (hx : X.ex = []) (hst : X.stack = X.env :: X.outer) (hfr : X.env.frame = some X.env.locals) (hg : Gl X Tn) (hm : X.mg Tn = some (.ref B)) (hN : X.N.Nodup) (hi : X.N[i]? = some n) (hk : X.env.scope.names.lookup n = some .local)
    (hs : ∀ (C e : Addr) (oe : Obj), G C → oe.cls = .ref C → PSs (sfx X e oe) (b₀ :: su) (ts C e)) (hdb : (Tn == ("__debug__" : Str)) = false := by decide) :
    PS X (.Try [st] [.ExceptHandler (some (.Name Tn np)) (some n) (b₀ :: su) hpos] [] [] pos) (tTry i B X.K G tb ts) := by
  intro pins s σ H D I h
  refine wpAny_Try_except ?_
  refine wpAny_execs_cons (wpAny_mono (hb pins s σ H D _ I h) (fun f s1 q => ?_) fun ev s1 q => ?_)
  · cases f with
    | next => exact wpAny_execs_nil (wpAny_execs_nil q)
    | ret v => exact q
    | brk => exact q
    | cont => exact q
  obtain ⟨e, T, C, a0, H1, rfl, I1, x, ne, nT, hex, hG, q⟩ := q
  have fr1 : X.A.frames = some (X.env :: X.outer) := by rw [← hst]; exact I1.ok.frames
  have ff1 : s1.heap.FunFrames X.base (X.env :: X.outer) := by rw [← hst]; exact I1.stack
  refine land fr1 ff1 hfr x fun h2 T2 st2 x2 hT2 => ?_
  rw [← hst] at st2
  have I2 := I1.excStep hx st2 ne nT
  have nT2 : NewAt X pins H1 T2 := by
    rcases hT2 with z | z
    · exact I1.newAt hx z
    · rw [z]; exact nT
  -- the exception's record
  have notFs : ∀ {b : Addr} {o : Obj} {vs : Array Value} {hh : Heap}, hh.FunFrames X.base X.stack → hh.get? b = some o → o.data = .fields vs → b ∉ X.fs := fun {b o vs hh} ff g d z => by
    have z' : b ∈ frs X.stack := by rw [hst]; unfold frs; rw [List.filterMap_cons, hfr]; exact List.mem_cons_of_mem _ z
    obtain ⟨_, o2, g2, nf⟩ := ff.mem z'
    rw [g] at g2; cases g2
    exact nf vs d
  have I2' := I2
  obtain ⟨oe, vs, oT, ts2, y1, ⟨y2, y2'⟩, y3, y4, y5, y6, y7, y8⟩ := id x2
  have S2 : Inv (sfx X e oe) pins σ H1 { s1 with heap := h2 } := I2.suite y1 ne (fun v z => by rw [y3] at z; cases z) (notFs I2.stack y1 y3)
  refine wpAny_handleBy_cons ?_ (by intro z; cases z)
  refine codeAny_handlers_test (ld_glob (X := sfx X e oe) S2 hg hm ?_ hdb)
  refine PySem.W.exm_one (h := h2) S2.kIn (fun A' Q' E' s' k r => by
    have z := wpAny_typeOf_ref (M := model X.prog X.w) (A := A') (E := E') (Q := Q') (k _ _ y1)
    rw [y2] at z
    exact z r) hex _ _ _ _ (fun b o g => g) ?_
  rw [if_pos rfl]
  refine codeAny_handlers_suite_as ?_
  refine flight (s := { s1 with heap := h2 }) (l := X.stack) I2.stack x2 fun h3 T3 st3 x3 hT3 => ?_
  have I3 := I2.excStep hx st3 ne nT2
  obtain ⟨oe3, vs3, oT3, ts3, z1, ⟨z2, z2'⟩, z3, z4, z5, z6, z7, z8⟩ := id x3
  have S3 : Inv (sfx X e oe3) pins σ H1 { s1 with heap := h3 } := I3.suite z1 ne (fun v z => by rw [z3] at z; cases z) (notFs I3.stack z1 z3)
  refine store_ok (X := sfx X e oe3) S3 hN hi (.inl hk) (v := .ref e) (u := .ref e) rfl (fun s4 S4 => ?_) (.inr hk)
  refine wpAny_mono (hs C e oe3 hG z2 pins s4 _ H1 _ S4 (q e)) (fun fl s5 q5 => ?_) fun _ _ z => False.elim z
  cases fl with
  | next =>
    obtain ⟨σ5, H5, S5, q5⟩ := q5
    exact unbind_ok (S5.unsuite I.ok) hN hi hk fun s6 I6 => ⟨_, H5, I6, q5⟩
  | brk =>
    obtain ⟨σ5, H5, S5, q5⟩ := q5
    exact unbind_ok (S5.unsuite I.ok) hN hi hk fun s6 I6 => ⟨_, H5, I6, q5⟩
  | cont =>
    obtain ⟨σ5, H5, S5, q5⟩ := q5
    exact unbind_ok (S5.unsuite I.ok) hN hi hk fun s6 I6 => ⟨_, H5, I6, q5⟩
  | ret u =>
    obtain ⟨v, σ5, H5, S5, r5, q5⟩ := q5
    exact unbind_ok (S5.unsuite I.ok) hN hi hk fun s6 I6 => ⟨v, _, H5, I6, r5, q5⟩
end
end L2

namespace L2
open PySem PySem.Spec PyProof.Rows
/-! ### isinstance of an exception of an own class -/
/-- what a class must have: below a built-in exception, no hooks of its own -/
structure ExcLook (K : PySem.W.Frag) (C : Addr) : Prop where
  ga : PySem.W.findIn K (.ref C) "__getattribute__" = some (some (.builtin "BaseException.__getattribute__"))
  hk : PySem.W.findIn K (.ref C) "__getattr__" = some none
  cl : PySem.W.findIn K (.ref C) "__class__" = some (some (.builtin "object.__class__"))
  gt : PySem.W.specialIn K (.builtin "object.__class__") "__get__" = some (some (.builtin "getset_descriptor.__get__"))
  tk : PySem.W.takesIn K (.builtin "object.__class__") = some true
  ob : PySem.W.mroIn K C (.type "object") = some true
  be : PySem.W.mroIn K C (.type "BaseException") = some true
  me : PySem.W.kitCls K (.ref C) (.ref C) = some true
section
variable {prog : Program} {w : World} {A : Around} {E : Value → Shared → Prop} {s : Shared} {K : PySem.W.Frag} {e C : Addr} {oe : Obj}
theorem looks_type {hh : Heap} (g : hh.get? e = some oe) (c : oe.cls = .ref C) {M : Model} : PySem.W.Looks M hh (typeOf (.ref e)) (.ref C) := fun A' Q' E' s' k r => by
  have z := wpAny_typeOf_ref (M := M) (A := A') (E := E') (Q := Q') (k _ _ g)
  rw [c] at z
  exact z r
theorem exc_class_get {R : Result → Shared → Prop} {tp : Value} (KI : K.In s.heap) (g : s.heap.get? e = some oe) (c : oe.cls = .ref C) (hm : PySem.W.mroIn K C (.type "object") = some true) (h : R (.ok (.ret (.ref C))) s) :
    codeAny (model prog w) A (.call (.builtin "getset_descriptor.__get__") ⟨[.builtin "object.__class__", .ref e, tp], []⟩) R s := by
  have L0 : ∀ {M : Model}, PySem.W.Looks M s.heap (typeOf (.ref e)) (.ref C) := looks_type g c
  have L1 : ∀ {M : Model}, PySem.W.Looks M s.heap (isSubtype (.ref C) (.type "object")) true := PySem.W.looks_mroIn KI hm
  refine codeAny_call_builtin PySem.W.KF.slot_gs.plain PySem.W.KF.entry_gs (PySem.W.KF.slot_gs.check _ _ _ _ _ _ _ _ PySem.W.KF.type_class (PySem.W.KF.args_gs _ _ tp) ?_)
  show wpAny _ _ (do let __x ← Builtin.Getset_descriptor.descrGetArgs ⟨[.builtin "object.__class__", .ref e, tp], []⟩; match __x with | (d, obj, snd) => Builtin.Getset_descriptor.descrGetter d obj) _ _ s
  rw [PySem.W.dga_obj]
  refine wpAny_bind (wpAny_pure ?_)
  show wpAny _ _ (do Builtin.Getset_descriptor.descrCheckInstance (.builtin "object.__class__") (.ref e); again (Code.builtin "object.__class__" ⟨[.ref e], []⟩)) _ _ s
  have dn : Builtin.Getset_descriptor.descrNameAndClass (.builtin "object.__class__") = pure (Str.ofString "__class__", Value.type "object") := by
    show pure (Str.ofString (Builtin.Getset_descriptor.descrOwnerAndName "object.__class__").2, Value.type (Builtin.Getset_descriptor.descrOwnerAndName "object.__class__").1) = _
    rw [PySem.W.KF.owner_class]
  unfold Builtin.Getset_descriptor.descrCheckInstance
  rw [dn]
  refine wpAny_bind (wpAny_bind (wpAny_pure ?_))
  refine wpAny_bind (wpAny_bind (L0 _ _ _ _ (fun _ _ q => q) (L1 _ _ _ _ (fun _ _ q => q) ?_)))
  refine wpAny_ite_false rfl (wpAny_pure ?_)
  refine wpAny_pure ⟨Code.quiet_builtin _ (by decide +kernel), codeAny_builtin PySem.W.KF.entry_class ?_⟩
  refine wpAny_bind (wpAny_bind (L0 _ _ _ _ (fun _ _ q => q) ?_))
  refine wpAny_ite_false rfl (wpAny_pure (wpAny_pure h))
theorem exc_check {M : Model} {nameV : Value} {Q : Unit → Shared → Prop} (KI : K.In s.heap) (g : s.heap.get? e = some oe) (c : oe.cls = .ref C) (hm : PySem.W.mroIn K C (.type "BaseException") = some true) (h : Q () s) :
    wpAny M A (checkBuiltinCall "BaseException.__getattribute__" ⟨[.ref e, nameV], []⟩) Q E s := by
  have hk : builtinKind "BaseException.__getattribute__" = some .slot := by decide +kernel
  have hsp : splitId "BaseException.__getattribute__" = some ("BaseException", "__getattribute__") := by decide +kernel
  have ha := PySem.F.args_bexc_ga (.ref e) nameV
  unfold checkBuiltinCall
  rw [hk, hsp]
  refine wpAny_bind (wpAny_bind (looks_type g c _ _ _ _ (fun _ _ q => q) (PySem.W.looks_mroIn KI hm _ _ _ _ (fun _ _ q => q) ?_)))
  refine wpAny_ite_false rfl ?_
  unfold argsOk at ha
  generalize Manifest.signature? "BaseException.__getattribute__" = sg at ha ⊢
  cases sg with
  | none => exact wpAny_pure h
  | some sig => exact wpAny_of_eq ha h
theorem exc_class {Q : Option Value → Shared → Prop} (KI : K.In s.heap) (X : ExcLook K C) (g : s.heap.get? e = some oe) (c : oe.cls = .ref C) (h : Q (some (.ref C)) { s with toks := s.toks + 1 }) : wpAny (model prog w) A (getAttr? (.ref e) "__class__") Q E s := by
  have L0 : ∀ {M : Model}, PySem.W.Looks M s.heap (typeOf (.ref e)) (.ref C) := looks_type g c
  refine wpAny_bind (wpAny_mkText (wpAny_bind (wpAny_attempt (wpAny_holding (wpAny_bind (L0 _ _ _ _ (fun _ _ q => q) (wpAny_bind (PySem.W.looks_findIn KI X.ga _ _ _ _ (fun _ _ q => q) ?_))))))))
  refine wpAny_ite_false rfl ?_
  refine wpAny_bind ?_
  show wpAny _ _ (if onTheHeap (.ref C) = true then typeLookup (.ref C) "__getattr__" else pure none) _ _ _
  refine wpAny_ite_true rfl (PySem.W.looks_findIn KI X.hk _ _ _ _ (fun _ _ q => q) ?_)
  refine wpAny_bind (wpAny_attempt (wpAny_holding ?_))
  show wpAny _ _ (if (false && onTheHeap (.builtin "BaseException.__getattribute__")) = true then _ else boundAndCalled (.builtin "BaseException.__getattribute__") (.ref e) (Value.str (Str.ofString "__class__") s.toks)) _ _ _
  refine wpAny_ite_false rfl (wpAny_bind (wpAny_of_eq (PySem.F.attr_ValueError.ga.bind (.ref e)) (wpAny_call ?_)))
  refine codeAny_call_builtin PySem.F.attr_ValueError.ga.plain PySem.F.entry_bexc_ga (exc_check (s := { s with toks := s.toks + 1 }) KI g c X.be ?_)
  refine wpAny_bind (wpAny_of_eq (show slotArgs "__getattribute__" 1 ⟨[.ref e, Value.str (Str.ofString "__class__") s.toks], []⟩ = pure (Value.ref e, [Value.str (Str.ofString "__class__") s.toks]) from rfl) ?_)
  refine wpAny_bind (wpAny_of_eq (show Builtin.ObjectAttr.attrName (Value.str (Str.ofString "__class__") s.toks) = pure (Str.ofString "__class__") from rfl) ?_)
  refine wpAny_bind (L0 _ _ _ _ (fun _ _ q => q) ?_)
  refine wpAny_bind ?_
  unfold Builtin.ObjectAttr.find
  refine wpAny_bind (PySem.W.looks_findIn KI X.cl _ _ _ _ (fun _ _ q => q) ?_)
  refine wpAny_bind (PySem.W.looks_specialIn KI X.gt _ _ _ _ (fun _ _ q => q) ?_)
  refine wpAny_bind (wpAny_bind (PySem.W.looks_takesIn KI X.tk _ _ _ _ (fun _ _ q => q) (wpAny_ite_true rfl (wpAny_pure ?_))))
  refine wpAny_bind (wpAny_rule (wpAny_pure ?_))
  refine wpAny_bind (wpAny_holding (wpAny_call (exc_class_get (s := { s with toks := s.toks + 1 }) KI g c X.ob ?_)))
  exact wpAny_pure (PySem.W.handed_on rfl (wpAny_pure h))
theorem kitx_exc (X : ExcLook K C) (c : oe.cls = .ref C) : PySem.W.KitX K (.ref e) (.ref C) fun h => h.get? e = some oe where
  ty := fun M h KI g => looks_type g c
  it := fun M h KI g => (PySem.W.kit_cls KI X.me).2.1
  ne := fun h tp dd its n sl KI g => by
    refine Bool.eq_false_iff.mpr fun z => ?_
    have z' := Value.ref.inj (beq_iff_eq.mp z)
    subst z'
    have m := X.be
    unfold PySem.W.mroIn PySem.W.clsIn at m
    cases q : List.lookup C K with
    | none => rw [q] at m; cases m
    | some o =>
      have k := KI C o q
      rw [g] at k
      have k' := Option.some.inj k
      rw [q, ← k'] at m
      cases m
  ca := fun {prog w A E Q s} KI g h => exc_class KI X g c h
end
section
variable {X : Cx} {e C : Addr} {oe : Obj}
theorem vals_refs : ∀ {cs : List Addr} {us : List Value}, Vals (cs.map V.ref) us → us = cs.map Value.ref
  | [], _, .nil => rfl
  | c :: cs, _, .cons r t => by rw [vals_refs t]; exact congrArg (· :: cs.map Value.ref) r
/-- isinstance(e, ..) in the except suite -/
theorem call_isiX (c : oe.cls = .ref C) (L : ExcLook X.K C) : CallR (sfx X e oe) (.builtin "isinstance") (fun xs H Q => ∃ y b, xs = [.ref e, y] ∧ ((∃ B, y = .ref B ∧ PySem.W.kitOne X.K (.ref C) (.ref B) = some b) ∨ (∃ T, y = .ty T ∧ PySem.W.kitOne X.K (.ref C) (.type T) = some b) ∨
    (∃ (tp : Addr) (cs : List Addr), y = .ref tp ∧ H tp = some (.tup (cs.map V.ref)) ∧ PySem.W.kitAny X.K (.ref C) (cs.map Value.ref) = some b)) ∧ Q (.bl b) H) := by
  intro pins s σ H xs us Q I r h
  obtain ⟨y, b, rfl, hy, q⟩ := h
  have g := I.excObj
  have KI : X.K.In s.heap := I.kIn
  cases r with
  | cons rx r2 =>
    cases r2 with
    | cons ry r3 =>
      cases r3
      cases (show _ = Value.ref e from rx)
      have fin : ∀ tk, EP (sfx X e oe) pins σ Q (Value.bool b) { s with toks := tk } := fun tk => ⟨.bl b, H, I.tok tk, rfl, q⟩
      rcases hy with ⟨B, rfl, k⟩ | ⟨T, rfl, k⟩ | ⟨tp, cs, rfl, ht, k⟩
      · cases (show _ = Value.ref B from ry)
        exact PySem.W.kia_one (kitx_exc L c) KI g k (fun z => nomatch z) fin
      · cases (show _ = Value.type T from ry)
        exact PySem.W.kia_one (kitx_exc L c) KI g k (fun z => nomatch z) fin
      · cases (show _ = Value.ref tp from ry)
        obtain ⟨_, its, rv, ⟨cl, dd, dt, sl⟩, g2, g3, n, g4⟩ := I.hok tp _ ht
        have ei := vals_refs rv
        subst ei
        dsimp only at g3 g4
        subst g3 g4
        exact PySem.W.kia_tup (kitx_exc L c) KI g g2 k (fun z => nomatch z) fin
end
end L2

namespace L2
open PySem PySem.Spec PyProof.Rows
/-! ### f'{text!r} ..', a text times a number, find, join of more -/
section
variable {X : Cx}
def tFr (c : Str) (ta : TE) : TE := fun σ H Q => ta σ H fun x H1 => ∃ z : Str, x = .str z ∧ z.length ≤ 1000 ∧ (∀ n ∈ z.cps.toList, n < 16 ^ 8) ∧ c.length ≤ 1000 ∧ ∀ z2 : Str, Q (.str z2) H1
def rFind : V → List V → Hp → VK → Prop := fun x vs H Q => ∃ z y : Str, x = .str z ∧ vs = [.str y] ∧ Q (.int (Txt.find z y)) H
end
end L2

namespace L2
open PySem PySem.Spec PyProof.Rows
/-! ### own classes: methods bundled, instances made, a method of a class above called by that class's name; calls of these that may raise -/
/-- a method of the class at C, bundled -/
def MCallee (CX : CXT) (P : Program) (w : World) (K : PySem.W.Frag) (mg : Str → Option Value) (base : Heap) (k : Nat) (C : Addr) (m : Str) (ps : List Str) (sp : Sp) : Prop :=
  ∃ f fd, Meth K C m f ∧ FnOk P w K mg base CX k f fd ps sp ∧ Binds K fd ps []
/-- a class that can be made, bundled with its __init__ -/
def MkCallee (CX : CXT) (P : Program) (w : World) (K : PySem.W.Frag) (mg : Str → Option Value) (base : Heap) (k : Nat) (x : Str) (C : Addr) (ps : List Str) (sp : Sp) : Prop :=
  ∃ f fd, Mk K C f ∧ FnOk P w K mg base CX k f fd ps sp ∧ Binds K fd ps [] ∧ mg x = some (.ref C)
/-- what the text must have for B.m(..) -/
structure BaseM (K : PySem.W.Frag) (B : Addr) (m : Str) (f : Addr) : Prop where
  sp : PySem.W.specialIn K (.ref B) "__getattribute__" = some (some (.builtin "type.__getattribute__"))
  rd : PySem.W.readsIn K B (.type "type") = true
  at_ : PySem.W.findCls K (.ref B) (.type "type") m = some (.val (.ref f))
  kp : PySem.W.keepIn K (.ref f) = true
def BCallee (CX : CXT) (P : Program) (w : World) (K : PySem.W.Frag) (mg : Str → Option Value) (base : Heap) (k : Nat) (x : Str) (m : Str) (ps : List Str) (sp : Sp) : Prop :=
  ∃ f fd B, BaseM K B m f ∧ FnOk P w K mg base CX k f fd ps sp ∧ Binds K fd ps [] ∧ mg x = some (.ref B)
section
variable {CX : CXT} {P : Program} {w : World} {K : PySem.W.Frag} {mg : Str → Option Value} {base : Heap} {j k : Nat} {C : Addr} {x m : Str} {ps : List Str} {sp : Sp}
theorem MCallee.mono (c : MCallee CX P w K mg base j C m ps sp) (h : j ≤ k) : MCallee CX P w K mg base k C m ps sp :=
  let ⟨f, fd, M, F, b⟩ := c
  ⟨f, fd, M, F.mono h, b⟩
theorem MkCallee.mono (c : MkCallee CX P w K mg base j x C ps sp) (h : j ≤ k) : MkCallee CX P w K mg base k x C ps sp :=
  let ⟨f, fd, M, F, b⟩ := c
  ⟨f, fd, M, F.mono h, b⟩
theorem BCallee.mono (c : BCallee CX P w K mg base j x m ps sp) (h : j ≤ k) : BCallee CX P w K mg base k x m ps sp :=
  let ⟨f, fd, B, M, F, b⟩ := c
  ⟨f, fd, B, M, F.mono h, b⟩
end
/-- the readings -/
def tMt (C : Addr) (m : Str) (sp : Sp) (ta : TE) (t : TA) : TE := fun σ H Q => ta σ H fun x H1 => ∃ a dx fs, x = .ref a ∧ H1 a = some (.ins C dx fs) ∧ fs.lookup m = none ∧ t σ H1 fun vs H2 => sp (x :: vs) H2 Q E0
def tMk (C : Addr) (sp : Sp) (t : TA) : TE := fun σ H Q => t σ H fun vs H1 => ∀ x dx, H1 x = none → H1 dx = none → dx ≠ x →
  sp (.ref x :: vs) (upd (upd H1 dx (.own x)) x (.ins C dx [])) (fun v H2 => v = .non ∧ Q (.ref x) H2) E0
def tMtX (C : Addr) (m : Str) (sp : Sp) (ta : TE) (t : TA) : TX := fun σ H Q EX => ta σ H fun x H1 => ∃ a dx fs, x = .ref a ∧ H1 a = some (.ins C dx fs) ∧ fs.lookup m = none ∧ t σ H1 fun vs H2 => sp (x :: vs) H2 Q fun cv _ H3 => ∃ C', cv = .ref C' ∧ EX C' H3
def tMkX (C : Addr) (sp : Sp) (t : TA) : TX := fun σ H Q EX => t σ H fun vs H1 => ∀ x dx, H1 x = none → H1 dx = none → dx ≠ x →
  sp (.ref x :: vs) (upd (upd H1 dx (.own x)) x (.ins C dx [])) (fun v H2 => v = .non ∧ Q (.ref x) H2) fun cv _ H3 => ∃ C', cv = .ref C' ∧ EX C' H3
section
variable {X : Cx} {CX : CXT} {k : Nat} {f C : Addr} {fd : FuncData} {ps : List Str} {sp : Sp} {x m : Str} {p np pos apos : Pos} {e o : Expr} {es : List Expr} {ta : TE} {t : TA}
theorem run0 {pins : List (Addr × Obj)} {σ : St} {H : Hp} {s : Shared} {Q : VK} {us : List Value} {vs : List V} {E : XK} (F : FnOk X.prog X.w X.K X.mg X.base CX k f fd ps sp) (hr : Room k X.A) (hb : Binds X.K fd ps []) (hx : Passes CX X E)
    (I : Inv X pins σ H s) (r : Vals vs us) (h : sp vs H Q E) : wpAny (model X.prog X.w) X.A (call (.ref f) us) (EP X pins σ Q) X.xe s :=
  run_fn (dvs := []) (ds := []) F hr hb .nil hx I r (by rw [List.append_nil]; exact h)
/-- B.m(e, ..), m of the class B -/
theorem pe_base {pl : Sem Bool} (M : BCallee CX X.prog X.w X.K X.mg X.base k x m ps sp) (hx : Passes CX X E0) (hr : Room k X.A) (hg : Gl X x) (ha : PA X (e :: es) t) (hdb : (x == ("__debug__" : Str)) = false := by decide)
    (hst : starEach (e :: es) X.env = (false, eval e X.env) :: starEach es X.env := by rfl) (hpl : (backTo pos (starEach es X.env)).any (·.1) = false := by rfl)
    (ht : eval (.Call (.Attribute (.Name x np) m apos) (e :: es) [] pos) X.env = (do
      let ov ← eval (.Name x np) X.env
      standAt apos.atName
      let (f, first) ← holding [ov] (getMethod ov m pl)
      callWith pos f first (backTo pos (starEach (e :: es) X.env)) (backToKw pos (keywordEach [] X.env))) := by rfl) :
    PE X (.Call (.Attribute (.Name x np) m apos) (e :: es) [] pos) (tFn sp t) := by
  obtain ⟨f, fd, B, hB, F, hb, hm⟩ := M
  intro pins s σ H Q I h
  refine PySem.W.methodCall_KW (pl := pl) (ld_glob I hg hm ?_ hdb) ht
  refine PySem.W.method_cls I.kIn hB.sp (PySem.W.cls_value (mc := .type "type") I.kIn hB.rd hB.at_ (handed_of (v := .ref f) rfl) ?_)
  refine PySem.W.callWith_K (first := []) (h₀ := X.base) I.ok.mod.kin hB.kp (thn (ha pos pins _ σ H _ (I.tok _) h) fun us s2 ⟨vs, H2, I2, r, q2⟩ => ⟨I2.kIn, ?_⟩) hst hpl
  exact run0 (us := us) (vs := vs) F hr hb hx I2 r q2
/-- C(e, ..) -/
theorem pe_mk (M : MkCallee CX X.prog X.w X.K X.mg X.base k x C ps sp) (hx : Passes CX X E0) (hr : Room (k + 1) X.A) (hg : Gl X x) (ha : PA X (e :: es) t) (hdb : (x == ("__debug__" : Str)) = false := by decide)
    (he : starEach (e :: es) X.env = (false, eval e X.env) :: starEach es X.env := by rfl) (hpl : (backTo pos (starEach es X.env)).any (·.1) = false := by rfl) :
    PE X (.Call (.Name x p) (e :: es) [] pos) (tMk C sp t) := by
  obtain ⟨f, fd, M, F, hb, hm⟩ := M
  have h := pe_make (E := E0) (dvs := []) (ds := []) (p := p) M F hr hg hm hb .nil hx ha hdb he hpl
  intro pins s σ H Q I q
  refine h pins s σ H Q I ?_
  have q' : t σ H fun vs H1 => ∀ x dx, H1 x = none → H1 dx = none → dx ≠ x → sp (.ref x :: vs) (upd (upd H1 dx (.own x)) x (.ins C dx [])) (fun v H2 => v = .non ∧ Q (.ref x) H2) E0 := q
  show t σ H fun vs H1 => ∀ x dx, H1 x = none → H1 dx = none → dx ≠ x → sp (.ref x :: (vs ++ [])) (upd (upd H1 dx (.own x)) x (.ins C dx [])) (fun v H2 => v = .non ∧ Q (.ref x) H2) E0
  have e1 : (fun (vs : List V) (H1 : Hp) => ∀ x dx, H1 x = none → H1 dx = none → dx ≠ x → sp (.ref x :: (vs ++ [])) (upd (upd H1 dx (.own x)) x (.ins C dx [])) (fun v H2 => v = .non ∧ Q (.ref x) H2) E0) = fun vs H1 => ∀ x dx, H1 x = none → H1 dx = none → dx ≠ x → sp (.ref x :: vs) (upd (upd H1 dx (.own x)) x (.ins C dx [])) (fun v H2 => v = .non ∧ Q (.ref x) H2) E0 := by
    funext vs H1
    rw [List.append_nil]
  rw [e1]
  exact q'
theorem pex_mk (M : MkCallee (CX1 X.prog X.w) X.prog X.w X.K X.mg X.base k x C ps sp) (hx : X.ex = []) (hr : Room (k + 1) X.A) (hg : Gl X x) (ha : PA X.nox (e :: es) t) (hdb : (x == ("__debug__" : Str)) = false := by decide)
    (he : starEach (e :: es) X.env = (false, eval e X.env) :: starEach es X.env := by rfl) (hpl : (backTo pos (starEach es X.env)).any (·.1) = false := by rfl) :
    PEX X (.Call (.Name x p) (e :: es) [] pos) (tMkX C sp t) := by
  obtain ⟨f, fd, M, F, hb, hm⟩ := M
  intro pins s σ H Q EX I h
  refine wpAny_Call_Name_kw (ld_glob I hg hm ?_ hdb)
  refine PySem.W.callWith_K (h₀ := X.base) I.ok.mod.kin M.kp (wpAny_mono (ha pos pins s σ H _ (I.wish _) h) (fun us s1 ⟨vs, H1, I1, r, q⟩ => ⟨I1.kIn, ?_⟩) fun _ _ z => False.elim z) he hpl
  have J : Inv X pins σ H1 s1 := I1.unwish
  have hq := q (s1.heap.objs.size + 1) s1.heap.objs.size (J.hok.fresh (Nat.le_succ _)) (J.hok.fresh (Nat.le_refl _)) (Nat.ne_of_lt (Nat.lt_succ_self _))
  have I2 := Inv.made (C := C) J
  have r2 : Vals (V.ref (s1.heap.objs.size + 1) :: vs) (Value.ref (s1.heap.objs.size + 1) :: us) := .cons rfl r
  have hl : (Value.ref (s1.heap.objs.size + 1) :: us).length = ps.length := by
    have e := r2.length
    rw [F.len _ _ _ _ hq] at e
    exact e.symm
  have bt : ∀ s' : Shared, X.K.In s'.heap → BindsTo s' fd ⟨Value.ref (s1.heap.objs.size + 1) :: us, []⟩ (ps.zip (Value.ref (s1.heap.objs.size + 1) :: us)) := fun s' kI => by
    have z := hb s' (Value.ref (s1.heap.objs.size + 1) :: us) kI (by rw [List.append_nil]; exact hl)
    rw [List.append_nil] at z
    exact z
  refine wpAny_call (make_map (f := f) J.kIn M.makes M.init (beq_iff_eq.mp M.fn) (codeAny_mono (F.run _ X.stack _ _ ⟨Value.ref (s1.heap.objs.size + 1) :: us, []⟩ (Value.ref (s1.heap.objs.size + 1) :: us) _ _ (fun cv _ H3 => ∃ C', cv = .ref C' ∧ EX C' H3) (hr.make C us [])
    (I2.env0.make C us []) (bt _ I2.kIn) r2 hq) fun r s' hq' => ?_))
  cases r with
  | error ev => exact I2.afterX (E := fun cv _ H2 => ∃ C, cv = .ref C ∧ EX C H2) hx (fun C H' z => by obtain ⟨C', e1, z⟩ := z; cases e1; exact z) hq'
  | ok fl =>
    cases fl with
    | ret u =>
      obtain ⟨v, H', I3, rv, ev, q3⟩ := I2.after hq'
      subst ev
      exact ⟨rv, ⟨V.ref (s1.heap.objs.size + 1), H', I3, rfl, q3⟩⟩
    | next => exact False.elim hq'
    | brk => exact False.elim hq'
    | cont => exact False.elim hq'
end
/-! f'{value!r} ..' of a plain value -/
/-- what can be shown: none, a bool, a number of few figures, a text of small signs -/
inductive Shw : V → Prop where
  | non : Shw .non
  | bl (b : Bool) : Shw (.bl b)
  | int {i : Int} (h : i.natAbs < 10 ^ 60) : Shw (.int i)
  | str {z : Str} (h : z.length ≤ 1000) (k : ∀ n ∈ z.cps.toList, n < 16 ^ 8) : Shw (.str z)
section
variable {X : Cx}
def tFrV (c : Str) (ta : TE) : TE := fun σ H Q => ta σ H fun x H1 => Shw x ∧ c.length ≤ 1000 ∧ ∀ z2 : Str, Q (.str z2) H1
end
/-! == of two tuples -/
def rEqT (K : PySem.W.Frag) (neg : Bool) : R2 := fun x y H Q => ∃ a b xs ys, x = .ref a ∧ y = .ref b ∧ SqT K H a xs ∧ SqT K H b ys ∧
  ∃ f : Nat → Bool, (∀ j x y, xs[j]? = some x → ys[j]? = some y → EqI K H x y (f j)) ∧ Q (.bl (if neg then !((List.range (min xs.length ys.length)).all f && xs.length == ys.length) else (List.range (min xs.length ys.length)).all f && xs.length == ys.length)) H
section
variable {X : Cx}
end
end L2

namespace L2
open PySem PySem.Spec PyProof.Rows
section
variable {X : Cx}
/-- list + list, both only read -/
def rCatS (K : PySem.W.Frag) : R2 := fun x y H Q => ∃ l b xs zs, x = .ref l ∧ y = .ref b ∧ SqL K H l xs ∧ SqL K H b zs ∧ xs.length + zs.length ≤ sizeLine ∧ ∀ p, H p = none → Q (.ref p) (upd H p (.lst (xs ++ zs)))
end
end L2
namespace L2
open PySem PySem.Spec PyProof.Rows
end L2
namespace L2
open PySem PySem.Spec PyProof.Rows
/-- o.f in a comprehension's block -/
theorem pe_fldK {X : Cx} {K : PySem.W.Frag} {e : Expr} {f : Str} {pos : Pos} {ta : TE} (h : X.K = K) (he : PE X e ta) (hb : attributeBase e f X.env (eval e X.env) = eval e X.env) : PE X (.Attribute e f pos) (tFld K ta f) := h ▸ pe_fld he hb
end L2

namespace L2
open PySem
set_option maxRecDepth 100000
/-! ### == and != of lists and tuples that hold lists and tuples, down to a depth -/
inductive DEq (K : PySem.W.Frag) (H : Hp) : Nat → V → V → Bool → Prop where
  | flat {n : Nat} {x y : V} (fx : flatV x = true) (fy : flatV y = true) : DEq K H n x y (eqV x y)
  | same {n : Nat} (a : Addr) : DEq K H n (.ref a) (.ref a) true
  | lst {n : Nat} {a b : Addr} {xs ys : List V} {f : Nat → Bool} (ne : a ≠ b) (ha : SqL K H a xs) (hb : SqL K H b ys) (hl : xs.length = ys.length) (h : ∀ (j : Nat) (x y : V), xs[j]? = some x → ys[j]? = some y → DEq K H n x y (f j)) : DEq K H (n + 1) (.ref a) (.ref b) ((List.range xs.length).all f)
  | lst_ne {n : Nat} {a b : Addr} {xs ys : List V} (ne : a ≠ b) (ha : SqL K H a xs) (hb : SqL K H b ys) (hl : xs.length ≠ ys.length) : DEq K H (n + 1) (.ref a) (.ref b) false
  | tup {n : Nat} {a b : Addr} {xs ys : List V} {f : Nat → Bool} (ne : a ≠ b) (ha : SqT K H a xs) (hb : SqT K H b ys) (h : ∀ (j : Nat) (x y : V), xs[j]? = some x → ys[j]? = some y → DEq K H n x y (f j)) : DEq K H (n + 1) (.ref a) (.ref b) ((List.range (min xs.length ys.length)).all f && xs.length == ys.length)
section
variable {X : Cx} {pins : List (Addr × Obj)} {σ : St} {H : Hp} {s : Shared}
end
/-- == (neg: !=) of two lists -/
def rEqDL (K : PySem.W.Frag) (neg : Bool) : R2 := fun x y H Q => ∃ a b xs ys, x = .ref a ∧ y = .ref b ∧ SqL K H a xs ∧ SqL K H b ys ∧
  ((xs.length ≠ ys.length ∧ Q (.bl neg) H) ∨ (xs.length = ys.length ∧ ∃ f : Nat → Bool, (∀ (j : Nat) (x y : V), xs[j]? = some x → ys[j]? = some y → DEq K H 60 x y (f j)) ∧ Q (.bl (if neg then !(List.range xs.length).all f else (List.range xs.length).all f)) H))
/-- == (neg: !=) of two tuples -/
def rEqDT (K : PySem.W.Frag) (neg : Bool) : R2 := fun x y H Q => ∃ a b xs ys, x = .ref a ∧ y = .ref b ∧ SqT K H a xs ∧ SqT K H b ys ∧
  ∃ f : Nat → Bool, (∀ (j : Nat) (x y : V), xs[j]? = some x → ys[j]? = some y → DEq K H 60 x y (f j)) ∧ Q (.bl (if neg then !((List.range (min xs.length ys.length)).all f && xs.length == ys.length) else (List.range (min xs.length ys.length)).all f && xs.length == ys.length)) H
section
variable {X : Cx}
end
end L2

namespace L2
open PySem PySem.Spec PyProof.Rows
/-! ### set(list) for keys of any kind; len(set) -/
section
variable {κ : Type} [DecidableEq κ]
/-- how many different keys stand ahead of place i -/
def cntK (ks : List κ) : Nat → Nat
  | 0 => 0
  | i + 1 => match ks[i]? with
    | some k => if k ∈ ks.take i then cntK ks i else cntK ks i + 1
    | none => cntK ks i
theorem cntK_le (ks : List κ) : ∀ i, cntK ks i ≤ i
  | 0 => Nat.le_refl _
  | i + 1 => by
    have ih := cntK_le ks i
    unfold cntK
    split
    · split <;> omega
    · omega
theorem cntK_full (ks : List κ) : ∀ i, i ≤ ks.length → (cntK ks i = i ↔ (ks.take i).Nodup)
  | 0, _ => by simp [cntK]
  | i + 1, h => by
    have ih := cntK_full ks i (by omega)
    have le := cntK_le ks i
    have e : ks[i]? = some ks[i] := List.getElem?_eq_getElem (by omega)
    have et : ks.take (i + 1) = ks.take i ++ [ks[i]] := by rw [List.take_add_one, e]; rfl
    unfold cntK
    rw [e, et, List.nodup_append]
    dsimp only
    by_cases m : ks[i] ∈ ks.take i
    · rw [if_pos m]
      exact ⟨fun z => absurd z (by omega), fun z => absurd rfl (z.2.2 _ m _ (by simp))⟩
    · rw [if_neg m]
      refine ⟨fun z => ⟨ih.mp (by omega), by simp, fun a ha b hb => ?_⟩, fun z => by rw [ih.mpr z.1]⟩
      rw [show b = ks[i] by simpa using hb]
      exact fun q => m (q ▸ ha)
variable {prog : Program} {w : World} {A : Around} {E : Value → Shared → Prop} {s : Shared} {knd : KeyKind prog w κ}
theorem setOf_stay {h h' : Heap} {a : Addr} {S : κ → Bool} {n : Nat} (x : h.SetOf knd a S n) (k : ∀ o, h.get? a = some o → h'.get? a = some o) : h'.SetOf knd a S n := by
  obtain ⟨o, es, ep, t, ho, r⟩ := x
  exact ⟨o, es, ep, t, k o ho, r⟩
theorem setOf_as {h : Heap} {a : Addr} {S S' : κ → Bool} {n n' : Nat} (x : h.SetOf knd a S n) (e1 : S = S') (e2 : n = n') : h.SetOf knd a S' n' := e1 ▸ e2 ▸ x
/-- the loop that puts the walked items in -/
theorem fill_loop {R : Result → Shared → Prop} {I : Addr} {fp wr : List Addr} {G : Array GenState → Array GenState → Prop} {n : Nat} {P : Nat → Value → Prop} {St : Nat → Shared → Prop} (W : WalksS prog w A.in1 I fp wr G n P St) {a : Addr} (ha : a ∉ fp) {ks : List κ}
    (hv : ∀ i v, P i v → ∃ k, ks[i]? = some k ∧ knd.is k v = true ∧ v.scannable = true) (hb : n + 1 < scanBound) : ∀ (d i : Nat) (s : Shared), n = i + d → St i s → s.heap.SetOf knd a (fun k => decide (k ∈ ks.take i)) (cntK ks i) →
      (∀ s', Moved (a :: wr) G s s' → s'.heap.SetOf knd a (fun k => decide (k ∈ ks.take n)) (cntK ks n) → R (.ok (.ret .none)) s') → codeAny (model prog w) A (.builtin "set.update.loop" ⟨[.ref a, .ref I], []⟩) R s := by
  have hw : a ∉ wr := fun z => ha (W.sub a z)
  intro d
  induction d with
  | zero =>
    intro i s e st x fin
    rw [show n = i by omega] at W fin
    refine codeAny_builtin (R := R) (A := A) F.entry_set_update_loop ?_
    rw [Around.under_plainId (A := A) F.plain_set_update_loop _]
    show wpAny (model prog w) A.in1 (pyNext (.ref I) >>= _) _ _ s
    exact wpAny_bind (W.done s _ _ st fun s' m => wpAny_pure (fin s' (m.mono fun b hb => List.mem_cons_of_mem a hb) (setOf_stay x fun o q => m.heap a o hw q)))
  | succ d ih =>
    intro i s e st x fin
    refine codeAny_builtin (R := R) (A := A) F.entry_set_update_loop ?_
    rw [Around.under_plainId (A := A) F.plain_set_update_loop _]
    show wpAny (model prog w) A.in1 (pyNext (.ref I) >>= _) _ _ s
    refine wpAny_bind (W.item i s _ _ (by omega) st fun v s1 p st1 m => ?_)
    obtain ⟨k, ek, ik, sc⟩ := hv i v p
    have x1 := setOf_stay x fun o q => m.heap a o hw q
    show wpAny (model prog w) A.in1 (holding [v] (setAdd a v) >>= _) _ _ s1
    refine wpAny_bind (wpAny_holding (show wpAny (model prog w) A.in1 (setAdd a v) _ _ s1 from ?_))
    unfold setAdd
    refine wpAny_holding (wpAny_bind (knd.pyHash ik ?_))
    have le := cntK_le ks i
    refine wpAny_setAddHashed_of (knd := knd) (s := { s1 with toks := s1.toks + 1 }) ik sc x1 (by omega) fun h' sb x2 => ?_
    have et : ks.take (i + 1) = ks.take i ++ [k] := by rw [List.take_add_one, ek]; rfl
    have x3 : h'.SetOf knd a (fun q => decide (q ∈ ks.take (i + 1))) (cntK ks (i + 1)) := by
      refine setOf_as x2 (funext fun q => ?_) ?_
      · rw [et]
        by_cases z : q ∈ ks.take i <;> by_cases y : q = k <;> simp [z, y]
      · show (if decide (k ∈ ks.take i) = true then cntK ks i else cntK ks i + 1) = match ks[i]? with | some k => if k ∈ ks.take i then cntK ks i else cntK ks i + 1 | none => cntK ks i
        rw [ek]
        by_cases z : k ∈ ks.take i <;> simp [z]
    refine wpAny_pure ⟨plainId_quiet F.plain_set_update_loop _, ih (i + 1) { s1 with heap := h', toks := s1.toks + 1 } (by omega) (W.frame (i + 1) s1 h' (s1.toks + 1) st1 (Nat.le_succ _) fun b hbf o q => (sb.2 b fun z => ha (z ▸ hbf)).trans q) x3 fun s2 m2 x4 => ?_⟩
    refine fin s2 (Moved.trans W.gtrans ((m.mono fun b hb => List.mem_cons_of_mem a hb).then_heap (Nat.le_succ _) fun b o hbn q => ?_) m2) x4
    exact (sb.2 b fun z => hbn (z ▸ List.mem_cons_self)).trans q
/-- a set as it is made -/
abbrev newS (led : Bool) : Obj := { cls := .type "set", dict := none, data := .set #[] 0 (.fresh 0 0 led) }
/-- what is told behind set(..) -/
def Filled (knd : KeyKind prog w κ) (s : Shared) (ks : List κ) (h' : Heap) : Prop :=
  h'.SetOf knd s.heap.objs.size (fun k => decide (k ∈ ks)) (cntK ks ks.length) ∧ ∀ b o, b < s.heap.objs.size → s.heap.get? b = some o → h'.get? b = some o
/-- __init__ of the new set walks the list -/
theorem init_set {l : Addr} {items : Array Value} {ks : List κ} {led : Bool} (hh : A.handled = none) (hl : s.heap.IsList l items) (hk : ∀ (i : Nat) (v : Value), items[i]? = some v → ∃ k, ks[i]? = some k ∧ knd.is k v = true ∧ v.scannable = true) (hn : ks.length = items.size) (hb : items.size + 1 < scanBound) :
    codeAny (model prog w) A (.call (.builtin "set.__init__") ⟨[.ref s.heap.objs.size, .ref l], []⟩) (wants (fun r s2 => r = .none ∧ ∃ h' tk, s2 = { s with heap := h', toks := tk } ∧ Filled knd s ks h') E) { s with heap := s.heap.push (newS led) } := by
  have g0 : (s.heap.push (newS led)).get? s.heap.objs.size = some (newS led) := Heap.get?_push_size s.heap rfl
  have ty : Shared.TypeIs { s with heap := s.heap.push (newS led) } (.ref s.heap.objs.size) "set" := ⟨newS led, g0, rfl⟩
  refine codeAny_call_builtin F.called_set.init.plain F.entry_set_init (check_set_init_1 ty ?_)
  obtain ⟨⟨c1, c2, c3, c4⟩, ho, hc, m, hd⟩ := hl
  dsimp only at hc hd
  subst hc hd
  have g1 : (s.heap.push (newS led)).get? l = some { cls := .type "list", dict := c2, data := .seq items m, slots := c4 } := Heap.get?_push_of_some _ ho
  have y1 := F.sub_list_set
  have y2 := F.sub_list_frozenset
  have y3 : (Value.type "list" == Value.type "dict") = false := by decide
  have l1 : (s.heap.push (newS led)).IsList l items := ⟨_, g1, rfl, m, rfl⟩
  have lt : l < s.heap.objs.size := Heap.lt_size ho
  unfold Builtin.«set.__init__» Builtin.Frozenset.updateFrom noKeywords
  generalize hI : pyIter = it
  wp_walk
  subst hI
  refine wpAny_pyIter_list l1 (wpAny_bind (wpAny_runValue ?_))
  have nl : l ≠ (s.heap.push (newS led)).objs.size := by rw [Heap.size_push]; exact Nat.ne_of_lt (Nat.lt_succ_of_lt lt)
  have nf : s.heap.objs.size ∉ [(s.heap.push (newS led)).objs.size, l] := by
    rw [Heap.size_push]
    intro z
    rcases List.mem_cons.mp z with z | z
    · exact absurd z (Nat.ne_of_lt (Nat.lt_succ_self _))
    · exact absurd (by simpa using z) (Nat.ne_of_gt lt)
  refine fill_loop (knd := knd) ((Walks.list (by simp [hh]) _ l nl items).toS) nf (ks := ks) hk hb items.size 0 _ (Nat.zero_add _).symm ⟨⟨_, Heap.get?_push_size _ rfl, rfl, rfl⟩, l1.push _⟩ (setOf_as ((setObjOf_fresh (knd := knd) led).setOf (Heap.get?_push_of_some _ g0) (by unfold scanBound; omega)) (funext fun k => by simp) rfl) fun s' mv x => ?_
  obtain ⟨h', g', d', t', o'⟩ := s'
  obtain rfl : g' = s.gens := mv.gens
  obtain rfl : d' = s.drawn := mv.drawn
  obtain rfl : o' = s.os := mv.os
  refine wpAny_pure (show wpAny (model prog w) _ (ret Value.none) _ _ _ from wpAny_pure ⟨rfl, h', t', rfl, ?_, fun b o hb' q => ?_⟩)
  · rw [← hn] at x
    exact setOf_as x (funext fun k => by rw [List.take_length]) rfl
  · refine mv.heap b o (fun z => ?_) (Heap.get?_push_of_some _ (Heap.get?_push_of_some _ q))
    rcases List.mem_cons.mp z with z | z
    · exact absurd z (Nat.ne_of_lt hb')
    · have z2 : b = (s.heap.push (newS led)).objs.size := by simpa using z
      rw [Heap.size_push] at z2
      exact absurd z2 (Nat.ne_of_lt (Nat.lt_succ_of_lt hb'))
set_option maxRecDepth 100000 in
theorem call_setK {l : Addr} {items : Array Value} {ks : List κ} {Q : Value → Shared → Prop} (hh : A.handled = none) (hl : s.heap.IsList l items) (hk : ∀ (i : Nat) (v : Value), items[i]? = some v → ∃ k, ks[i]? = some k ∧ knd.is k v = true ∧ v.scannable = true) (hn : ks.length = items.size) (hb : items.size + 1 < scanBound)
    (h : ∀ h' tk, Filled knd s ks h' → Q (.ref s.heap.objs.size) { s with heap := h', toks := tk }) : wpAny (model prog w) A (call (.type "set") [.ref l]) Q E s := by
  obtain ⟨c, tl, mro⟩ := F.called_set.mro
  have a1 := F.called_set.made
  have a2 := F.called_set.sub
  have a3 := F.called_set.notType
  have a4 := F.called_set.canCreate
  have a5 := F.typeCall_set_1 (.ref l)
  refine wpAny_call (codeAny_of_tree (show wpAny (model prog w) _ (callAny (.type "set") _) _ _ _ from wpAny_pure ⟨Code.quiet_builtin _ (by decide +kernel), codeAny_builtin F.entry_type_call ?_⟩))
  rw [Around.under_plain (A := A) (weight_type_call_type "set" [.ref l] []) rfl]
  repeat (any_goals (first | assumption | wp_step))
  refine codeAny_mono (code_set_new_1 (.ref l) (E := E) (Q₁ := fun ob s1 => ∃ led, ob = .ref s.heap.objs.size ∧ s1 = { s with heap := s.heap.push (newS led) }) fun led => ⟨led, rfl, rfl⟩) fun r s1 hr => ?_
  cases r with
  | error e => exact hr
  | ok fl =>
    cases fl with
    | ret ob =>
      obtain ⟨led, rfl, rfl⟩ := hr
      have g0 : (s.heap.push (newS led)).get? s.heap.objs.size = some (newS led) := Heap.get?_push_size s.heap rfl
      have ty : Shared.TypeIs { s with heap := s.heap.push (newS led) } (.ref s.heap.objs.size) "set" := ⟨newS led, g0, rfl⟩
      have b1 := F.called_set.init.lookup
      have b2 := F.called_set.init.bind (.ref s.heap.objs.size)
      repeat (any_goals (first | assumption | wp_step))
      refine codeAny_mono (init_set (E := E) (knd := knd) (by simp [hh]) hl hk hn hb) fun r2 s2 hr2 => ?_
      cases r2 with
      | error e => exact hr2
      | ok f2 =>
        cases f2 with
        | ret r =>
          obtain ⟨rfl, h', tk, rfl, x⟩ := hr2
          repeat (any_goals (first | assumption | wp_step))
          exact h h' tk x
        | _ => exact hr2.elim
    | _ => exact hr.elim
end
/-! the layer's rules -/
/-- a set of texts -/
def SetO (P : Program) (w : World) (a : Addr) (zs : List Str) : HO := .ext fun h => h.SetOf (strKind P w) a (fun z => decide (z ∈ zs)) (cntK zs zs.length)
section
variable {X : Cx}
theorem vals_strs : ∀ {zs : List Str} {us : List Value}, Vals (zs.map V.str) us → ∀ (i : Nat) (v : Value), us[i]? = some v → ∃ z t, zs[i]? = some z ∧ v = .str z t
  | [], _, .nil, i, v, h => by simp at h
  | z :: zs, _, .cons ⟨t, e⟩ r, 0, v, h => by simp at h; exact ⟨z, t, rfl, by rw [← h, e]⟩
  | z :: zs, _, .cons _ r, i + 1, v, h => by
    obtain ⟨z', t, e1, e2⟩ := vals_strs r i v (by simpa using h)
    exact ⟨z', t, by simpa using e1, e2⟩
/-- set(xs) of a list of texts -/
theorem call_set_strs (hc : X.calm = true) : CallR X (.type "set") (fun xs H Q => ∃ (p : Addr) (zs : List Str), xs = [.ref p] ∧ SqL X.K H p (zs.map V.str) ∧ zs.length ≤ 1000 ∧ ∀ l, H l = none → Q (.ref l) (upd H l (SetO X.prog X.w l zs))) := by
  intro pins s σ H xs us Q I r h
  obtain ⟨p, zs, rfl, hS, hz, q⟩ := h
  obtain ⟨u, rfl, ru⟩ := r.one
  obtain rfl : u = Value.ref p := ru
  obtain ⟨its, rv, pl, _⟩ := I.list hS
  have hl := rv.length
  rw [List.length_map] at hl
  refine call_setK (knd := strKind X.prog X.w) (ks := zs) (I.ok.hd hc) pl.isList (fun i v e => ?_) (by simpa using hl) (by unfold scanBound; simp; omega) fun h' tk x => ?_
  · obtain ⟨z, t, e1, rfl⟩ := vals_strs rv i v (by simpa using e)
    exact ⟨z, e1, by show Value.isStrOf z (.str z t) = true; simp [Value.isStrOf], rfl⟩
  · obtain ⟨x1, x2⟩ := x
    refine ⟨.ref s.heap.objs.size, _, I.laid (a := s.heap.objs.size) (o := SetO X.prog X.w s.heap.objs.size zs) (h' := h') (t' := tk) (fun b o q => x2 b o (Heap.lt_size q) q) (Nat.le_refl _) ?_, rfl, q _ I.fresh⟩
    refine ⟨x1, ?_, fun h1 h2 y k => setOf_stay y k⟩
    obtain ⟨o, _, _, _, g, _⟩ := x1
    exact ⟨o, g⟩
end
end L2

namespace L2
open PySem PySem.Spec PyProof.Rows
/-! ### exceptions that pass through loops and callers -/
/-- as ExcT, with the flight of the trace's head -/
def ExcF (h : Heap) (e T : Addr) (cls a0 fl : Value) : Prop :=
  ∃ oe vs oT ts, h.get? e = some oe ∧ (oe.cls = cls ∧ vs[0]? = some a0) ∧ oe.data = .fields vs ∧ vs[1]? = some (.ref T) ∧ T ≠ e ∧ h.get? T = some oT ∧ oT.data = .fields ts ∧ ts[3]? = some fl
/-- an exception in the frame at L: just made, flying, or held there -/
inductive ExcS (h : Heap) (L e : Addr) (cls a0 : Value) : List Addr → Prop where
  | fresh {oe : Obj} {vs : Array Value} (he : h.get? e = some oe) (hc : oe.cls = cls) (hd : oe.data = .fields vs) (h1 : vs[1]? = some Value.none) (h0 : vs[0]? = some a0) : ExcS h L e cls a0 []
  | fly {T : Addr} (x : ExcF h e T cls a0 .none) : ExcS h L e cls a0 [T]
  | held {T : Addr} (x : ExcF h e T cls a0 (rawInt L)) : ExcS h L e cls a0 [T]
section
variable {M : Model} {A : Around} {E : Value → Shared → Prop} {s : Shared} {base : Heap} {env : Env} {outer : List Env} {L e T : Addr} {a0 cls fl : Value} {Q : Unit → Shared → Prop} {Ts : List Addr}
theorem Stp.refl (F Y : List Addr) (h : Heap) : Stp F Y h h := ⟨fun _ _ _ _ q => q, fun _ o _ q => ⟨o.slots, q⟩⟩
/-- the frame's entry is there behind it -/
theorem note (hf : A.frames = some (env :: outer)) (ff : s.heap.FunFrames base (env :: outer)) (hL : env.frame = some L) (x : ExcS s.heap L e cls a0 Ts)
    (h : ∀ h' T', Stp (frs (env :: outer)) (e :: Ts) s.heap h' → ExcF h' e T' cls a0 (rawInt L) → (s.heap.get? T' = none ∨ T' ∈ Ts) → Q () { s with heap := h' }) : wpAny M A (noteFrame (.ref e) env) Q E s := by
  cases x with
  | @fresh oe vs he hc hd h1 h0 =>
    unfold noteFrame
    simp only [hL]
    refine wpAny_bind (wpAny_field he hd h1 ?_)
    rw [if_neg (by decide)]
    refine wpAny_entryW (base := PySem.W.hideAll s.heap ([e] ++ frs (env :: outer))) hf (hid_frames _ ff) hL he (fun b o q => PySem.W.of_hideAll _ q) (PySem.W.hideAll_none _ (by simp)) hd (Array.getElem?_eq_some_iff.mp h1).1 h0 fun h' lw => ?_
    obtain ⟨st, _, ⟨oe', vs', T, oT, ts, t1, t2, t3, t4, t5, t6, t7, t8, t9⟩, up⟩ := lw
    have hslot : ∀ b o, b ∈ frs (env :: outer) → s.heap.get? b = some o → ∃ sl, h'.get? b = some { o with slots := sl } := fun b o hb q => by
      obtain ⟨_, o2, q2, nf⟩ := ff.mem hb
      rw [q] at q2; cases q2
      exact up b o q nf
    refine h h' T ⟨fun b o hb hx q => st b o (PySem.W.hideAll_get _ q (by simp only [List.mem_append]; exact fun z => z.elim hx hb)), hslot⟩ ⟨oe', vs', oT, ts, t1, ⟨t2.1.trans hc, t2.2⟩, t3, t4, t6, t7, t8, t9⟩ ?_
    rcases new_head ff t5 hslot t7 t8 with z | z
    · exact .inl z
    · exact absurd (by simpa using z) t6
  | @fly T x =>
    obtain ⟨oe, vs, oT, ts, x1, x2, x3, x4, x5, x6, x7, x8⟩ := x
    refine wpAny_noteFrame_onW (base := PySem.W.hideAll s.heap ([e, T] ++ frs (env :: outer))) hf (hid_frames _ ff) hL ⟨oe, vs, T, oT, ts, x1, x2, x3, x4, PySem.W.hideAll_none _ (by simp), x5, x6, x7, x8⟩ (fun b o q => PySem.W.of_hideAll _ q) (PySem.W.hideAll_none _ (by simp)) fun h' lw => ?_
    obtain ⟨st, _, ⟨oe', vs', T', oT', ts', t1, t2, t3, t4, t5, t6, t7, t8, t9⟩, up⟩ := lw
    have hslot : ∀ b o, b ∈ frs (env :: outer) → s.heap.get? b = some o → ∃ sl, h'.get? b = some { o with slots := sl } := fun b o hb q => by
      obtain ⟨_, o2, q2, nf⟩ := ff.mem hb
      rw [q] at q2; cases q2
      exact up b o q nf
    refine h h' T' ⟨fun b o hb hx q => st b o (PySem.W.hideAll_get _ q (by simp only [List.mem_append]; exact fun z => z.elim hx hb)), hslot⟩ ⟨oe', vs', oT', ts', t1, t2, t3, t4, t6, t7, t8, t9⟩ ?_
    rcases new_head ff t5 hslot t7 t8 with z | z
    · exact .inl z
    · rcases List.mem_cons.mp z with z | z
      · exact absurd z t6
      · exact .inr z
  | @held T x =>
    obtain ⟨oe, vs, oT, ts, x1, x2, x3, x4, x5, x6, x7, x8⟩ := id x
    exact wpAny_noteFrame_againW (base := PySem.W.hideAll s.heap [T]) hL ⟨oe, vs, T, oT, ts, x1, x2, x3, x4, PySem.W.hideAll_none _ (by simp), x5, x6, x7, x8⟩ (h s.heap T (Stp.refl _ _ _) x (.inr (by simp)))
/-- the head's flight is set -/
theorem flyTo {fr : Option Addr} {l : List Env} (ff : s.heap.FunFrames base l) (x : ExcF s.heap e T cls a0 fl) (h : ∀ h', Stp (frs l) [e, T] s.heap h' → ExcF h' e T cls a0 (fr.elim Value.none fun f => rawInt f) → Q () { s with heap := h' }) : wpAny M A (setFlight (.ref e) fr) Q E s := by
  obtain ⟨oe, vs, oT, ts, x1, x2, x3, x4, x5, x6, x7, x8⟩ := x
  have sz : 3 < ts.size := (Array.getElem?_eq_some_iff.mp x8).1
  have oth : ∀ b, b ≠ T → (s.heap.update T (Obj.mapFields (·.setIfInBounds 3 (fr.elim Value.none fun f => rawInt f)))).get? b = s.heap.get? b := fun b hb => Heap.get?_update_other _ _ (Ne.symm hb)
  unfold setFlight
  refine wpAny_bind (wpAny_field x1 x3 x4 ?_)
  rw [if_pos (show (Value.ref T != Value.none) = true by simp)]
  refine wpAny_setField x6 x7 sz (h _ ⟨fun b o hb hx q => (oth b fun z => hx (by simp [z])).trans q, fun b o hb q => ?_⟩ ⟨oe, vs, _, _, (oth e (Ne.symm x5)).trans x1, x2, x3, x4, x5, Heap.get?_update_self _ x6 (Obj.isFreed_of_fields (Obj.data_mapFields x7 _)), Obj.data_mapFields x7 _, by simp [sz]⟩)
  obtain ⟨_, o2, q2, nf⟩ := ff.mem hb
  rw [q] at q2; cases q2
  exact ⟨o.slots, (oth b fun z => nf ts (by rw [z, x6] at q; cases q; exact x7)).trans q⟩
end
section
variable {X : Cx} {pins : List (Addr × Obj)} {σ : St} {H : Hp} {s : Shared} {h' : Heap} {Y : List Addr}
theorem Inv.excStepY (I : Inv X pins σ H s) (st : Stp (frs X.stack) Y s.heap h') (nY : ∀ b ∈ Y, NewAt X pins H b) : Inv X pins σ H { s with heap := h' } := by
  have hsub : ∀ b, b ≠ X.env.locals → b ∉ X.fs → b ∉ frs X.stack := fun b h1 h2 z => (List.mem_cons.mp (I.stkSub b z)).elim h1 h2
  have entY : ∀ b o, X.s₀.heap.get? b = some o → b ∉ Y := fun b o q z => by rw [(nY b z).ent] at q; cases q
  have neL : ∀ b o, X.s₀.heap.get? b = some o → b ≠ X.env.locals := fun b o q => Nat.ne_of_lt (Nat.lt_of_lt_of_le (Heap.lt_size q) I.ok.above)
  have any : ∀ b o, b ∉ Y → s.heap.get? b = some o → ∃ sl, h'.get? b = some { o with slots := sl } := fun b o hy q => by
    by_cases hF : b ∈ frs X.stack
    · exact st.slot b o hF q
    · exact ⟨o.slots, st.keep b o hF hy q⟩
  have cellK : ∀ x c, X.env.cells.lookup x = some c → ∀ v, s.heap.IsCell c v → h'.IsCell c v := fun x c ec v ⟨o, ho, hd⟩ => by
    obtain ⟨sl, q⟩ := any c o (fun z => (nY c z).cel x c ec rfl) ho
    exact ⟨_, q, hd⟩
  refine ⟨I.ok, I.os, I.bare, ⟨fun b o q n hb hxx => ?_, fun b o q n hb hxx => ?_, I.base.free, fun b o q hxx => ?_, I.base.tups, I.base.frzs, I.base.tbls⟩, ?_, fun x c ec => ?_, I.free, I.freeC, fun p hp => ?_, I.hok.stp st I.stkFree (fun b hb => (nY b hb).unt), I.len⟩
  · exact st.keep b o (hsub b (neL b o q) hb) (entY b o q) (I.base.keep b o q n hb hxx)
  · obtain ⟨sl, q1⟩ := I.base.slot b o q n hb hxx
    obtain ⟨sl2, q2⟩ := any b _ (entY b o q) q1
    exact ⟨sl2, q2⟩
  · obtain ⟨o1, q1⟩ := I.base.there b o q hxx
    obtain ⟨sl2, q2⟩ := any b _ (entY b o q) q1
    exact ⟨_, q2⟩
  · obtain ⟨m, ⟨oL, es, ep, hoL, r⟩, hl⟩ := I.loc
    obtain ⟨sl, q⟩ := any X.env.locals oL (fun z => (nY _ z).loc rfl) hoL
    refine ⟨m, ⟨_, es, ep, q, r⟩, fun i x v e1 e2 e3 => ?_⟩
    obtain ⟨u, ru, l⟩ := hl i x v e1 e2 e3
    refine ⟨u, ru, ?_⟩
    rcases l with l | ⟨k, c, ec, z⟩
    · exact .inl l
    · exact .inr ⟨k, c, ec, cellK x c ec _ z⟩
  · obtain ⟨v, z⟩ := I.cell x c ec
    exact ⟨v, cellK x c ec v z⟩
  · obtain ⟨q, n, nL, nf, d⟩ := I.pin p hp
    exact ⟨st.keep p.1 p.2 (hsub p.1 nL nf) (fun z => (nY _ z).pin p hp rfl) q, n, nL, nf, d⟩
end
/-- what is wanted of an exception in a def's body: it lies as ExcS tells, the state is that of the body -/
def XEof (X : Cx) (L : Addr) (E : XK) : Value → Shared → Prop := fun ev s' => ∃ (e C : Addr) (a0 : Value) (Ts : List Addr) (pins : List (Addr × Obj)) (σ : St) (H' : Hp), ev = .ref e ∧ Inv X pins σ H' s' ∧ ExcS s'.heap L e (.ref C) a0 Ts ∧ (∀ b ∈ e :: Ts, NewAt X pins H' b) ∧ E (.ref C) none H'
theorem passes_XE {X : Cx} {L : Addr} {E : XK} (hst : X.stack = X.env :: X.outer) (hfr : X.env.frame = some L) (hx : X.ex = []) : PassesOwn (model X.prog X.w) X.A X.env (XEof X L E) := by
  rintro ev s1 ⟨e, C, a0, Ts, pins, σ, H, rfl, I, x, ny, q⟩
  have fr1 : X.A.frames = some (X.env :: X.outer) := by rw [← hst]; exact I.ok.frames
  have ff1 : s1.heap.FunFrames X.base (X.env :: X.outer) := by rw [← hst]; exact I.stack
  refine note fr1 ff1 hfr x fun h2 T st x2 hT => ?_
  rw [← hst] at st
  have I2 := I.excStepY st ny
  have nT : NewAt X pins H T := by
    rcases hT with z | z
    · exact I.newAt hx z
    · exact ny T (List.mem_cons_of_mem e z)
  have n2 : ∀ b ∈ [e, T], NewAt X pins H b := fun b hb => by
    rcases List.mem_cons.mp hb with z | z
    · rw [z]; exact ny e List.mem_cons_self
    · rw [show b = T by simpa using z]; exact nT
  show wpAny (model X.prog X.w) X.A (do
    if (← field (.ref e) 1) == .none then unsupported "frame.own-activation:exception-without-traceback"
    setFlight (.ref e) X.env.frame) _ _ { s1 with heap := h2 }
  obtain ⟨oe, vs, oT, ts, y1, y2, y3, y4, y5, y6, y7, y8⟩ := id x2
  refine wpAny_bind (wpAny_field (s := { s1 with heap := h2 }) y1 y3 y4 ?_)
  rw [if_neg (show ¬ (Value.ref T == Value.none) = true by simp)]
  show wpAny (model X.prog X.w) X.A (setFlight (.ref e) X.env.frame) _ _ _
  rw [hfr]
  refine flyTo (s := { s1 with heap := h2 }) (l := X.stack) I2.stack x2 fun h3 st3 x3 => ?_
  exact ⟨e, C, a0, [T], pins, σ, H, rfl, I2.excStepY st3 n2, .held x3, n2, q⟩
section
variable {P : Program} {w : World} {K : PySem.W.Frag} {mg : Str → Option Value} {base : Heap} {N : List Str} {qual : Str} {scope : Scope} {f : Addr} {cd : Value} {A : Around} {outer : List Env} {s0 : Shared} {H0 : Hp} {E : XK}
/-- the context of a body that may raise -/
abbrev cxE (P : Program) (w : World) (K : PySem.W.Frag) (mg : Str → Option Value) (base : Heap) (N : List Str) (qual : Str) (scope : Scope) (f : Addr) (cd : Value) (A : Around) (outer : List Env) (s0 : Shared) (H0 : Hp) (E : XK) : Cx :=
  (cxOf (CX1 P w) P w K mg base N qual scope f cd A outer s0 H0 E).wish (XEof (cxOf (CX1 P w) P w K mg base N qual scope f cd A outer s0 H0 E) s0.heap.objs.size E)
/-- an exception leaves the body -/
theorem XE_leaves {ev : Value} {s : Shared} (h : XEof (cxOf (CX1 P w) P w K mg base N qual scope f cd A outer s0 H0 E) s0.heap.objs.size E ev s) : (cxOf (CX1 P w) P w K mg base N qual scope f cd A outer s0 H0 E).xe ev s := by
  obtain ⟨e, C, a0, Ts, pins, σ, H, rfl, I, x, ny, q⟩ := h
  have fr1 : (cxOf (CX1 P w) P w K mg base N qual scope f cd A outer s0 H0 E).A.frames = some (envOfC qual scope s0.heap.objs.size f cd :: outer) := I.ok.frames
  have hL : (envOfC qual scope s0.heap.objs.size f cd).frame = some s0.heap.objs.size := rfl
  show wpAny (model P w) _ (leaving (envOfC qual scope s0.heap.objs.size f cd) (.ref e)) _ _ s
  unfold leaving
  refine wpAny_bind (note fr1 I.stack hL x fun h2 T st x2 hT => ?_)
  have I2 := I.excStepY st ny
  have nT : NewAt (cxOf (CX1 P w) P w K mg base N qual scope f cd A outer s0 H0 E) pins H T := by
    rcases hT with z | z
    · exact I.newAt rfl z
    · exact ny T (List.mem_cons_of_mem e z)
  have ne := ny e List.mem_cons_self
  have n2 : ∀ b ∈ [e, T], NewAt (cxOf (CX1 P w) P w K mg base N qual scope f cd A outer s0 H0 E) pins H b := fun b hb => by
    rcases List.mem_cons.mp hb with z | z
    · rw [z]; exact ne
    · rw [show b = T by simpa using z]; exact nT
  refine flyTo (s := { s with heap := h2 }) (l := envOfC qual scope s0.heap.objs.size f cd :: outer) I2.stack x2 fun h3 st3 x3 => ?_
  refine ⟨e, T, C, a0, H, rfl, I2.os, I2.bare, I2.base.stp st3 (fun b o q hb => ?_) (fun b hb => ?_) (fun b hb => (n2 b hb).ent), I2.hok.stp st3 I2.stkFree (fun b hb => (n2 b hb).unt), x3, ne.ent, nT.ent, ne.unt, nT.unt, q⟩
  · rcases List.mem_cons.mp (I2.stkSub b hb) with z | z
    · exact absurd (Nat.lt_of_lt_of_le (Heap.lt_size q) I2.ok.above) (by rw [z]; exact Nat.lt_irrefl _)
    · exact z
  · show b ∈ frs (envOfC qual scope s0.heap.objs.size f cd :: outer)
    unfold frs
    rw [List.filterMap_cons]
    exact List.mem_cons_of_mem _ hb
theorem PSs.leaves {st : List Stmt} {t : TS} (h : PSs (cxE P w K mg base N qual scope f cd A outer s0 H0 E) st t) : PSs (cxOf (CX1 P w) P w K mg base N qual scope f cd A outer s0 H0 E) st t := fun pins s σ H D I hw =>
  wpAny_mono (h pins s σ H D (I.wish _) hw) (fun _ _ q => q.unwish) fun _ _ z => XE_leaves z
/-- THE RULE for a def that may raise, in loops too -/
theorem Fun.okE {x : Str} {st : Stmt} {fd : FuncData} {ps : List Str} {k : Nat} {sp : Sp} (F : Fun K x qual st f fd) (S : FnScope N ps (defScope st)) (len : ∀ vs H Q E, sp vs H Q E → vs.length = ps.length)
    (hbody : ∀ (cdv : Value) (A : Around) (outer : List Env) (s : Shared) (H : Hp) (vs : List V) (Q : VK) (E : XK), Room k (A.deeper (envOfC qual (defScope st) s.heap.objs.size f cdv)) → sp vs H Q E →
      ∃ t, PSs (cxE P w K mg base N qual (defScope st) f cdv A outer s H E) (defBody st) t ∧ t { nx := fun _ H' => Q .non H', rt := Q } (start N vs) H) : FnOk P w K mg base (CX1 P w) (k + 1) f fd ps sp := by
  obtain ⟨oc, od, kV, doc, pm, an, cdv, ct, osl, rfl, lk, hcd⟩ := F.ex
  refine fn_of lk hcd S len fun A outer s H vs Q E hr hsp => ?_
  obtain ⟨t, h, q⟩ := hbody cdv A outer s H vs Q E hr hsp
  exact ⟨t, h.leaves, q⟩
/-- raise C(..) -/
theorem ps_raiseE {x : Str} {C : Addr} {np cpos pos : Pos} {e₀ : Expr} {es : List Expr} {t : TA} (X : ExcCls K C) (hd : A.handled = none) (hg : Gl (cxE P w K mg base N qual scope f cd A outer s0 H0 E) x) (hm : mg x = some (.ref C))
    (ha : PA (cxE P w K mg base N qual scope f cd A outer s0 H0 E) (e₀ :: es) t) (hdb : (x == ("__debug__" : Str)) = false := by decide)
    (he : starEach (e₀ :: es) (envOfC qual scope s0.heap.objs.size f cd) = (false, eval e₀ (envOfC qual scope s0.heap.objs.size f cd)) :: starEach es (envOfC qual scope s0.heap.objs.size f cd) := by rfl)
    (hpl : (backTo cpos (starEach es (envOfC qual scope s0.heap.objs.size f cd))).any (·.1) = false := by rfl) :
    PS (cxE P w K mg base N qual scope f cd A outer s0 H0 E) (.Raise (some (.Call (.Name x np) (e₀ :: es) [] cpos)) none pos) (tRaise C E t) := by
  intro pins s σ H D I h
  obtain ⟨bmB, bmN, newId, B, Bn, nid, initId, inN, hx, F1, F2, F3⟩ := X.ex
  obtain ⟨bm, N', nm, q, bs, hdct, sn, sub, ab, col, dd, k0, k1, k2, k3, k5, mN, o1, o2, o3, o4⟩ := ExcCls.obj I.ok.mod.kin hx
  refine wpAny_Raise_call_subU (C := C) (nm := nm) (q := q) (N := N') (bs := bs) (bm := bm) (hdct := hdct) (sn := sn) (sub := sub) (ab := ab) (col := col) (dd := dd) (k0 := k0) (k1 := k1) (k2 := k2) (k3 := k3) (k5 := k5) F1 F2 F3 (OwnTail.hasType o4 F3.hasBase) hd (by
    show (backTo cpos (starEach (e₀ :: es) (envOfC qual scope s0.heap.objs.size f cd))).any (·.1) = false
    rw [he]
    show (false || (backTo cpos (starEach es (envOfC qual scope s0.heap.objs.size f cd))).any (·.1)) = false
    rw [hpl]; rfl) (mN := mN) o3 (ld_glob I hg hm ⟨rfl, ?_⟩ hdb)
  show wpAny _ _ (evalArgs (.ref C) true (backTo cpos (starEach (e₀ :: es) (envOfC qual scope s0.heap.objs.size f cd))) []) _ _ s
  rw [he]
  refine Calls.evalArgs_plain ?_
  have z : wpAny (model P w) (cxE P w K mg base N qual scope f cd A outer s0 H0 E).A (spliced (backTo cpos (starEach (e₀ :: es) (envOfC qual scope s0.heap.objs.size f cd)))) _ _ s := ha cpos pins s σ H _ I h
  rw [he] at z
  refine thn z fun us s2 ⟨vs, H2, I2, r, hl, q2⟩ => ⟨rfl, by rw [← r.length]; exact hl, ?_⟩
  refine ⟨I2.bk C _ o1, ?_, o4.keeps I2.bk, fun h' e m => ?_⟩
  · obtain ⟨o, es', ep, g1, g2⟩ := o2
    exact ⟨o, es', ep, I2.bk _ _ g1, g2⟩
  · have J := I2.unwish
    obtain ⟨t', he', _, _⟩ := m.there
    refine ⟨e, C, .ref t', [], pins, σ, H2, rfl, J.kept (t' := s2.toks) m.keeps, .fresh he' rfl rfl rfl rfl, fun b hb => ?_, q2⟩
    rw [show b = e by simpa using hb]
    exact J.newAt rfl m.new
/-- what a callee raises passes on -/
theorem passE : Passes (CX1 P w) (cxE P w K mg base N qual scope f cd A outer s0 H0 E) E := fun pins σ H s ev s' I h => by
  obtain ⟨e, T, C, a0, H', rfl, J, x, ne, nT, q⟩ := (I.unwish).afterX (EX := fun C H' => E (.ref C) none H') rfl (fun _ _ z => z) h
  refine ⟨e, C, a0, [T], pins, σ, H', rfl, J, .fly x, fun b hb => ?_, q⟩
  rcases List.mem_cons.mp hb with z | z
  · rw [z]; exact ne
  · rw [show b = T by simpa using z]; exact nT
end
end L2

namespace L2
open PySem PySem.Spec PyProof.Rows
/-! ### list.index, len of a set of texts, calls whose exceptions pass on -/
section
variable {X : Cx}
def rIndex (K : PySem.W.Frag) : V → List V → Hp → VK → Prop := fun x vs H Q => ∃ (p : Addr) (xs : List V) (y z : V) (j : Nat), x = .ref p ∧ vs = [y] ∧ SqL K H p xs ∧ flatV y = true ∧ xs.all flatV = true ∧ xs[j]? = some z ∧ eqV z y = true ∧ (∀ (m : Nat) (u : V), m < j → xs[m]? = some u → eqV u y = false) ∧ Q (.int j) H
theorem call_len_setO : CallR X (.builtin "len") (fun xs H Q => ∃ (l : Addr) (zs : List Str), xs = [.ref l] ∧ H l = some (SetO X.prog X.w l zs) ∧ zs.length ≤ 1000 ∧ Q (.int ((cntK zs zs.length : Nat) : Int)) H) := by
  intro pins s σ H xs us Q I r h
  obtain ⟨l, zs, rfl, e, hz, q⟩ := h
  obtain ⟨u, rfl, ru⟩ := r.one
  obtain rfl : u = Value.ref l := ru
  obtain ⟨⟨o, es, ep, t, g1, g2, g3, _, _, _, g4, g5⟩, _, _⟩ := I.hok l _ e
  have le := cntK_le zs zs.length
  refine call_len_set g1 g2 g3 g4 (by rw [g5]; omega) ⟨.int _, H, I.tok _, ⟨_, rfl⟩, ?_⟩
  rw [g5]; exact q
end
/-- calls, with what is wanted of their exceptions -/
def tFnE (sp : Sp) (E : XK) (t : TA) : TE := fun σ H Q => t σ H fun vs H1 => sp vs H1 Q E
def tMtE (C : Addr) (m : Str) (sp : Sp) (E : XK) (ta : TE) (t : TA) : TE := fun σ H Q => ta σ H fun x H1 => ∃ a dx fs, x = .ref a ∧ H1 a = some (.ins C dx fs) ∧ fs.lookup m = none ∧ t σ H1 fun vs H2 => sp (x :: vs) H2 Q E
def tMkE (C : Addr) (sp : Sp) (E : XK) (t : TA) : TE := fun σ H Q => t σ H fun vs H1 => ∀ x dx, H1 x = none → H1 dx = none → dx ≠ x →
  sp (.ref x :: vs) (upd (upd H1 dx (.own x)) x (.ins C dx [])) (fun v H2 => v = .non ∧ Q (.ref x) H2) E
section
variable {X : Cx} {k : Nat} {f C : Addr} {fd : FuncData} {ps : List Str} {sp : Sp} {x m : Str} {p np pos apos : Pos} {e o : Expr} {es : List Expr} {ta : TE} {t : TA} {E : XK}
theorem pe_fnE (M : CalleeX X.prog X.w X.K X.mg X.base k x ps sp) (hx : Passes (CX1 X.prog X.w) X E) (hr : Room k X.A) (hg : Gl X x) (ha : PA X (e :: es) t) (hdb : (x == ("__debug__" : Str)) = false := by decide)
    (he : starEach (e :: es) X.env = (false, eval e X.env) :: starEach es X.env := by rfl) (hpl : (backTo pos (starEach es X.env)).any (·.1) = false := by rfl) : PE X (.Call (.Name x p) (e :: es) [] pos) (tFnE sp E t) := by
  obtain ⟨f, fd, F, b, kk, hm⟩ := M
  intro pins s σ H Q I h
  refine wpAny_Call_Name_kw (ld_glob I hg hm ?_ hdb)
  refine PySem.W.callWith_K (h₀ := X.base) I.ok.mod.kin kk (thn (ha pos pins s σ H _ I h) fun us s1 ⟨vs, H1, I1, r, q⟩ => ⟨I1.kIn, run0 F hr b hx I1 r q⟩) he hpl
end
end L2

namespace L2
open PySem PySem.Spec PyProof.Rows
/-! ### min and max of a list of ints; a set of ints and how many it has -/
section
variable {X : Cx}
end
/-- a set of ints -/
def SetI (P : Program) (w : World) (a : Addr) (ns : List Int) : HO := .ext fun h => h.SetOf (intKind P w) a (fun z => decide (z ∈ ns)) (cntK ns ns.length)
section
variable {X : Cx}
end
end L2
namespace L2
open PySem PySem.Spec PyProof.Rows
section
variable {X : Cx}
def rUpper : V → List V → Hp → VK → Prop := fun x vs H Q => ∃ z : Str, x = .str z ∧ vs = [] ∧ z.length ≤ 1000 ∧ Q (.str (Txt.upper z)) H
end
end L2

namespace L2
open PySem PySem.Spec PyProof.Rows
/-! ### isinstance against an own class or a built-in one, of a tuple of the module too -/
def TyG (K : PySem.W.Frag) (H : Hp) (x : V) (t : Value) : Prop := TyOf K H x t ∨ ∃ a ys, x = .ref a ∧ SqT K H a ys ∧ t = .type "tuple"
inductive ClV : V → Value → Prop where
  | ty (T : String) : ClV (.ty T) (.type T)
  | ref (C : Addr) : ClV (.ref C) (.ref C)
section
variable {X : Cx}
theorem call_isiG : CallR X (.builtin "isinstance") (fun xs H Q => ∃ x c cv t b, xs = [x, c] ∧ ClV c cv ∧ TyG X.K H x t ∧ PySem.W.kitOne X.K t cv = some b ∧ Q (.bl b) H) := by
  intro pins s σ H xs us Q I r h
  obtain ⟨x, c, cv, t, b, rfl, rc, ty, e, q⟩ := h
  cases r with
  | cons rx r2 =>
    cases r2 with
    | @cons _ cu _ _ ry r3 =>
      cases r3
      have ec : cu = cv := by cases rc <;> exact ry
      subst ec
      rcases ty with ty | ⟨a, ys, rfl, hS, rfl⟩
      · exact isinst_ok I rx ty e fun tk => ⟨.bl b, H, I.tok tk, rfl, q⟩
      · cases (show _ = Value.ref a from rx)
        obtain ⟨its, r, ⟨o, h1, h2, _⟩, _⟩ := I.tuple hS
        exact PySem.W.kia_one PySem.W.kitx_tuple I.kIn ⟨o, h1, h2⟩ e (fun z => nomatch z) fun tk => ⟨.bl b, H, I.tok tk, rfl, q⟩
end
/-- what the text must have for isinstance of an instance of C -/
structure InsT (K : PySem.W.Frag) (C : Addr) : Prop where
  cl : Cls K C
  ha : PySem.W.findIn K (.ref C) "__class__" = some (some (.builtin "object.__class__"))
  hn : PySem.W.specialIn K (.builtin "object.__class__") "__get__" = some (some (.builtin "getset_descriptor.__get__"))
  tk : PySem.W.takesIn K (.builtin "object.__class__") = some true
  hm : PySem.W.mroIn K C (.type "object") = some true
theorem InsT.ty {K : PySem.W.Frag} {C : Addr} (h : InsT K C) {H : Hp} {a dx : Addr} {fs : List (Str × V)} (e : H a = some (.ins C dx fs)) : TyG K H (.ref a) (.ref C) := .inl (.ins e h.cl h.ha h.hn h.tk h.hm)
/-! ### a method of one of several classes -/
def PolM (CX : CXT) (P : Program) (w : World) (K : PySem.W.Frag) (mg : Str → Option Value) (base : Heap) (k : Nat) (m : Str) (ps : List Str) (cs : List (Addr × Sp)) : Prop :=
  ∀ p ∈ cs, MCallee CX P w K mg base k p.1 m ps p.2 ∧ Cls K p.1
section
variable {CX : CXT} {P : Program} {w : World} {K : PySem.W.Frag} {mg : Str → Option Value} {base : Heap} {k : Nat} {C : Addr} {m : Str} {ps : List Str} {sp : Sp} {cs : List (Addr × Sp)}
theorem poln : PolM CX P w K mg base k m ps [] := fun _ h => nomatch h
theorem polc (M : MCallee CX P w K mg base k C m ps sp) (c : Cls K C) (r : PolM CX P w K mg base k m ps cs) : PolM CX P w K mg base k m ps ((C, sp) :: cs) := fun p h => by
  rcases List.mem_cons.mp h with rfl | h
  · exact ⟨M, c⟩
  · exact r p h
end
def tMtP (cs : List (Addr × Sp)) (m : Str) (ta : TE) (t : TA) : TE := fun σ H Q => ta σ H fun x H1 => ∃ a p dx fs, x = .ref a ∧ p ∈ cs ∧ H1 a = some (.ins p.1 dx fs) ∧ fs.lookup m = none ∧ t σ H1 fun vs H2 => p.2 (x :: vs) H2 Q E0
section
variable {X : Cx} {CX : CXT} {k : Nat} {f C : Addr} {fd : FuncData} {ps : List Str} {sp : Sp} {x m : Str} {p np pos apos : Pos} {e o : Expr} {es : List Expr} {ta : TE} {t : TA} {cs : List (Addr × Sp)}
theorem pe_mtP {pl : Sem Bool} (M : PolM CX X.prog X.w X.K X.mg X.base k m ps cs) (hx : Passes CX X E0) (hr : Room k X.A) (he : PE X o ta) (ha : PA X (e :: es) t)
    (hst : starEach (e :: es) X.env = (false, eval e X.env) :: starEach es X.env := by rfl) (hpl : (backTo pos (starEach es X.env)).any (·.1) = false := by rfl)
    (ht : eval (.Call (.Attribute o m apos) (e :: es) [] pos) X.env = (do
      let ov ← eval o X.env
      standAt apos.atName
      let (f, first) ← holding [ov] (getMethod ov m pl)
      callWith pos f first (backTo pos (starEach (e :: es) X.env)) (backToKw pos (keywordEach [] X.env))) := by rfl) :
    PE X (.Call (.Attribute o m apos) (e :: es) [] pos) (tMtP cs m ta t) := by
  intro pins s σ H Q I h
  refine PySem.W.methodCall_KW (pl := pl) (thn (he pins s σ H _ I h) fun u s1 ⟨x, H1, I1, rx, a, p, dx, fs, ex, hp, ea, l, q⟩ => ?_) ht
  obtain ⟨⟨f, fd, hm, F, hb⟩, c⟩ := M p hp
  subst ex
  obtain rfl : u = Value.ref a := rx
  refine getmeth_ok I1 ea c hm l ?_
  refine PySem.W.callWith_K (first := [.ref a]) (h₀ := X.base) I.ok.mod.kin hm.kp (thn (ha pos pins s1 σ H1 _ I1 q) fun us s2 ⟨vs, H2, I2, r, q2⟩ => ⟨I2.kIn, ?_⟩) hst hpl
  exact run0 (us := .ref a :: us) (vs := .ref a :: vs) F hr hb hx I2 (.cons rfl r) q2
/-- C() -/
theorem pe_mk0 (M : MkCallee CX X.prog X.w X.K X.mg X.base k x C ps sp) (hx : Passes CX X E0) (hr : Room (k + 1) X.A) (hg : Gl X x) (hdb : (x == ("__debug__" : Str)) = false := by decide) :
    PE X (.Call (.Name x p) [] [] pos) (tMk C sp tNil) := by
  obtain ⟨f, fd, M, F, hb, hm⟩ := M
  have h := pe_make0 (E := E0) (dvs := []) (ds := []) (p := p) (pos := pos) M F hr hg hm hb .nil hx hdb
  intro pins s σ H Q I q
  exact h pins s σ H Q I q
end
/-! ### a tuple of the module -/
def ModT (K : PySem.W.Frag) (a : Addr) (xs : List V) : Prop := ∃ (o : Obj) (its : Array Value) (n : Nat), K.lookup a = some o ∧ o.cls = .type "tuple" ∧ o.data = .seq its n ∧ its.size ≤ sizeLine ∧ Vals xs its.toList
end L2
namespace L2
open PySem PySem.Spec PyProof.Rows
/-- two lists with the same items -/
theorem rEqL_same {K : PySem.W.Frag} {H : Hp} {Q : VK} {a b : Addr} {xs : List V} (ha : SqL K H a xs) (hb : SqL K H b xs) (fl : ∀ x ∈ xs, flatV x = true ∨ ∃ r, x = .ref r) (q : Q (.bl true) H) : rEqL K false (.ref a) (.ref b) H Q := by
  refine ⟨a, b, xs, xs, rfl, rfl, ha, hb, .inr ⟨rfl, fun _ => true, fun j x y e1 e2 => ?_, ?_⟩⟩
  · rw [e1] at e2; cases e2
    rcases fl x (List.mem_of_getElem? e1) with z | ⟨r, rfl⟩
    · have := EqI.flat (K := K) (H := H) z z
      rw [eqV_refl z] at this
      exact this
    · exact .same r
  · have : (List.range xs.length).all (fun _ => true) = true := by simp
    rw [this]
    exact q
theorem iteTS {c A B : Prop} [Decidable c] (hc : c) (h : A) : if decide c = true then A else B := by rw [if_pos (decide_eq_true hc)]; exact h
theorem iteFS {c A B : Prop} [Decidable c] (hc : ¬ c) (h : B) : if decide c = true then A else B := by rw [if_neg (by rw [decide_eq_false hc]; decide)]; exact h
end L2

namespace L2
open PySem PySem.Spec PyProof.Rows
/-! ### for a, b in zip(xs, ys), of two lists that stay -/
section
variable {X : Cx} {pins : List (Addr × Obj)} {σ : St} {H : Hp} {s : Shared} {h' : Heap}
/-- some records of an iterator have turned, and a new pair has come -/
theorem Inv.turnedPair {ch : List Addr} {T : Addr} {x y : V} {u v : Value} (I : Inv X pins σ H s) (hf : ∀ b ∈ ch, FpOk X pins H b) (k : ∀ b o, b ∉ ch → s.heap.get? b = some o → h'.get? b = some o)
    (nT : s.heap.get? T = none) (hT : H T = none) (gT : IsPair h' T u v) (rx : RelV x u) (ry : RelV y v) : Inv X pins σ (upd H T (.tup [x, y])) { s with heap := h' } := by
  have out : ∀ b u, H b = some u → b ∉ ch := fun b u e z => by
    have f := (hf b z).1
    rw [f] at e
    cases e
  have neT : ∀ {b o}, s.heap.get? b = some o → b ≠ T := fun e z => by rw [z, nT] at e; cases e
  have neH : ∀ {b u}, H b = some u → b ≠ T := fun e z => by rw [z, hT] at e; cases e
  have J := Inv.step (H' := upd H T (.tup [x, y])) (h' := h') (g' := s.gens) (d' := s.drawn) (t' := s.toks) (ch := ch) I
    (fun b hb => by obtain ⟨_, f1, _, f3, f4, f5⟩ := hf b hb; exact ⟨f3, f1, f4, f5⟩)
    (fun b o _ _ hc e _ => k b o hc e)
    (fun b o _ _ hc e _ => ⟨o.slots, k b o hc e⟩)
    (fun b o _ e n => by rw [upd_ne (neT e)]; exact n)
    (fun b o hc e => ⟨o, k b o hc e⟩)
    (fun b xs e => by rw [upd_ne (neH e)]; exact e)
    (fun b o w e => by rw [upd_ne (neH e)]; exact e)
    (fun b ps e => ⟨#[], by rw [upd_ne (neH e), e]; simp⟩)
    (fun m hm => by
      obtain ⟨o, es, ep, ho, r⟩ := hm
      refine ⟨o, es, ep, k _ o (fun z => ?_) ho, r⟩
      obtain ⟨_, f1, _⟩ := hf _ z
      exact f1 rfl)
    (fun b w e => by
      by_cases hb : b = T
      · subst hb
        rw [upd_same] at e
        cases e
        exact ⟨by show 2 ≤ sizeLine; decide, [u, v], .cons rx (.cons ry .nil), _, gT, rfl, _, rfl⟩
      · rw [upd_ne hb] at e
        refine (I.hok b w e).stay (fun c z hc q => k c z ?_ q) (fun c q => ?_) fun c xs q => ?_
        · rcases hc with z | z
          · rw [z]; exact out b w e
          · exact out c _ z
        · rw [upd_ne (neH q)]; exact q
        · rw [upd_ne (neH q)]; exact q)
    I.bare
  exact J
/-- some records of an iterator have turned -/
theorem Inv.turnedL {ch : List Addr} (I : Inv X pins σ H s) (hf : ∀ b ∈ ch, FpOk X pins H b) (k : ∀ b o, b ∉ ch → s.heap.get? b = some o → h'.get? b = some o) : Inv X pins σ H { s with heap := h' } := by
  have out : ∀ b u, H b = some u → b ∉ ch := fun b u e z => by
    have f := (hf b z).1
    rw [f] at e
    cases e
  have J := Inv.step (H' := H) (h' := h') (g' := s.gens) (d' := s.drawn) (t' := s.toks) (ch := ch) I
    (fun b hb => by obtain ⟨_, f1, _, f3, f4, f5⟩ := hf b hb; exact ⟨f3, f1, f4, f5⟩)
    (fun b o _ _ hc e _ => k b o hc e)
    (fun b o _ _ hc e _ => ⟨o.slots, k b o hc e⟩)
    (fun b o _ _ n => n)
    (fun b o hc e => ⟨o, k b o hc e⟩)
    (fun b xs e => e) (fun b o w e => e) (fun b ps e => ⟨#[], by rw [e]; simp⟩)
    (fun m hm => by
      obtain ⟨o, es, ep, ho, r⟩ := hm
      refine ⟨o, es, ep, k _ o (fun z => ?_) ho, r⟩
      obtain ⟨_, f1, _⟩ := hf _ z
      exact f1 rfl)
    (fun b w e => by
      refine (I.hok b w e).stay (fun c z hc q => k c z ?_ q) (fun c q => q) fun c xs q => q
      rcases hc with z | z
      · rw [z]; exact out b w e
      · exact out c _ z)
    I.bare
  exact J
end
/-- the walk of zip over the lists at a and b -/
def Itz (K : PySem.W.Frag) (a b : Addr) : It :=
  ⟨fun i H => ∃ xs ys x y, SqL K H a xs ∧ SqL K H b ys ∧ xs[i]? = some x ∧ ys[i]? = some y,
   fun i H v H' => ∃ T, H T = none ∧ v = .ref T ∧ ∀ xs ys x y, SqL K H a xs → SqL K H b ys → xs[i]? = some x → ys[i]? = some y → H' = upd H T (.tup [x, y]),
   fun i H => ∃ xs ys, SqL K H a xs ∧ SqL K H b ys ∧ (xs.length ≤ i ∨ ys.length ≤ i)⟩
/-- the iterator's records -/
def ZipSt (z TI TO i1 i2 a b : Addr) (i : Nat) (h : Heap) : Prop := IsZip h z TI TO .none ∧ IsPair h TI (.ref i1) (.ref i2) ∧ (∃ p q, IsPair h TO p q) ∧ h.IsListIter i1 a i ∧ h.IsListIter i2 b i
theorem turn_zip {P : Program} {w : World} {K : PySem.W.Frag} {elts : List Expr} {x1} {tp : Pos} {z TI TO i1 i2 a b : Addr} (D : ZipApart z TI TO i1 i2 a b) :
    Turn P w K (.Tuple elts x1 tp) (Itz K a b) [z, TI, TO, i1, i2] z (ZipSt z TI TO i1 i2 a b) where
  mem := by simp
  obj := fun i h st c hc => by
    obtain ⟨g1, g2, ⟨p, q, g3⟩, ⟨o4, g4, _, d4⟩, ⟨o5, g5, _, d5⟩⟩ := st
    simp only [List.mem_cons, List.not_mem_nil, or_false] at hc
    rcases hc with rfl | rfl | rfl | rfl | rfl
    · exact ⟨_, g1, fun v q => nomatch q⟩
    · exact ⟨_, g2, fun v q => nomatch q⟩
    · exact ⟨_, g3, fun v q => nomatch q⟩
    · exact ⟨_, g4, fun v q => by rw [d4] at q; cases q⟩
    · exact ⟨_, g5, fun v q => by rw [d5] at q; cases q⟩
  keep := fun i h h' st k => by
    obtain ⟨g1, g2, ⟨p, q, g3⟩, g4, g5⟩ := st
    exact ⟨k z (by simp) _ g1, k TI (by simp) _ g2, ⟨p, q, k TO (by simp) _ g3⟩, g4.at fun o e => k i1 (by simp) o e, g5.at fun o e => k i2 (by simp) o e⟩
  item := by
    intro X hP hw hK hc i pins s σ H E I hf st hg
    subst hP hw hK
    obtain ⟨xs, ys, x, y, qa, qb, ex, ey⟩ := hg
    obtain ⟨g1, g2, ⟨p, q, g3⟩, g4, g5⟩ := st
    obtain ⟨us, ru, pu, _⟩ := I.list qa
    obtain ⟨vs, rv, pv, _⟩ := I.list qb
    obtain ⟨u, eu, r1⟩ := ru.get ex
    obtain ⟨v, ev, r2⟩ := rv.get ey
    refine wpAny_pyNext_zip_item D g1 g2 g3 g4 g5 pu.isList pv.isList (x := u) (y := v) (by simpa using eu) (by simpa using ev) fun h1 a1 a2 a3 a4 a5 a6 a7 => ?_
    refine ⟨_, rfl, wpAny_letOwnedTupleGo_zip (s := { s with heap := h1 }) a1 fun h2 b1 b2 => ?_⟩
    have nT : s.heap.get? s.heap.objs.size = none := by
      cases q : s.heap.get? s.heap.objs.size with
      | none => rfl
      | some o => exact absurd (Heap.lt_size q) (Nat.lt_irrefl _)
    have hT : H s.heap.objs.size = none := I.hok.fresh (Nat.le_refl _)
    have nz : s.heap.objs.size ≠ z := Nat.ne_of_gt (Heap.lt_size g1)
    have kk : ∀ c o, c ∉ [z, TO, i1, i2] → s.heap.get? c = some o → h2.get? c = some o := fun c o hc e => by
      simp only [List.mem_cons, List.not_mem_nil, or_false, not_or] at hc
      exact b2.extBut _ _ hc.1 (a7 c o hc.1 hc.2.1 hc.2.2.1 hc.2.2.2 e)
    have J := I.turnedPair (h' := h2) (ch := [z, TO, i1, i2]) (T := s.heap.objs.size) (x := x) (y := y) (u := u) (v := v) (fun c hc => hf c (by simp at hc ⊢; rcases hc with e | e | e | e <;> simp [e])) kk nT hT (b2.extBut _ _ nz a5) r1 r2
    refine ⟨.ref s.heap.objs.size, upd H s.heap.objs.size (.tup [x, y]), J, rfl, ⟨_, hT, rfl, fun xs' ys' x' y' q1 q2 e1 e2 => ?_⟩, ⟨b1, b2.extBut _ _ D.TIz (a7 TI _ D.TIz D.TITO D.TIi1 D.TIi2 g2), ⟨_, _, b2.extBut _ _ D.TOz a2⟩, a3.extBut b2.extBut D.i1z, a4.extBut b2.extBut D.i2z⟩, fun c hc => ?_⟩
    · rw [I.list_inj q1 qa] at e1
      rw [I.list_inj q2 qb] at e2
      rw [ex] at e1; rw [ey] at e2
      cases e1; cases e2
      rfl
    · have h0 := (hf c hc).1
      have : c ≠ s.heap.objs.size := by
        obtain ⟨o4, g4', _⟩ := g4
        obtain ⟨o5, g5', _⟩ := g5
        simp only [List.mem_cons, List.not_mem_nil, or_false] at hc
        rcases hc with rfl | rfl | rfl | rfl | rfl
        · exact nz.symm
        · exact Nat.ne_of_lt (Heap.lt_size g2)
        · exact Nat.ne_of_lt (Heap.lt_size g3)
        · exact Nat.ne_of_lt (Heap.lt_size g4')
        · exact Nat.ne_of_lt (Heap.lt_size g5')
      rw [upd_ne this]; exact h0
  done := by
    intro X hP hw hK hc i pins s σ H E I hf st hg
    subst hP hw hK
    obtain ⟨xs, ys, qa, qb, hl⟩ := hg
    obtain ⟨g1, g2, ⟨p, q, g3⟩, g4, g5⟩ := st
    obtain ⟨us, ru, pu, _⟩ := I.list qa
    obtain ⟨vs, rv, pv, _⟩ := I.list qb
    have l1 := ru.length
    have l2 := rv.length
    refine wpAny_pyNext_zip_end (I.ok.hd hc) D g1 g2 g3 g4 g5 pu.isList pv.isList ?_ fun h2 k => ⟨rfl, I.turnedL (ch := [z, TO, i1, i2]) (fun c hc => hf c (by simp at hc ⊢; rcases hc with e | e | e | e <;> simp [e])) fun c o hc e => ?_⟩
    · rcases hl with hl | hl
      · exact .inl (by simp; omega)
      · exact .inr (by simp; omega)
    · simp only [List.mem_cons, List.not_mem_nil, or_false, not_or] at hc
      exact k c o hc.1 hc.2.1 hc.2.2.1 hc.2.2.2 e
  self := fun _ _ _ _ _ st h => wpAny_pyIter_zip st.1 h
def iZip (K : PySem.W.Frag) (ta : TA) : TI := fun σ H R => ta σ H fun vs H1 => ∃ a b, vs = [.ref a, .ref b] ∧ (∃ xs, SqL K H1 a xs) ∧ (∃ ys, SqL K H1 b ys) ∧ R (Itz K a b) H1
section
variable {X : Cx}
theorem pi_zip {e1 e2 : Expr} {ta : TA} {p pos : Pos} {elts : List Expr} {x1} {tp : Pos} (hg : Gl X "zip") (hm : X.mg "zip" = none) (ha : PA X [e1, e2] ta)
    (hs : starEach [e1, e2] X.env = [(false, eval e1 X.env), (false, eval e2 X.env)] := by rfl) (hs2 : starEach [e2] X.env = [(false, eval e2 X.env)] := by rfl) :
    PI X (.Tuple elts x1 tp) (.Call (.Name "zip" p) [e1, e2] [] pos) (iZip X.K ta) := by
  intro pins s σ H R I h
  refine Call_ (ld_blt I hg hm PyProof.Rows.boot_zip (PyProof.Rows.callWith_type1 (thn (ha pos pins s σ H _ I h) fun us s1 ⟨vs, H1, I1, r1, q1⟩ => ?_) (by rw [hs, hs2]) (by rw [hs2]; rfl)))
  obtain ⟨a, b, rfl, ⟨xs, qa⟩, ⟨ys, qb⟩, q⟩ := q1
  obtain ⟨u, v, rfl, ru, rv⟩ := r1.two
  cases (show u = Value.ref a from ru)
  cases (show v = Value.ref b from rv)
  obtain ⟨us, _, pu, _⟩ := I1.list qa
  obtain ⟨vs, _, pv, _⟩ := I1.list qb
  obtain ⟨oa, ea, _⟩ := id pu.isList
  obtain ⟨ob, eb, _⟩ := id pv.isList
  have la : a < s1.heap.objs.size := Heap.lt_size ea
  have lb : b < s1.heap.objs.size := Heap.lt_size eb
  refine call_zip_2 pu.isList pv.isList fun h' z1 z2 z3 z4 z5 z6 z7 => ?_
  refine wpAny_pyIter_zip (s := { s1 with heap := h' }) z1 ?_
  refine ⟨s1.heap.objs.size + 4, [s1.heap.objs.size + 4, s1.heap.objs.size + 2, s1.heap.objs.size + 3, s1.heap.objs.size, s1.heap.objs.size + 1], ZipSt (s1.heap.objs.size + 4) (s1.heap.objs.size + 2) (s1.heap.objs.size + 3) s1.heap.objs.size (s1.heap.objs.size + 1) a b, Itz X.K a b, H1, rfl, I1.kept (t' := s1.toks) z7, turn_zip ?_, ⟨z1, z2, ⟨_, _, z3⟩, z4, z5⟩, fun c hc => ?_, q⟩
  · refine ⟨?_, ?_, ?_, ?_, ?_, ?_, ?_, ?_, ?_, ?_, ?_, ?_, ?_, ?_, ?_, ?_, ?_, ?_⟩ <;> first | exact Nat.ne_of_lt (by omega) | exact Nat.ne_of_gt (by omega) | exact Nat.ne_of_lt la | exact Nat.ne_of_lt lb | exact Nat.ne_of_lt (Nat.lt_of_lt_of_le la (Nat.le_add_right _ _)) | exact Nat.ne_of_lt (Nat.lt_of_lt_of_le lb (Nat.le_add_right _ _))
  · have hc' : s1.heap.objs.size ≤ c := by
      simp only [List.mem_cons, List.not_mem_nil, or_false] at hc
      rcases hc with rfl | rfl | rfl | rfl | rfl <;> omega
    exact I1.fpOk hc' (I1.hok.fresh hc')
end
/-- over two lists that the body leaves as they are -/
theorem for_zip {K : PySem.W.Frag} {a b : Addr} {xs ys : List V} {g : TG} {tb : TS} {D : Ends} {σ : St} {H : Hp} (Pv : Nat → St → Hp → Prop) (h0 : Pv 0 σ H) (hl : ∀ i σ H, Pv i σ H → SqL K H a xs ∧ SqL K H b ys)
    (hs : ∀ i x y σ H T, xs[i]? = some x → ys[i]? = some y → Pv i σ H → H T = none → g (.ref T) σ (upd H T (.tup [x, y])) fun σ2 H2 => tb { D with nx := Pv (i + 1), ct := Pv (i + 1), bk := D.nx } σ2 H2)
    (hd : ∀ σ H, Pv (min xs.length ys.length) σ H → D.nx σ H) :
    ∃ W : Nat → Nat → St → Hp → Prop, (∃ m, W 0 m σ H) ∧ ∀ i m σ H, W i m σ H →
      ((Itz K a b).stop i H ∧ D.nx σ H) ∨ ((Itz K a b).go i H ∧ ∃ N : St → Hp → Prop, (∀ σ' H', N σ' H' → ∃ m', m' < m ∧ W (i + 1) m' σ' H') ∧ ∀ x H', (Itz K a b).yld i H x H' → g x σ H' fun σ2 H2 => tb { D with nx := N, ct := N, bk := D.nx } σ2 H2) := by
  refine ⟨fun i m σ H => m = min xs.length ys.length - i ∧ i ≤ min xs.length ys.length ∧ Pv i σ H, ⟨min xs.length ys.length, by simp, Nat.zero_le _, h0⟩, ?_⟩
  rintro i m σ H ⟨rfl, hi, p⟩
  obtain ⟨q1, q2⟩ := hl i σ H p
  by_cases lt : i < min xs.length ys.length
  · have e1 : xs[i]? = some xs[i] := List.getElem?_eq_getElem (by omega)
    have e2 : ys[i]? = some ys[i] := List.getElem?_eq_getElem (by omega)
    refine .inr ⟨⟨xs, ys, _, _, q1, q2, e1, e2⟩, Pv (i + 1), fun σ' H' p' => ⟨_, ?_, rfl, lt, p'⟩, fun v H' yl => ?_⟩
    · omega
    · obtain ⟨T, hT, rfl, e⟩ := yl
      rw [e xs ys _ _ q1 q2 e1 e2]
      exact hs i _ _ σ H T e1 e2 p hT
  · have e : i = min xs.length ys.length := by omega
    subst e
    exact .inl ⟨⟨xs, ys, q1, q2, by omega⟩, hd σ H p⟩
end L2
namespace L2
open PySem PySem.Spec PyProof.Rows
section
variable {X : Cx}
end
end L2
namespace L2
open PySem PySem.Spec PyProof.Rows
theorem call_list_ofK {X : Cx} {K : PySem.W.Frag} (h : X.K = K) : CallR X (.type "list") (fun xs H Q => ∃ p ys, xs = [.ref p] ∧ (SqL K H p ys ∨ SqT K H p ys) ∧ ∀ l, H l = none → Q (.ref l) (upd H l (.lst ys))) := h ▸ call_list_of
end L2

namespace L2
open PySem PySem.Spec PyProof.Rows
/-! ### for k, x in enumerate(xs), of a list that stays; all(..) of a list of bools; a block with a tuple target that sees names of the def -/
/-- the walk of enumerate over the list at a -/
def Ite (K : PySem.W.Frag) (a : Addr) : It :=
  ⟨fun i H => ∃ xs x, SqL K H a xs ∧ xs[i]? = some x,
   fun i H v H' => ∃ T, H T = none ∧ v = .ref T ∧ ∀ xs x, SqL K H a xs → xs[i]? = some x → H' = upd H T (.tup [.int i, x]),
   fun i H => ∃ xs, SqL K H a xs ∧ xs.length ≤ i⟩
def EnumSt (e it a : Addr) (i : Nat) (h : Heap) : Prop := (∃ old, IsEnum h e it i old) ∧ h.IsListIter it a i
def iEnum (K : PySem.W.Frag) (ta : TA) : TI := fun σ H R => ta σ H fun vs H1 => ∃ a, vs = [.ref a] ∧ (∃ xs, SqL K H1 a xs) ∧ R (Ite K a) H1
section
variable {X : Cx}
end
section
variable {gt : TG} {k : Nat} {fr : List Nat} {tt : TT} {te : TE}
end
theorem cmpOkG_free {X : Cx} {N : List Str} {k : Nat} {fr : List Nat} {scope : Scope} {cl : List (Str × Addr)} (clos : closureFor scope X.env = pure cl) (kind : scope.kind = .function) (nocell : ∀ y ∈ scope.names, y.2 ≠ .cell)
    (names : ∀ y ∈ scope.names, y.2 = .local → scope.names.lookup y.1 = some .local) (len : N.length = k + fr.length)
    (sub : ((List.range fr.length).all fun i => match N[k + i]?, fr[i]? with | some y, some j => (X.N[j]? == some y) && ((X.env.kindOf y == some .cell) && ((relabel scope X.env).names.lookup y == some .cell)) | _, _ => false) = true)
    (cells : ∀ p ∈ cl, X.env.cells.lookup p.1 = some p.2) (has : ((relabel scope X.env).names.all fun p => (p.2 != .cell && p.2 != .free) || (cl.lookup p.1).isSome) = true) : CmpOkG X N k fr scope cl := by
  refine ⟨clos, kind, nocell, names, len, fun i y e => ?_, fun y c e => cells _ (PySem.mem_of_lookup e), fun y h => ?_⟩
  · have hi : i < fr.length := by have := (List.getElem?_eq_some_iff.mp e).1; omega
    have z := List.all_eq_true.mp sub i (List.mem_range.mpr hi)
    rw [e, List.getElem?_eq_getElem hi] at z
    simp only [Bool.and_eq_true, beq_iff_eq] at z
    exact ⟨_, List.getElem?_eq_getElem hi, z.1, .inl z.2.1, .inl z.2.2⟩
  · have look : ∀ k, (relabel scope X.env).names.lookup y = some k → (k = .cell ∨ k = .free) → ∃ c, cl.lookup y = some c := fun k e hk => by
      have z := List.all_eq_true.mp has _ (PySem.mem_of_lookup e)
      rcases hk with rfl | rfl
      · exact Option.isSome_iff_exists.mp (by simpa using z)
      · exact Option.isSome_iff_exists.mp (by simpa using z)
    rcases h with h | h
    · exact look _ h (.inl rfl)
    · exact look _ h (.inr rfl)
section
variable {X : Cx}
theorem pt_truthK {K : PySem.W.Frag} (hK : X.K = K) {a : Expr} {ta : TE} (ha : PE X a ta) (he : ∀ whole, isTrue a X.env whole = (do let v ← whole; standAt a.pos; holding [v] (truthy v)) := by intro _; rfl) :
    PT X a (fun σ H Q => ta σ H fun x H' => ∃ k, TruV K x H' k ∧ Q k H') := hK ▸ pt_truth ha he
end
section
variable {X : Cx} {elt iter tg : Expr} {ifs : List Expr} {pos : Pos} {scope : Scope} {cl : List (Str × Addr)} {N : List Str} {k : Nat} {fr : List Nat} {gt : TG} {tt : TT} {te : TE}
end
end L2

namespace L2
open PySem
set_option maxRecDepth 100000
section
variable {prog : Program} {w : World} {A : Around} {E : Value → Shared → Prop} {s : Shared}
end
section
variable {X : Cx}
/-- list(reversed(xs)) -/
def tLR (K : PySem.W.Frag) (ta : TA) : TE := fun σ H Q => ta σ H fun vs H1 => ∃ a xs, vs = [.ref a] ∧ SqL K H1 a xs ∧ ∀ p, H1 p = none → Q (.ref p) (upd H1 p (.lst xs.reverse))
end
end L2
namespace L2
open PySem
end L2

namespace L2
open PySem
section
variable {prog : Program} {w : World} {A : Around} {E : Value → Shared → Prop} {s : Shared}
theorem keys_of_list : typeLookup (.type "list") "keys" = pure none := by rw [typeLookup_type, builtinLookup_eq_fast]; kernel_rfl
/-- a list has no attribute keys -/
theorem keys_miss {a : Addr} {items : Array Value} {Q : Option Value → Shared → Prop} (hl : s.heap.IsList a items) (hdn : ∀ o, s.heap.get? a = some o → o.dict = none) (hA : A.handled = none)
    (h : ∀ h' tk, (∀ b o, s.heap.get? b = some o → h'.get? b = some o) → Q none { s with heap := h', toks := tk }) :
    wpAny (model prog w) A (getAttr? (.ref a) "keys") Q E s := by
  obtain ⟨o, hx, hc, k, hdat⟩ := hl
  have hd := hdn o hx
  obtain ⟨c, dct, dat, sl⟩ := o
  simp only at hc hdat hd
  subst hc hdat hd
  obtain ⟨hp, g, d, tk, os⟩ := s
  have hT : ∀ tk', (⟨hp, g, d, tk', os⟩ : Shared).TypeIs (.ref a) "list" := fun _ => ⟨_, hx, rfl⟩
  have f1 := sub_AttributeError
  have f3 := F.slot_list_getattribute.lookup
  have f4 := F.slot_list_getattribute.bind (.ref a)
  have f5 := am_list_getattr_none
  unfold getAttr? getAttrBy? getAttrBy
  repeat (any_goals (first | assumption | exact hT _ | ((with_reducible show wpAny _ _ (call (Value.builtin "list.__getattribute__") _ _) _ _ _); refine call_meets F.slot_list_getattribute (hT _) am_entry_list_getattribute (F.args_list_getattribute_2 _ _) (meets_getattribute_miss_list a _ k sl "keys" _ keys_of_list (by decide) (by decide)) ⟨hx, hA, fun h' tk' e hx' => ?_⟩) | wp_step))
  obtain ⟨t', u', he⟩ := hx'.there
  show wpAny _ _ (getattributeRaised _ _ _ _ _ _ _) _ _ _
  unfold getattributeRaised
  repeat (any_goals (first | assumption | wp_step))
  exact h _ _ hx'.of.keeps
theorem plain_update_loop : plainId "dict.update.loop" = true := by decide +kernel
theorem entry_update_loop : entryFor table "dict.update.loop" = some Builtin.«dict.update.loop» := entryFor_of_fast (by kernel_rfl)
theorem code_update_loop {κ : Type} [DecidableEq κ] {knd : KeyKind prog w κ} {d I ax : Addr} {items : Array Value} {ps : List (κ × Value)} {res : Value} (hh : A.handled = none) (hI : I ≠ ax) (hdI : d ≠ I) (hdx : d ≠ ax) (hps : ps.length = items.size) :
    ∀ (k i : Nat) (s : Shared) (kvs : List (κ × Value)) (t0 : Tok) (R : Result → Shared → Prop), items.size - i = k → i ≤ items.size → s.heap.IsListIter I ax i → s.heap.IsList ax items → s.heap.DictOf knd d kvs →
      (∀ (j : Nat) (p : κ × Value), ps[j]? = some p → ∃ (t : Addr) (o : Obj) (n : Nat) (key : Value), items[j]? = some (.ref t) ∧ s.heap.get? t = some o ∧ o.cls = .type "tuple" ∧ o.data = .seq #[key, p.2] n ∧ knd.is p.1 key = true ∧ t ≠ I ∧ t ≠ d) →
      kvs.length + k ≤ sizeLine →
      (∀ h' tk, h'.DictOf knd d (merged kvs (ps.drop i)) → (∀ b o, b ≠ I → b ≠ d → s.heap.get? b = some o → h'.get? b = some o) → R (.ok (.ret res)) { s with heap := h', toks := tk }) →
      codeAny (model prog w) A (.builtin "dict.update.loop" ⟨[.ref d, .ref I, .int (i : Int) t0, res], []⟩) R s := by
  intro k
  induction k with
  | zero =>
    intro i s kvs t0 R hk hi hit hl hd hT hsz hR
    have hin : i = items.size := by omega
    refine codeAny_builtin entry_update_loop ?_
    rw [Around.under_plainId plain_update_loop _]
    unfold Builtin.«dict.update.loop»
    show wpAny _ A.in1 (pyNext (.ref I) >>= _) _ _ s
    refine wpAny_bind (wpAny_pyNext_list_end (by simp [hh]) hit hl (by simp [hin]) fun h' he' => ?_)
    show wpAny _ A.in1 (Builtin.Dict.addKeywords d [] >>= _) _ _ _
    refine wpAny_bind (wpAny_pure (wpAny_pure ?_))
    have e : ps.drop i = [] := List.drop_of_length_le (by omega)
    refine hR h' _ ?_ fun b o hb _ e => he' b o hb e
    rw [e]
    exact hd.extBut he' hdI
  | succ k ih =>
    intro i s kvs t0 R hk hi hit hl hd hT hsz hR
    have hlt : i < items.size := by omega
    have ep := List.getElem?_eq_getElem (l := ps) (i := i) (by omega)
    obtain ⟨t, o, n, key, e1, e2, e3, e4, e5, e6, e7⟩ := hT i _ ep
    refine codeAny_builtin entry_update_loop ?_
    rw [Around.under_plainId plain_update_loop _]
    unfold Builtin.«dict.update.loop»
    show wpAny _ A.in1 (pyNext (.ref I) >>= _) _ _ s
    refine wpAny_bind (wpAny_pyNext_list_item hit hl e1 fun h' hit' hs' => ?_)
    have et' : h'.get? t = some o := (hs'.2 t e6).trans e2
    refine wpAny_bind (wpAny_holding ?_)
    refine wpAny_bind (wpAny_tryCatch ?_)
    unfold Builtin.Dict.pairItems
    refine wpAny_bind (wpAny_typeOf (T := "tuple") ⟨o, et', e3⟩ ?_)
    rw [if_pos (by decide)]
    refine wpAny_bind (wpAny_seqItems et' e4 (wpAny_pure ?_))
    show wpAny _ _ (holding [key, (ps[i]).2] (dictSet d key (ps[i]).2)) _ _ _
    refine wpAny_holding ?_
    have hd' : h'.DictOf knd d kvs := hd.extBut hs'.extBut hdI
    refine wpAny_dictSet_pairs e5 hd' (fun h2 hd2 hs2 => ?_) (by omega)
    have kp : ∀ b ob, b ≠ I → b ≠ d → s.heap.get? b = some ob → h2.get? b = some ob := fun b ob n1 n2 e => (hs2.2 b n2).trans ((hs'.2 b n1).trans e)
    have hsl : (stored kvs (ps[i]).1 (ps[i]).2).length ≤ kvs.length + 1 := by
      unfold stored
      split
      · rw [List.length_map]; omega
      · rw [List.length_append]; simp
    have edr : ps.drop i = ps[i] :: ps.drop (i + 1) := List.drop_eq_getElem_cons (by omega)
    refine wpAny_pure ⟨plainId_quiet plain_update_loop _, ?_⟩
    have go := ih (i + 1) { s with heap := h2, toks := s.toks + 1 } (stored kvs (ps[i]).1 (ps[i]).2) 0 R (by omega) (by omega) (hit'.at fun ob e => (hs2.2 I hdI.symm).trans e) (hl.at fun ob e => kp ax ob hI.symm hdx.symm e) hd2 (fun j p ej => ?_) (by omega) (fun h3 tk hd3 kp3 => ?_)
    · exact go
    · obtain ⟨t', o', n', key', f1, f2, f3, f4, f5, f6, f7⟩ := hT j p ej
      exact ⟨t', o', n', key', f1, kp t' o' f6 f7 f2, f3, f4, f5, f6, f7⟩
    · refine hR h3 tk ?_ fun b ob n1 n2 e => kp3 b ob n1 n2 (kp b ob n1 n2 e)
      rw [edr]
      exact hd3
/-- dict(..) of a list of pairs -/
theorem call_dict_pairs {κ : Type} [DecidableEq κ] {knd : KeyKind prog w κ} {ax : Addr} {items : Array Value} {ps : List (κ × Value)} {Q : Value → Shared → Prop} (hh : A.handled = none) (hl : s.heap.IsList ax items) (hdn : ∀ o, s.heap.get? ax = some o → o.dict = none) (hps : ps.length = items.size) (hsz : items.size ≤ sizeLine) (hnd : (ps.map (·.1)).Nodup)
    (hT : ∀ (j : Nat) (p : κ × Value), ps[j]? = some p → ∃ (t : Addr) (o : Obj) (n : Nat) (key : Value), items[j]? = some (.ref t) ∧ s.heap.get? t = some o ∧ o.cls = .type "tuple" ∧ o.data = .seq #[key, p.2] n ∧ knd.is p.1 key = true)
    (hQ : ∀ h' tk, h'.DictOf knd s.heap.objs.size ps → (∀ b o, s.heap.get? b = some o → h'.get? b = some o) → Q (.ref s.heap.objs.size) { s with heap := h', toks := tk }) :
    wpAny (model prog w) A (call (.type "dict") [.ref ax]) Q E s := by
  refine callType_codes (Q₁ := fun obj s₁ => obj = .ref s.heap.objs.size ∧ s₁ = { s with heap := s.heap.push { cls := .type "dict", data := .dict #[] } }) F.kt_called_dict (F.kt_typeCall_dict_1 _) F.entry_dict_init (kt_code_dict_new _ ⟨rfl, rfl⟩) ?_
  rintro obj s₁ ⟨rfl, rfl⟩
  have hnew : (s.heap.push { cls := .type "dict", data := .dict #[] }).DictOf knd s.heap.objs.size [] := Heap.DictOf.new s.heap
  have k0 : ∀ b o, s.heap.get? b = some o → (s.heap.push { cls := .type "dict", data := .dict #[] }).get? b = some o := fun b o e => Heap.get?_push_of_some _ e
  have hl0 := hl.at fun o e => k0 ax o e
  refine ⟨hnew.typeIs, F.args_dict_init_2 _ _, ?_⟩
  unfold Builtin.«dict.__init__»
  refine wpAny_bind ?_
  unfold Builtin.Dict.selfAndRest
  refine wpAny_bind (wpAny_notOrdered_dict hnew.typeIs ?_)
  show wpAny _ _ (pure (s.heap.objs.size, [Value.ref ax])) _ _ _
  refine wpAny_pure ?_
  show wpAny _ _ (Builtin.Dict.updateFrom "dict.__init__" s.heap.objs.size (.ref ax) [] .none) _ _ _
  unfold Builtin.Dict.updateFrom
  refine wpAny_bind (wpAny_typeOf hl0.typeIs ?_)
  rw [if_pos (by decide)]
  have lax : ax < s.heap.objs.size := by obtain ⟨o, e, _⟩ := id hl; exact Heap.lt_size e
  have hdn0 : ∀ o, (s.heap.push { cls := .type "dict", data := .dict #[] }).get? ax = some o → o.dict = none := fun o e => by
    obtain ⟨o', e', _⟩ := id hl
    have e2 := k0 ax o' e'
    rw [e2] at e
    have e3 := Option.some.inj e
    rw [← e3]
    exact hdn o' e'
  refine wpAny_bind (keys_miss (s := { s with heap := s.heap.push { cls := .type "dict", data := .dict #[] } }) hl0 hdn0 (by simp [hh]) fun h1 tk1 k1 => ?_)
  rw [if_pos (by rfl)]
  refine wpAny_bind (wpAny_rule ?_)
  have k01 : ∀ b o, s.heap.get? b = some o → h1.get? b = some o := fun b o e => k1 b o (k0 b o e)
  have hl1 : h1.IsList ax items := hl.at fun o e => k01 ax o e
  refine wpAny_bind (wpAny_pyIter_list (s := { s with heap := h1, toks := tk1 }) hl1 ?_)
  have k2 : ∀ b o, h1.get? b = some o → (h1.push { cls := .type "list_iterator", data := .fields #[.ref ax, .int 0 0] }).get? b = some o := fun b o e => Heap.get?_push_of_some _ e
  have eI : (h1.push { cls := .type "list_iterator", data := .fields #[.ref ax, .int 0 0] }).get? h1.objs.size = some { cls := .type "list_iterator", data := .fields #[.ref ax, .int 0 0] } := Heap.get?_push_size _ rfl
  have hd1 : h1.DictOf knd s.heap.objs.size [] := by
    obtain ⟨o, es, ep, ho, r⟩ := hnew
    exact ⟨o, es, ep, k1 _ _ ho, r⟩
  have hd2 : (h1.push { cls := .type "list_iterator", data := .fields #[.ref ax, .int 0 0] }).DictOf knd s.heap.objs.size [] := hd1.push _
  have ld : s.heap.objs.size < h1.objs.size := by obtain ⟨o, es, ep, ho, _⟩ := hd1; exact Heap.lt_size ho
  have lx1 : ax < h1.objs.size := Nat.lt_trans lax ld
  refine wpAny_pure ⟨plainId_quiet plain_update_loop _, ?_⟩
  refine code_update_loop (prog := prog) (w := w) (knd := knd) (d := s.heap.objs.size) (I := h1.objs.size) (ax := ax) (items := items) (ps := ps) (res := .none) (by simp [hh]) (Nat.ne_of_gt lx1) (Nat.ne_of_lt ld) (Nat.ne_of_gt lax) hps items.size 0 { s with heap := h1.push { cls := .type "list_iterator", data := .fields #[.ref ax, .int 0 0] }, toks := tk1 } [] 0 _ (by omega) (Nat.zero_le _) ⟨_, eI, rfl, rfl⟩ (hl1.at fun o e => k2 ax o e) hd2 (fun j p ej => ?_) (by simpa using hsz) (fun h' tk hd' kp => ?_)
  · obtain ⟨t, o, n, key, f1, f2, f3, f4, f5⟩ := hT j p ej
    have lt := Heap.lt_size f2
    exact ⟨t, o, n, key, f1, k2 _ _ (k01 _ _ f2), f3, f4, f5, Nat.ne_of_lt (Nat.lt_trans lt ld), Nat.ne_of_lt lt⟩
  · rw [List.drop_zero, merged_nil_of_nodup ps hnd] at hd'
    refine ⟨rfl, hQ h' tk hd' fun b o e => kp b o (Nat.ne_of_lt (Nat.lt_trans (Heap.lt_size e) ld)) (Nat.ne_of_lt (Heap.lt_size e)) (k2 _ _ (k01 _ _ e))⟩
end
end L2
namespace L2
open PySem
theorem paired_of {α β : Type} {R : α → β → Prop} : ∀ {xs : List α} {ys : List β}, xs.length = ys.length → (∀ (j : Nat) (x : α) (y : β), xs[j]? = some x → ys[j]? = some y → R x y) → Paired R xs ys
  | [], [], _, _ => .nil
  | x :: xs, y :: ys, hl, h => .cons (h 0 x y rfl rfl) (paired_of (by simpa using hl) fun j x' y' e f => h (j + 1) x' y' (by simpa using e) (by simpa using f))
  | [], _ :: _, hl, _ => by simp at hl
  | _ :: _, [], hl, _ => by simp at hl
theorem list_of {α : Type} {P : Nat → α → Prop} : ∀ n : Nat, (∀ j, j < n → ∃ a, P j a) → ∃ l : List α, l.length = n ∧ ∀ (j : Nat) (a : α), l[j]? = some a → P j a
  | 0, _ => ⟨[], rfl, fun j a e => by simp at e⟩
  | n + 1, h => by
    obtain ⟨l, hl, hp⟩ := list_of n fun j hj => h j (by omega)
    obtain ⟨a, ha⟩ := h n (by omega)
    refine ⟨l ++ [a], by simp [hl], fun j b e => ?_⟩
    by_cases hj : j < l.length
    · rw [List.getElem?_append_left hj] at e; exact hp j b e
    · have : j = n := by have := (List.getElem?_eq_some_iff.mp e).1; simp at this; omega
      subst this
      rw [List.getElem?_append_right (by omega), hl, Nat.sub_self] at e
      cases e
      exact ha
/-- a dict whose keys are texts -/
def kvT (kvs : List (Str × V)) : List (Key × V) := kvs.map fun p => (Sum.inr p.1, p.2)
theorem kvT_get {kvs : List (Str × V)} {j : Nat} {x : Key × V} (e : (kvT kvs)[j]? = some x) : ∃ p, kvs[j]? = some p ∧ x = (Sum.inr p.1, p.2) := by
  unfold kvT at e
  rw [List.getElem?_map] at e
  cases q : kvs[j]? with
  | none => rw [q] at e; cases e
  | some p => rw [q] at e; cases e; exact ⟨p, rfl, rfl⟩
theorem kv_look : ∀ {kvs : List (Str × V)} {vs : List (Key × Value)} {k : Str} {v : V}, KV (kvT kvs) vs → kvs.lookup k = some v → ∃ u, valueAt vs (Sum.inr k : Key) = some u ∧ RelV v u
  | [], _, _, _, _, e => by cases e
  | (k0, v0) :: kvs, vs, k, v, r, e => by
    unfold KV at r
    cases r with
    | @cons p q ps qs h t =>
      obtain ⟨h1, h2⟩ := h
      have h1 : (Sum.inr k0 : Key) = q.1 := h1
      by_cases hk : k = k0
      · subst hk
        rw [List.lookup_cons, beq_self_eq_true] at e
        cases e
        refine ⟨q.2, ?_, h2⟩
        unfold valueAt
        rw [List.find?_cons_of_pos (by simp [h1])]
        rfl
      · have e : kvs.lookup k = some v := by
          rw [List.lookup_cons, beq_eq_false_iff_ne.mpr hk] at e
          exact e
        obtain ⟨u, e1, e2⟩ := kv_look (vs := qs) t e
        refine ⟨u, ?_, e2⟩
        have hne : ¬ (q.1 = (Sum.inr k : Key)) := fun z => hk (by rw [← h1] at z; injection z with z; exact z.symm)
        unfold valueAt at e1 ⊢
        rw [List.find?_cons_of_neg (by simpa using hne)]
        exact e1
section
variable {X : Cx}
theorem big_mod {pins : List (Addr × Obj)} {σ : St} {H : Hp} {s : Shared} (I : Inv X pins σ H s) : (s.heap.objs.size == sysModules) = false := by
  have h : mainGlobals < s.heap.objs.size := (I.mod.glob.keeps I.bk).lt
  have h2 : sysModules < s.heap.objs.size := Nat.lt_trans (by decide) h
  exact beq_eq_false_iff_ne.mpr (Nat.ne_of_gt h2)
/-- dict(pairs): texts that differ, each with a value -/
theorem call_dictP (hcm : X.calm = true) : CallR X (.type "dict") (fun xs H Q => ∃ (l : Addr) (us : List V) (kvs : List (Str × V)), xs = [.ref l] ∧ H l = some (.lst us) ∧ us.length = kvs.length ∧ (∀ (j : Nat) (p : Str × V), kvs[j]? = some p → ∃ t : Addr, us[j]? = some (.ref t) ∧ H t = some (.tup [.str p.1, p.2])) ∧ (kvs.map (·.1)).Nodup ∧ ∀ p, H p = none → Q (.ref p) (upd H p (.dK (kvT kvs)))) := by
  intro pins s σ H xs us0 Q I r h
  obtain ⟨l, us, kvs, rfl, el, hl, ht, hnd, q⟩ := h
  obtain ⟨u, rfl, rx⟩ := vals1 r
  cases rx
  obtain ⟨its, n, rv, eg, hz⟩ := I.lst el
  have hil := rv.length
  obtain ⟨ps, hpl, hps⟩ := list_of (P := fun j (a : Key × Value) => ∃ (p : Str × V) (t : Addr) (o : Obj) (m : Nat) (key : Value), kvs[j]? = some p ∧ a.1 = Sum.inr p.1 ∧ its[j]? = some (.ref t) ∧ RelV p.2 a.2 ∧ s.heap.get? t = some o ∧ o.cls = .type "tuple" ∧ o.data = .seq #[key, a.2] m ∧ RelV (.str p.1) key) kvs.length fun j hj => by
    have ek := List.getElem?_eq_getElem hj
    obtain ⟨t, e1, e2⟩ := ht j _ ek
    obtain ⟨w', e3, e4⟩ := rv.get e1
    cases (show w' = Value.ref t from e4)
    obtain ⟨_, its', rv', o, ho, hc, m, hd⟩ := I.hok t _ e2
    obtain ⟨key, rest, rfl, rk, rr⟩ : ∃ key rest, its' = key :: rest ∧ RelV (.str kvs[j].1) key ∧ Vals [kvs[j].2] rest := by
      cases rv' with
      | cons a b => exact ⟨_, _, rfl, a, b⟩
    obtain ⟨vv, rfl, rv2⟩ := vals1 rr
    exact ⟨(Sum.inr kvs[j].1, vv), kvs[j], t, o, m, key, ek, rfl, e3, rv2, ho, hc, by simpa using hd, rk⟩
  have hkeys : ps.map (·.1) = kvs.map fun p => (Sum.inr p.1 : Key) := by
    refine List.ext_getElem? fun j => ?_
    rw [List.getElem?_map, List.getElem?_map]
    cases e : ps[j]? with
    | none =>
      have : kvs[j]? = none := by rw [List.getElem?_eq_none_iff] at e ⊢; omega
      rw [this]; rfl
    | some a =>
      obtain ⟨p, t, o, m, key, e1, e2, _⟩ := hps j a e
      rw [e1]
      show some a.1 = some (Sum.inr p.1)
      rw [e2]
  refine call_dict_pairs (knd := mixKind X.prog X.w) (items := its.toArray) (ps := ps) (I.ok.hd hcm) ⟨_, eg, rfl, n, rfl⟩ (fun o e => by rw [eg] at e; cases e; rfl) (by rw [List.size_toArray, hpl, ← hl, hil]) (by rw [List.size_toArray, ← hil]; exact hz) ?_ (fun j a ea => ?_) fun h' tk hd kp => ?_
  · rw [hkeys, show (kvs.map fun p => (Sum.inr p.1 : Key)) = (kvs.map (·.1)).map fun z => (Sum.inr z : Key) by rw [List.map_map]; rfl]
    rw [List.nodup_iff_pairwise_ne] at hnd ⊢
    rw [List.pairwise_map]
    exact hnd.imp fun {a b} hab z => hab (by injection z)
  · obtain ⟨p, t, o, m, key, e1, e2, e3, e4, e5, e6, e7, e8⟩ := hps j a ea
    refine ⟨t, o, m, key, by simpa using e3, e5, e6, e7, ?_⟩
    rw [e2]
    obtain ⟨tt, rfl⟩ := (show ∃ tt, key = Value.str p.1 tt from e8)
    exact mixKind_str X.prog X.w p.1 tt
  · refine ⟨.ref s.heap.objs.size, _, I.laid (h' := h') (t' := tk) (o := .dK (kvT kvs)) kp (Nat.le_refl _) ⟨by unfold kvT; rw [List.length_map, ← hl]; exact hz, big_mod I, ps, paired_of (by unfold kvT; rw [List.length_map, hpl]) fun j x y ex ey => ?_, hd⟩, rfl, q _ (I.hok.fresh (Nat.le_refl _))⟩
    obtain ⟨p, ep, rfl⟩ := kvT_get ex
    obtain ⟨p', t, o, m, key, e1, e2, e3, e4, _⟩ := hps j y ey
    rw [ep] at e1
    cases e1
    exact ⟨e2.symm, e4⟩
/-- d[k] -/
def rIxD : R2 := fun x y H Q => ∃ (a : Addr) (kvs : List (Str × V)) (k : Str) (v : V), x = .ref a ∧ y = .str k ∧ H a = some (.dK (kvT kvs)) ∧ kvs.lookup k = some v ∧ Q v H
theorem ix_dict : IxR X rIxD := by
  intro value slice pins s σ H x y v u Q I rx ry h hs
  obtain ⟨a, kvs, k, z, rfl, rfl, ea, el, q⟩ := h
  cases rx
  obtain ⟨t, rfl⟩ := ry
  obtain ⟨_, _, vs, rel, dd⟩ := (show ObjOk X.prog X.w H s.heap a (.dK (kvT kvs)) from I.hok a _ ea)
  obtain ⟨w', ew, rw'⟩ := kv_look rel el
  exact PyProof.Rows.tail_any dd.mapOf.typeIs slot_dict_getitem.lookup (wpAny_getItem_of (mixKind_str X.prog X.w k t) dd.mapOf ew ⟨z, H, I.tok _, rw', q⟩) hs
end
end L2
namespace L2
open PySem PySem.Spec PyProof.Rows
section
variable {X : Cx}
end
end L2
namespace L2
open PySem
theorem op_in_seqK {X : Cx} {K : PySem.W.Frag} (h : X.K = K) : OpR X (compareOp .In) (rIn K false) := h ▸ op_in_seq
end L2

namespace L2
open PySem PySem.Spec PyProof.Rows
/-! ### a list comprehension whose own names are seen by a block within it: they are cells of its frame -/
theorem cellsFrom_app : ∀ (names : List (Str × NameKind)) (n : Nat) (acc : List (Str × Addr)), cellsFrom n names acc = cellsFrom n names [] ++ acc
  | [], _, _ => rfl
  | (x, kd) :: r, n, acc => by
    unfold cellsFrom
    split
    · rw [cellsFrom_app r (n + 1) ((x, n) :: acc), cellsFrom_app r (n + 1) [(x, n)], List.append_assoc]; rfl
    · exact cellsFrom_app r n acc
theorem cellsFrom_look {names : List (Str × NameKind)} {n : Nat} {acc : List (Str × Addr)} {y : Str} {c : Addr} (e : (cellsFrom n names acc).lookup y = some c) : (y, c) ∈ cellsFrom n names [] ∨ acc.lookup y = some c := by
  rw [cellsFrom_app, List.lookup_append] at e
  cases h : (cellsFrom n names []).lookup y with
  | none => rw [h] at e; exact .inr e
  | some c' => rw [h] at e; cases e; exact .inl (PySem.mem_of_lookup h)
theorem wpAny_newEnvN {M : Model} {A : Around} {E : Value → Shared → Prop} {s : Shared} {scope : Scope} {globals : Addr} {cl : List (Str × Addr)} {qual : Str} {env : Env} {Q : Env → Shared → Prop}
    (h : Q { scope, locals := s.heap.objs.size, globals, cells := cellsFrom (s.heap.objs.size + 1) scope.names cl, qual, func := none, code := env.code, frame := env.frame, builtins := env.builtins } { s with heap := pushCells (s.heap.push { cls := .type "dict", data := .dict #[] }) scope.names }) :
    wpAny M A (newFunctionEnv scope globals cl [] qual none .none (some env)) Q E s := by
  simp only [newFunctionEnv, Option.isSome_some, if_true]
  refine wpAny_bind (wpAny_alloc ?_)
  refine wpAny_bind (wpAny_layCells _ (fun name kind cells => by cases hkc : kind == NameKind.cell <;> simp [hkc]) _ _ _ _ ?_)
  rw [show ({ s with heap := s.heap.push { cls := .type "dict", data := .dict #[] } } : Shared).heap.objs.size = s.heap.objs.size + 1 from Heap.size_push ..]
  refine wpAny_bind ?_
  rw [List.forIn_nil]
  exact wpAny_pure (wpAny_pure h)
theorem pi_listK {X : Cx} {K : PySem.W.Frag} {tg l : Expr} {tl : TE} (h : X.K = K) (hl : PE X l tl) : PI X tg l (iList K tl) := h ▸ pi_list hl
def cmpEnvN (scope : Scope) (cl : List (Str × Addr)) (C : Addr) (env : Env) : Env :=
  { scope := relabel scope env, locals := C, globals := env.globals, cells := cellsFrom (C + 1) scope.names cl, qual := env.qual, func := none, code := env.code, frame := env.frame, builtins := env.builtins }
def cmpCxN (X : Cx) (N : List Str) (scope : Scope) (cl : List (Str × Addr)) (fp : List Addr) (C : Addr) (s2 : Shared) (H2 : Hp) : Cx :=
  { prog := X.prog, w := X.w, K := X.K, mg := X.mg, base := X.base, A := X.A, N := N, s₀ := s2, H₀ := H2, env := cmpEnvN scope cl C X.env, outer := X.stack, stack := X.stack, ex := fp, fn := fun y => scope.names.lookup y == some .cell, calm := X.calm, pn := [], xe := fun _ _ => False }
structure CmpOkN (X : Cx) (N : List Str) (k : Nat) (fr : List Nat) (scope : Scope) (cl : List (Str × Addr)) : Prop where
  clos : closureFor scope X.env = pure cl
  kind : scope.kind = .function
  names : ∀ y ∈ scope.names, y.2 = .local → scope.names.lookup y.1 = some .local
  len : N.length = k + fr.length
  sub : ∀ (i : Nat) (y : Str), N[k + i]? = some y → ∃ j, fr[i]? = some j ∧ X.N[j]? = some y ∧ (X.env.kindOf y = some .cell ∨ X.env.kindOf y = some .free) ∧ ((relabel scope X.env).names.lookup y = some .cell ∨ (relabel scope X.env).names.lookup y = some .free) ∧ ∃ c, cl.lookup y = some c ∧ ∀ C : Addr, (cellsFrom (C + 1) scope.names cl).lookup y = some c
  cells : ∀ y c, cl.lookup y = some c → X.env.cells.lookup y = some c
  has : ∀ (C : Addr) (y : Str), ((relabel scope X.env).names.lookup y = some .cell ∨ (relabel scope X.env).names.lookup y = some .free) → ∃ c, (cellsFrom (C + 1) scope.names cl).lookup y = some c
section
variable {X : Cx} {elt iter tg : Expr} {ifs : List Expr} {pos : Pos} {scope : Scope} {cl : List (Str × Addr)} {N : List Str} {k : Nat} {fr : List Nat} {gt : TG} {tt : TT} {te : TE}
theorem comp_coreN {pins : List (Addr × Obj)} {σ : St} {s2 : Shared} {H2 : Hp} {it : Addr} {fp : List Addr} {tn : Nat → Heap → Prop} {J : It} {Q : VK} {E : Value → Shared → Prop} {RR : Value → Addr → Result → Shared → Prop}
    (O : CmpOkN X N k fr scope cl) (hc : X.calm = true) (I2 : Inv X pins σ H2 s2) (T : Turn X.prog X.w X.K tg J fp it tn) (st2 : tn 0 s2.heap) (f2 : ∀ b ∈ fp, FpOk X pins H2 b)
    (ht : ∀ fp C s H, PIf (cmpCxN X N scope cl fp C s H) ifs tt) (he : ∀ fp C s H, PE (cmpCxN X N scope cl fp C s H) elt te)
    (hg : ∀ fp C s H, PG (cmpCxN X N scope cl fp C s H) tg gt) (hW : CompAtG J gt k fr tt te σ Q H2)
    (fin : ∀ D C s' H', s2.heap.objs.size ≤ C → H' C = none → (∃ m, s'.heap.Ns C m) → Inv X pins σ H' s' → Q (.ref D) H' → RR (.ref D) C (.ok .next) s') :
    wpAny (model X.prog X.w) X.A (newList []) (fun acc s3 => wpAny (model X.prog X.w) X.A (newFunctionEnv scope X.env.globals cl [] X.env.qual none .none (some X.env)) (fun cenv s4 =>
      codeAny (model X.prog X.w) X.A (.compStart (.ListComp elt [⟨tg, iter, ifs, 0⟩] scope pos) 0 (.ref it) acc { cenv with scope := relabel scope X.env }) (RR acc cenv.locals) s4) E s3) E s2 := by
  refine wpAny_newObj_type (wpAny_newEnvN ?_)
  dsimp only
  generalize hG : s2.heap.push { cls := .type "list", dict := none, data := .seq ([] : List Value).toArray } = G
  have hC : G.objs.size = s2.heap.objs.size + 1 := by rw [← hG, Heap.size_push]
  have old : ∀ b o, s2.heap.get? b = some o → (pushCells (G.push { cls := .type "dict", data := .dict #[] }) scope.names).get? b = some o := fun b o e => pushCells_keeps _ _ b o (Heap.get?_push_of_some _ (hG ▸ Heap.get?_push_of_some _ e))
  have hacc : (pushCells (G.push { cls := .type "dict", data := .dict #[] }) scope.names).get? s2.heap.objs.size = some { cls := .type "list", data := .seq ([] : List Value).toArray 0 } := pushCells_keeps _ _ _ _ (Heap.get?_push_of_some _ (hG ▸ Heap.get?_push_size _ rfl))
  have hns : (pushCells (G.push { cls := .type "dict", data := .dict #[] }) scope.names).Ns G.objs.size fun _ => none := (Heap.Ns.new G (.type "dict")).keeps (pushCells_keeps _ _)
  have cok := cellsFrom_ok scope.names (G.push { cls := .type "dict", data := .dict #[] }) (G.objs.size + 1) [] ⟨fun _ _ hm => (nomatch hm), List.Pairwise.nil⟩ (by rw [Heap.size_push]; exact Nat.le_refl _)
  rw [Heap.size_push] at cok
  have own : ∀ y c, (cellsFrom (G.objs.size + 1) scope.names cl).lookup y = some c → ((y, c) ∈ cellsFrom (G.objs.size + 1) scope.names [] ∧ G.objs.size + 1 ≤ c) ∨ cl.lookup y = some c := fun y c e => by
    rcases cellsFrom_look e with h | h
    · exact .inl ⟨h, (cok.empty y c h).2⟩
    · exact .inr h
  generalize pushCells (G.push { cls := .type "dict", data := .dict #[] }) scope.names = h1 at old hacc hns cok ⊢
  have hD : H2 s2.heap.objs.size = none := I2.fresh
  have okX : (cmpCxN X N scope cl fp G.objs.size s2 H2).Ok := by
    refine ⟨I2.ok.mod, O.kind, I2.ok.glob, I2.ok.blt, by show s2.heap.objs.size ≤ G.objs.size; rw [hC]; exact Nat.le_succ _, fun y z c e1 e2 => ?_, fun y hy => O.has G.objs.size y hy, fun y c hy e => ?_, I2.ok.hd, I2.ok.frames, .inl rfl,
      fun b hb => ⟨?_, fun y c e => ?_⟩, I2.bs, Nat.le_trans I2.ok.bsz I2.sz, fun b o e hb => ?_, fun b hb z => ?_, I2.stack, I2.stkFree⟩
    · have low : ∀ y c, cl.lookup y = some c → c < s2.heap.objs.size := fun y c e => by
        obtain ⟨v, o, ho, _⟩ := I2.cell y c (O.cells y c e)
        exact Heap.lt_size ho
      rcases own y c e1 with ⟨h1_, g1⟩ | h1_ <;> rcases own z c e2 with ⟨h2_, g2⟩ | h2_
      · exact name_of_addr cok.apart h1_ h2_
      · exact absurd (Nat.lt_of_lt_of_le (low z c h2_) (Nat.le_trans (show s2.heap.objs.size ≤ G.objs.size + 1 by omega) g1)) (Nat.lt_irrefl _)
      · exact absurd (Nat.lt_of_lt_of_le (low y c h1_) (Nat.le_trans (show s2.heap.objs.size ≤ G.objs.size + 1 by omega) g2)) (Nat.lt_irrefl _)
      · exact I2.ok.inj y z c (O.cells y c h1_) (O.cells z c h2_)
    · have hy : (scope.names.lookup y == some NameKind.cell) = true := hy
      have hy := beq_iff_eq.mp hy
      have hs_ := PySem.W.cellsFrom_some (x := y) scope.names (G.objs.size + 1) [] (.inl hy)
      obtain ⟨c', hc'⟩ := Option.isSome_iff_exists.mp hs_
      have e : (cellsFrom (G.objs.size + 1) scope.names cl).lookup y = some c := e
      rw [cellsFrom_app, List.lookup_append, hc'] at e
      cases e
      exact Nat.le_trans (show s2.heap.objs.size ≤ G.objs.size + 1 by omega) (cok.empty y _ (PySem.mem_of_lookup hc')).2
    · obtain ⟨o, e, _⟩ := T.obj _ _ st2 b hb
      show b ≠ G.objs.size
      exact Nat.ne_of_lt (by rw [hC]; exact Nat.lt_succ_of_lt (Heap.lt_size e))
    · rcases own y c e with ⟨_, g⟩ | h_
      · obtain ⟨o, e', _⟩ := T.obj _ _ st2 b hb
        exact (Nat.ne_of_lt (Nat.lt_of_lt_of_le (Heap.lt_size e') (Nat.le_trans (show s2.heap.objs.size ≤ G.objs.size + 1 by omega) g))).symm
      · exact (f2 b hb).2.2.2.2.1 y c (O.cells y c h_)
    · rcases (f2 b hb).2.2.2.1 with z | z
      · exact I2.ok.noex b o e z
      · exact absurd (Nat.lt_of_lt_of_le (Heap.lt_size e) (Nat.le_trans I2.ok.bsz z)) (Nat.lt_irrefl _)
    · rcases List.mem_cons.mp (I2.stkSub b z) with z | z
      · exact (f2 b hb).2.1 z
      · exact (f2 b hb).2.2.1 z
  have statX : ∀ {H' : Hp}, (∀ b ∈ fp, H' b = none) → ∀ b ∈ fp, FpOk (cmpCxN X N scope cl fp G.objs.size s2 H2) [] H' b := fun hn b hb =>
    ⟨hn b hb, (okX.exf b hb).1, okX.exfs b hb, .inl hb, (okX.exf b hb).2, fun p hp => absurd (show p ∈ ([] : List (Addr × Obj)) from hp) (by simp)⟩
  have I' : Inv (cmpCxN X N scope cl fp G.objs.size s2 H2) [] (cmpStG σ fr (List.replicate k none)) (upd H2 s2.heap.objs.size (.lst [])) { s2 with heap := h1 } := by
    refine ⟨okX, rfl, I2.bare, Un.laid old (Nat.le_refl _) hD, ⟨_, hns, fun i y v e1 e2 e3 => ?_⟩, fun y c e => ?_, ?_, fun y c e => ?_, fun p hp => absurd (show p ∈ ([] : List (Addr × Obj)) from hp) (by simp), I2.hok.laid old (Nat.le_refl _) ⟨Nat.zero_le _, [], 0, .nil, hacc⟩, ?_⟩
    · by_cases hik : i < k
      · have e2' : (List.replicate k none ++ fr.map fun j => (σ[j]?).join)[i]? = some (some v) := e2
        rw [List.getElem?_append_left (by rw [List.length_replicate]; exact hik), List.getElem?_replicate, if_pos hik] at e2'
        cases e2'
      · obtain ⟨j, q1, q2, q3, q4, c', hc0, hc'⟩ := O.sub (i - k) y (by rw [show k + (i - k) = i by omega]; exact e1)
        have e2' : (σ[j]?).join = some v := by
          have : (List.replicate k none ++ fr.map fun j => (σ[j]?).join)[i]? = some (some v) := e2
          rw [List.getElem?_append_right (by rw [List.length_replicate]; omega), List.length_replicate, List.getElem?_map, q1] at this
          exact Option.some.inj this
        have e4 : σ[j]? = some (some v) := by
          cases z : σ[j]? with
          | none => rw [z] at e2'; cases e2'
          | some t => rw [z] at e2'; exact congrArg some e2'
        obtain ⟨m, _, hl⟩ := I2.loc
        have vis : Vis X.env.scope y := .inr q3
        obtain ⟨u, r, l⟩ := hl j y v q2 e4 vis
        refine ⟨u, r, .inr ⟨q4, ?_⟩⟩
        rcases l with ⟨k, _⟩ | ⟨_, c, ec, ic⟩
        · rcases q3 with z | z
          · rw [z] at k; cases k
          · rw [z] at k; cases k
        · have := O.cells y c' hc0
          have e' : c = c' := Option.some.inj (ec.symm.trans this)
          obtain ⟨o, ho, hd⟩ := ic
          rw [e'] at ho
          exact ⟨c', hc' _, o, old c' o ho, hd⟩
    · rcases own y c e with ⟨h_, g⟩ | h_
      · exact ⟨none, (cok.empty y c h_).1⟩
      · obtain ⟨v, o, ho, hd⟩ := I2.cell y c (O.cells y c h_)
        exact ⟨v, o, old c o ho, hd⟩
    · show upd H2 s2.heap.objs.size (.lst []) G.objs.size = none
      rw [upd_ne (Nat.ne_of_gt (by rw [hC]; exact Nat.lt_succ_self _))]
      exact I2.hok.fresh (by rw [hC]; exact Nat.le_succ _)
    · rcases own y c e with ⟨h_, g⟩ | h_
      · rw [upd_ne (Nat.ne_of_gt (Nat.lt_of_lt_of_le (show s2.heap.objs.size < G.objs.size + 1 by omega) g))]
        exact I2.hok.fresh (Nat.le_trans (show s2.heap.objs.size ≤ G.objs.size + 1 by omega) g)
      · obtain ⟨v, o, ho, hd⟩ := I2.cell y c (O.cells y c h_)
        rw [upd_ne (Nat.ne_of_lt (Heap.lt_size ho))]
        exact I2.freeC y c (O.cells y c h_)
    · show (cmpStG σ fr (List.replicate k none)).length = N.length
      rw [O.len]; simp [cmpStG]
  have st1 : tn 0 h1 := T.keep _ _ _ st2 fun b hb o e => old b o e
  have loop : ∀ s3 : Shared, s3 = { s2 with heap := h1 } →
      codeAny (model X.prog X.w) X.A (.compLoop (.ListComp elt [⟨tg, iter, ifs, 0⟩] scope pos) 0 (.ref it) (.ref s2.heap.objs.size) (cmpEnvN scope cl G.objs.size X.env)) (RR (.ref s2.heap.objs.size) G.objs.size) s3 := by
    rintro s3 rfl
    obtain ⟨W, ⟨m0, w0⟩, turn⟩ := hW _ hD
    refine comp_turns (fun n s' => ∃ i ts H', ts.length = k ∧ Inv (cmpCxN X N scope cl fp G.objs.size s2 H2) [] (cmpStG σ fr ts) H' s' ∧ tn i s'.heap ∧ (∀ b ∈ fp, H' b = none) ∧ W i n H') ?_ m0
      ⟨0, List.replicate k none, _, List.length_replicate, I', st1, fun b hb => by
        rw [upd_ne (by obtain ⟨o, e, _⟩ := T.obj _ _ st2 b hb; exact Nat.ne_of_lt (Heap.lt_size e))]
        exact (f2 b hb).1, w0⟩
    rintro n s' ⟨i, ts, H', hts, I3, st3, fr3, w3⟩
    rcases turn i n H' w3 with ⟨stop, qn⟩ | ⟨go, step⟩
    · refine thn (T.done (cmpCxN X N scope cl fp G.objs.size s2 H2) rfl rfl rfl hc i [] s' _ H' _ I3 (statX fr3) st3 stop) fun r s4 ⟨hr, I4⟩ => ?_
      subst hr
      obtain ⟨m, hm, _⟩ := I4.loc
      refine fin _ _ s4 H' (by rw [hC]; exact Nat.le_succ _) I4.free ⟨m, hm⟩ (I2.call' (ch := fp) I4.os I4.base I4.hok I4.bare fun b hb => ?_) qn
      exact ⟨(f2 b hb).2.2.2.1, (f2 b hb).2.1, (f2 b hb).2.2.2.2.1, (f2 b hb).2.2.2.2.2⟩
    · refine thn (T.item (cmpCxN X N scope cl fp G.objs.size s2 H2) rfl rfl rfl hc i [] s' _ H' _ I3 (statX fr3) st3 go) fun r s4 ⟨u, hr, h4⟩ => ?_
      subst hr
      refine thn h4 fun _ s5 ⟨y, H5, I5, r5, y5, st5, fr5⟩ => ?_
      have I5' := I5.pinned (statX fr5) (T.obj _ _ st5)
      refine thn (hg fp G.objs.size s2 H2 _ s5 _ H5 y u _ I5' r5 (step y H5 y5 ts hts)) fun _ s6 ⟨σ6, H6, I6, ⟨ts6, hts6, e6⟩, q6⟩ => ?_
      subst e6
      have again : ∀ {σ7 : St} {H7 : Hp} {s7 : Shared} {m' : Nat}, σ7 = cmpStG σ fr ts6 → Inv (cmpCxN X N scope cl fp G.objs.size s2 H2) ([] ++ pinsAt fp s5.heap) σ7 H7 s7 → m' < n → W (i + 1) m' H7 →
          ∃ m, m < n ∧ ∃ i ts H', ts.length = k ∧ Inv (cmpCxN X N scope cl fp G.objs.size s2 H2) [] (cmpStG σ fr ts) H' s7 ∧ tn i s7.heap ∧ (∀ b ∈ fp, H' b = none) ∧ W i m H' := fun {σ7 H7 s7 m'} e7 I7 hm w7 => by
        subst e7
        refine ⟨m', hm, i + 1, ts6, H7, hts6, I7.unpinned, T.keep _ _ _ st5 fun b hb o e => (I7.pin (b, o) (List.mem_append_right _ (List.mem_append_right _ (mem_pinsAt hb e)))).1, fun b hb => ?_, w7⟩
        obtain ⟨o, e, d⟩ := T.obj _ _ st5 b hb
        exact (I7.pin (b, o) (List.mem_append_right _ (List.mem_append_right _ (mem_pinsAt hb e)))).2.1
      refine thn (ht fp G.objs.size s2 H2 _ s6 _ H6 _ I6 q6) fun ok s7 ⟨H7, I7, q7⟩ => ?_
      cases ok with
      | false =>
        rw [if_neg Bool.false_ne_true] at q7 ⊢
        obtain ⟨m', hm, w7⟩ := q7
        exact again rfl I7 hm w7
      | true =>
        rw [if_pos rfl] at q7 ⊢
        refine thn (he fp G.objs.size s2 H2 _ s7 _ H7 _ I7 q7) fun u8 s8 ⟨v8, H8, I8, r8, ys, hys, hlen, m', hm, w8⟩ => ?_
        refine thn (mt_append (X := cmpCxN X N scope cl fp G.objs.size s2 H2) _ s8 _ H8 (.ref s2.heap.objs.size) [v8] _ [u8] (fun _ H9 => W (i + 1) m' H9) I8 rfl (.cons r8 .nil) ⟨_, ys, v8, rfl, rfl, hys, hlen, w8⟩) fun _ s9 ⟨_, H9, I9, _, w9⟩ => ?_
        exact again rfl I9 hm w9
  exact codeAny_compStart_list (loop _ rfl) (T.self _ 0 _ _ _ st1 (loop _ rfl))
theorem pe_compN {wi : TI} (hi : PI X tg iter wi) (O : CmpOkN X N k fr scope cl) (hc : X.calm = true) (hg : ∀ fp C s H, PG (cmpCxN X N scope cl fp C s H) tg gt) (ht : ∀ fp C s H, PIf (cmpCxN X N scope cl fp C s H) ifs tt) (he : ∀ fp C s H, PE (cmpCxN X N scope cl fp C s H) elt te)
    (hs : ∀ v, foldedSetIterable iter X.env v = pure v := by intro _; rfl) : PE X (.ListComp elt [⟨tg, iter, ifs, 0⟩] scope pos) (tCompG wi gt k fr tt te) := by
  intro pins s σ H Q I h
  rw [eval_ListComp]
  refine wpAny_comprehension_free (use := none) rfl hs O.clos O.kind O.names (thn (hi pins s σ H _ I h) fun v s1 h1 => thn h1 fun itv s2 h2 => ?_)
  obtain ⟨it, fp, tn, J, H2, e, I2, T, st2, f2, hW⟩ := h2
  subst e
  refine comp_coreN (RR := fun acc C => compPost (model X.prog X.w) X.A X.xe none (EP X pins σ Q) acc C) O hc I2 T st2 f2 ht he hg hW fun D C s' H' hC hn ⟨m, hm⟩ I' q => ?_
  exact ⟨m, hm, fun h' hs' => ⟨.ref D, H', I2.left I' hC hn hs', rfl, q⟩⟩
theorem ps_compN {wi : TI} {i : Nat} {y : Str} {py spos : Pos} (hN : X.N.Nodup) (hy : X.N[i]? = some y) (hl : Loc X.env.scope y) (hi : PI X tg iter wi) (O : CmpOkN X N k fr scope cl) (hc : X.calm = true) (hg : ∀ fp C s H, PG (cmpCxN X N scope cl fp C s H) tg gt)
    (ht : ∀ fp C s H, PIf (cmpCxN X N scope cl fp C s H) ifs tt) (he : ∀ fp C s H, PE (cmpCxN X N scope cl fp C s H) elt te) (hs : ∀ v, foldedSetIterable iter X.env v = pure v := by intro _; rfl)
    (hsw : swapsWith (.ListComp elt [⟨tg, iter, ifs, 0⟩] scope pos) (some (.Name y py)) spos.line X.env = pure true := by rfl) (hf : X.fn y = true ∨ X.env.scope.names.lookup y = some .local := by first | exact .inl rfl | exact .inr rfl | assumption) :
    PS X (.Assign [.Name y py] (.ListComp elt [⟨tg, iter, ifs, 0⟩] scope pos) spos) (tAsg (tCompG wi gt k fr tt te) (gName i)) := by
  intro pins s σ H D0 I h
  rw [exec_Assign_Name_used _ _ _ _ hsw]
  refine wpAny_bind (wpAny_standAt (wpAny_bind ?_))
  show wpAny _ X.A (do let _ ← comprehension (.ListComp elt [⟨tg, iter, ifs, 0⟩] scope pos) scope X.env _ (newList []) false (eval iter X.env) (some (assign (.Name y py) X.env))) _ _ s
  refine wpAny_bind (wpAny_mono (wpAny_comprehension_free (use := some (assign (.Name y py) X.env)) (Q := fun _ s' => SP X pins D0 .next s') rfl hs O.clos O.kind O.names (thn (hi pins s σ H _ I h) fun v s1 h1 => thn h1 fun itv s2 h2 => ?_)) (fun _ s' hq => wpAny_pure (wpAny_pure hq)) fun _ _ z => z)
  obtain ⟨it, fp, tn, J, H2, e, I2, T, st2, f2, hW⟩ := h2
  subst e
  refine comp_coreN (Q := fun v H1 => gName i v σ H1 D0.nx) (RR := fun acc C => compPost (model X.prog X.w) X.A X.xe (some (assign (.Name y py) X.env)) (fun _ s' => SP X pins D0 .next s') acc C) O hc I2 T st2 f2 ht he hg hW fun D C s' H' hC hn ⟨m, hm⟩ I' q => ?_
  show wpAny _ X.A (assign (.Name y py) X.env (.ref D)) _ _ s'
  refine wpAny_assign_Name (store_ok2 I' hN hy hl (v := .ref D) rfl (fun s3 I3 ⟨a, hsa, ha⟩ => ?_) hf)
  have hCa : C ≠ a := by
    rcases ha with z | z
    · rw [z]; exact Nat.ne_of_gt (Nat.lt_of_lt_of_le I2.lt hC)
    · obtain ⟨v, o, ho, _⟩ := I2.cell y a z
      exact Nat.ne_of_gt (Nat.lt_of_lt_of_le (Heap.lt_size ho) hC)
  exact ⟨m, hm.sameBut hsa hCa, fun h' hs' => ⟨_, H', I2.left I3 hC hn hs', q⟩⟩
end
/-- the names of the def that the block sees, one by one -/
def SubN (X : Cx) (N : List Str) (scope : Scope) (cl : List (Str × Addr)) : List Nat → Nat → Prop
  | [], _ => True
  | j :: fr, i => (∃ (y : Str) (c : Addr), N[i]? = some y ∧ X.N[j]? = some y ∧ X.env.kindOf y = some .cell ∧ (relabel scope X.env).names.lookup y = some .cell ∧ cl.lookup y = some c ∧ ∀ C : Addr, (cellsFrom (C + 1) scope.names cl).lookup y = some c) ∧ SubN X N scope cl fr (i + 1)
theorem SubN.at {X : Cx} {N : List Str} {scope : Scope} {cl : List (Str × Addr)} : ∀ {fr : List Nat} {k : Nat}, SubN X N scope cl fr k → ∀ (i j : Nat), fr[i]? = some j → ∃ (y : Str) (c : Addr), N[k + i]? = some y ∧ X.N[j]? = some y ∧ X.env.kindOf y = some .cell ∧ (relabel scope X.env).names.lookup y = some .cell ∧ cl.lookup y = some c ∧ ∀ C : Addr, (cellsFrom (C + 1) scope.names cl).lookup y = some c
  | [], _, _, i, j, e => by simp at e
  | a :: fr, k, h, 0, j, e => by
    have : a = j := by simpa using e
    subst this
    exact h.1
  | a :: fr, k, h, i + 1, j, e => by
    have := SubN.at h.2 i j (by simpa using e)
    rw [show k + 1 + i = k + (i + 1) by omega] at this
    exact this
theorem cmpOkN_mk {X : Cx} {N : List Str} {k : Nat} {fr : List Nat} {scope : Scope} {cl : List (Str × Addr)} (clos : closureFor scope X.env = pure cl) (kind : scope.kind = .function) (names : ∀ y ∈ scope.names, y.2 = .local → scope.names.lookup y.1 = some .local)
    (len : N.length = k + fr.length) (sub : SubN X N scope cl fr k) (cells : ∀ p ∈ cl, X.env.cells.lookup p.1 = some p.2) (has : ∀ C : Addr, ((relabel scope X.env).names.all fun p => (p.2 != .cell && p.2 != .free) || ((cellsFrom (C + 1) scope.names cl).lookup p.1).isSome) = true) : CmpOkN X N k fr scope cl := by
  refine ⟨clos, kind, names, len, fun i y e => ?_, fun y c e => cells _ (PySem.mem_of_lookup e), fun C y h => ?_⟩
  · have hi : i < fr.length := by have := (List.getElem?_eq_some_iff.mp e).1; omega
    obtain ⟨y', c, h1, h2, h3, h4, h5, h6⟩ := sub.at i fr[i] (List.getElem?_eq_getElem hi)
    rw [e] at h1
    cases h1
    exact ⟨fr[i], List.getElem?_eq_getElem hi, h2, .inl h3, .inl h4, c, h5, h6⟩
  · have look : ∀ kd, (relabel scope X.env).names.lookup y = some kd → (kd = .cell ∨ kd = .free) → ∃ c, (cellsFrom (C + 1) scope.names cl).lookup y = some c := fun kd e hk => by
      have z := List.all_eq_true.mp (has C) _ (PySem.mem_of_lookup e)
      rcases hk with rfl | rfl
      · exact Option.isSome_iff_exists.mp (by simpa using z)
      · exact Option.isSome_iff_exists.mp (by simpa using z)
    rcases h with h | h
    · exact look _ h (.inl rfl)
    · exact look _ h (.inr rfl)
/-! list.insert -/
def rInsert : V → List V → Hp → VK → Prop := fun x vs H Q => ∃ (l : Addr) (xs : List V) (i : Int) (k : Nat) (y : V), x = .ref l ∧ vs = [.int i, y] ∧ i = (k : Int) ∧ H l = some (.lst xs) ∧ k ≤ xs.length ∧ xs.length < sizeLine ∧ Q .non (upd H l (.lst (xs.take k ++ y :: xs.drop k)))
end L2

/-! OrdR: try with a clause that binds no name -/
namespace L2
open PySem PySem.Spec PyProof.Rows
def tTry0 (B : Addr) (K : PySem.W.Frag) (G : Addr → Prop) (tb : TSX) (ts : Addr → Addr → TS) : TS := fun D σ H => tb D σ H fun C H1 => PySem.W.exmOne K (.ref C) (.ref B) = some true ∧ G C ∧
  ∀ e, ts C e D σ H1
section
variable {X : Cx} {st b₀ : Stmt} {su : List Stmt} {tb : TSX} {ts : Addr → Addr → TS} {Tn : Str} {B : Addr} {np hpos pos : Pos}
end
/-- over a range, the block's own names in cells -/
theorem compG_range {gt : TG} {k : Nat} {fr : List Nat} {tt : TT} {te : TE} {lo : Int} {n : Nat} {σ : St} {H1 : Hp} {Q : VK} (Pv : Addr → Nat → List V → Hp → Prop) (h0 : ∀ D, H1 D = none → Pv D 0 [] (upd H1 D (.lst [])))
    (hs : ∀ D i ys H, H1 D = none → i < n → Pv D i ys H → ∀ ts : St, ts.length = k → gt (.int (lo + i)) (cmpStG σ fr ts) H fun σ2 H2 => (∃ ts2 : St, ts2.length = k ∧ σ2 = cmpStG σ fr ts2) ∧ tt σ2 H2 fun b H3 => if b = true then te σ2 H3 (CYes Pv D i n) else CNext Pv D i n H3)
    (hd : ∀ D ys H, H1 D = none → Pv D n ys H → Q (.ref D) H) : CompAtG (Itr lo n) gt k fr tt te σ Q H1 := by
  intro D hD
  refine ⟨fun i m H => m = n - i ∧ i ≤ n ∧ ∃ ys, Pv D i ys H, ⟨_, rfl, Nat.zero_le _, [], h0 D hD⟩, ?_⟩
  rintro i m H ⟨rfl, hi, ys, p⟩
  by_cases hlt : i < n
  · refine .inr ⟨hlt, fun x H' y => ?_⟩
    obtain ⟨e, y⟩ := y
    subst e; subst y
    exact hs D i ys _ hD hlt p
  · have e : i = n := by omega
    subst e
    exact .inl ⟨Nat.le_refl _, hd D ys H hD p⟩
/-- in a try: an if of one statement each -/
def tIfX (tc : TT) (t1 t2 : TSX) : TSX := fun D σ H EX => tc σ H fun b H1 => if b = true then t1 D σ H1 EX else t2 D σ H1 EX
end L2

set_option Elab.async false
set_option maxRecDepth 100000
set_option maxHeartbeats 4000000
set_option linter.all false
namespace My
open PySem L2
def top (i : Nat) : Stmt := PySem.Challenge.pw_rowjudge_k73_rings.main.body.getD i (.Pass ⟨0, 0, 0, 0⟩)
abbrev s_all_among : Stmt := top 15
abbrev s_is_word : Stmt := top 16
abbrev s_is_whole : Stmt := top 17
abbrev s_alike : Stmt := top 21
abbrev s_refuse_counts_books : Stmt := top 26
abbrev s_refuse_names_books : Stmt := top 28
abbrev s_refuse_domains : Stmt := top 30
abbrev s_refuse_rings : Stmt := top 31
abbrev s_named_among : Stmt := top 32
abbrev s_way_by : Stmt := top 41
abbrev s_refuse_names_tables : Stmt := top 46
abbrev s_refuse_counts_tables : Stmt := top 48
abbrev s_refuse_way : Stmt := top 50
abbrev s_refuse_row : Stmt := top 51
abbrev s_own_row : Stmt := top 52
abbrev s_law_at : Stmt := top 54
abbrev s_law_folded : Stmt := top 55
abbrev s_law_asked : Stmt := top 56
abbrev s_law_names : Stmt := top 57
abbrev s_law_net_table : Stmt := top 58
abbrev s_law_ring : Stmt := top 59
abbrev s_Book___init___Book : Stmt := inClass (top 25) 0
abbrev s_Numbers___init___Numbers : Stmt := inClass (top 19) 0
abbrev s_Domain___init___Numbers : Stmt := inClass (top 18) 0
abbrev s_Table___init___Table : Stmt := inClass (top 45) 0
abbrev s_First___init___First : Stmt := inClass (top 35) 0
abbrev s_Way___init___First : Stmt := inClass (top 34) 0
abbrev s_Only___init___Only : Stmt := inClass (top 36) 0
abbrev s_Way___init___Only : Stmt := inClass (top 34) 0
abbrev s_Like___init___Like : Stmt := inClass (top 37) 0
abbrev s_Way___init___Like : Stmt := inClass (top 34) 0
abbrev s_Low___init___Low : Stmt := inClass (top 38) 0
abbrev s_Way___init___Low : Stmt := inClass (top 34) 0
abbrev s_High___init___High : Stmt := inClass (top 39) 0
abbrev s_Way___init___High : Stmt := inClass (top 34) 0
abbrev s_Sum___init___Sum : Stmt := inClass (top 40) 0
abbrev s_Way___init___Sum : Stmt := inClass (top 34) 0
abbrev s_Domain_has_code_Numbers : Stmt := inClass (top 18) 5
abbrev s_Domain_has_code_Words : Stmt := inClass (top 18) 5
abbrev s_law : Stmt := top 60
theorem sc_all_among : FnScope ["text", "signs", "sign"] ["text", "signs"] (defScope s_all_among) := ⟨rfl, rfl, rfl, by decide +kernel, rfl, by decide +kernel, by decide +kernel⟩
theorem sc_is_word : FnScope ["text"] ["text"] (defScope s_is_word) := ⟨rfl, rfl, rfl, by decide +kernel, rfl, by decide +kernel, by decide +kernel⟩
theorem sc_is_whole : FnScope ["value"] ["value"] (defScope s_is_whole) := ⟨rfl, rfl, rfl, by decide +kernel, rfl, by decide +kernel, by decide +kernel⟩
theorem sc_alike : FnScope ["one", "other"] ["one", "other"] (defScope s_alike) := ⟨rfl, rfl, rfl, by decide +kernel, rfl, by decide +kernel, by decide +kernel⟩
theorem sc_refuse_counts_books : FnScope ["facts", "tables"] ["facts", "tables"] (defScope s_refuse_counts_books) := ⟨rfl, rfl, rfl, by decide +kernel, rfl, by decide +kernel, by decide +kernel⟩
theorem sc_refuse_names_books : FnScope ["facts", "tables", "name", "domain", "names", "table"] ["facts", "tables"] (defScope s_refuse_names_books) := ⟨rfl, rfl, rfl, by decide +kernel, rfl, by decide +kernel, by decide +kernel⟩
theorem sc_refuse_domains : FnScope ["facts", "tables", "due", "table", "name", "domain"] ["facts", "tables"] (defScope s_refuse_domains) := ⟨rfl, rfl, rfl, by decide +kernel, rfl, by decide +kernel, by decide +kernel⟩
theorem sc_refuse_rings : FnScope ["tables", "left", "names", "waiting"] ["tables"] (defScope s_refuse_rings) := ⟨rfl, rfl, rfl, by decide +kernel, rfl, by decide +kernel, by decide +kernel⟩
theorem sc_named_among : FnScope ["table", "names"] ["table", "names"] (defScope s_named_among) := ⟨rfl, rfl, rfl, by decide +kernel, rfl, by decide +kernel, by decide +kernel⟩
theorem sc_way_by : FnScope ["name", "way"] ["name"] (defScope s_way_by) := ⟨rfl, rfl, rfl, by decide +kernel, rfl, by decide +kernel, by decide +kernel⟩
theorem sc_refuse_names_tables : FnScope ["names", "name"] ["names"] (defScope s_refuse_names_tables) := ⟨rfl, rfl, rfl, by decide +kernel, rfl, by decide +kernel, by decide +kernel⟩
theorem sc_refuse_counts_tables : FnScope ["names", "rows"] ["names", "rows"] (defScope s_refuse_counts_tables) := ⟨rfl, rfl, rfl, by decide +kernel, rfl, by decide +kernel, by decide +kernel⟩
theorem sc_refuse_way : FnScope ["way", "outcome"] ["way", "outcome"] (defScope s_refuse_way) := ⟨rfl, rfl, rfl, by decide +kernel, rfl, by decide +kernel, by decide +kernel⟩
theorem sc_refuse_row : FnScope ["domains", "outcome", "cells", "code", "domain", "spans", "low", "high"] ["domains", "outcome", "cells", "code"] (defScope s_refuse_row) := ⟨rfl, rfl, rfl, by decide +kernel, rfl, by decide +kernel, by decide +kernel⟩
theorem sc_own_row : FnScope ["cells", "code"] ["cells", "code"] (defScope s_own_row) := ⟨rfl, rfl, rfl, by decide +kernel, rfl, by decide +kernel, by decide +kernel⟩
theorem sc_law_at : FnScope ["script", "k"] ["script", "k"] (defScope s_law_at) := ⟨rfl, rfl, rfl, by decide +kernel, rfl, by decide +kernel, by decide +kernel⟩
theorem sc_law_folded : FnScope ["script", "most", "numbers", "k", "kept"] ["script", "most"] (defScope s_law_folded) := ⟨rfl, rfl, rfl, by decide +kernel, rfl, by decide +kernel, by decide +kernel⟩
theorem sc_law_asked : FnScope ["number", "k", "most", "mode", "loose", "asked", "j", "target"] ["number", "k", "most", "mode"] (defScope s_law_asked) := ⟨rfl, rfl, rfl, by decide +kernel, rfl, by decide +kernel, by decide +kernel⟩
theorem sc_law_names : FnScope ["most", "letters"] ["most"] (defScope s_law_names) := ⟨rfl, rfl, rfl, by decide +kernel, rfl, by decide +kernel, by decide +kernel⟩
theorem sc_law_net_table : FnScope ["name", "heads", "mode", "outcome", "rows"] ["name", "heads", "mode"] (defScope s_law_net_table) := ⟨rfl, rfl, rfl, by decide +kernel, rfl, by decide +kernel, by decide +kernel⟩
theorem sc_law_ring : FnScope ["asked", "most", "reached", "mid", "k", "j"] ["asked"] (defScope s_law_ring) := ⟨rfl, rfl, rfl, by decide +kernel, rfl, by decide +kernel, by decide +kernel⟩
theorem sc_Book___init___Book : FnScope ["self", "facts", "tables"] ["self", "facts", "tables"] (defScope s_Book___init___Book) := ⟨rfl, rfl, rfl, by decide +kernel, rfl, by decide +kernel, by decide +kernel⟩
theorem sc_Numbers___init___Numbers : FnScope ["self", "low", "high"] ["self", "low", "high"] (defScope s_Numbers___init___Numbers) := ⟨rfl, rfl, rfl, by decide +kernel, rfl, by decide +kernel, by decide +kernel⟩
theorem sc_Domain___init___Numbers : FnScope ["self", "low", "high"] ["self", "low", "high"] (defScope s_Domain___init___Numbers) := ⟨rfl, rfl, rfl, by decide +kernel, rfl, by decide +kernel, by decide +kernel⟩
theorem sc_Table___init___Table : FnScope ["self", "name", "names", "domains", "outcome", "way", "rows", "cells", "code"] ["self", "name", "names", "domains", "outcome", "way", "rows"] (defScope s_Table___init___Table) := ⟨rfl, rfl, rfl, by decide +kernel, rfl, by decide +kernel, by decide +kernel⟩
theorem sc_First___init___First : FnScope ["self"] ["self"] (defScope s_First___init___First) := ⟨rfl, rfl, rfl, by decide +kernel, rfl, by decide +kernel, by decide +kernel⟩
theorem sc_Way___init___First : FnScope ["self", "called"] ["self", "called"] (defScope s_Way___init___First) := ⟨rfl, rfl, rfl, by decide +kernel, rfl, by decide +kernel, by decide +kernel⟩
theorem sc_Only___init___Only : FnScope ["self"] ["self"] (defScope s_Only___init___Only) := ⟨rfl, rfl, rfl, by decide +kernel, rfl, by decide +kernel, by decide +kernel⟩
theorem sc_Way___init___Only : FnScope ["self", "called"] ["self", "called"] (defScope s_Way___init___Only) := ⟨rfl, rfl, rfl, by decide +kernel, rfl, by decide +kernel, by decide +kernel⟩
theorem sc_Like___init___Like : FnScope ["self"] ["self"] (defScope s_Like___init___Like) := ⟨rfl, rfl, rfl, by decide +kernel, rfl, by decide +kernel, by decide +kernel⟩
theorem sc_Way___init___Like : FnScope ["self", "called"] ["self", "called"] (defScope s_Way___init___Like) := ⟨rfl, rfl, rfl, by decide +kernel, rfl, by decide +kernel, by decide +kernel⟩
theorem sc_Low___init___Low : FnScope ["self"] ["self"] (defScope s_Low___init___Low) := ⟨rfl, rfl, rfl, by decide +kernel, rfl, by decide +kernel, by decide +kernel⟩
theorem sc_Way___init___Low : FnScope ["self", "called"] ["self", "called"] (defScope s_Way___init___Low) := ⟨rfl, rfl, rfl, by decide +kernel, rfl, by decide +kernel, by decide +kernel⟩
theorem sc_High___init___High : FnScope ["self"] ["self"] (defScope s_High___init___High) := ⟨rfl, rfl, rfl, by decide +kernel, rfl, by decide +kernel, by decide +kernel⟩
theorem sc_Way___init___High : FnScope ["self", "called"] ["self", "called"] (defScope s_Way___init___High) := ⟨rfl, rfl, rfl, by decide +kernel, rfl, by decide +kernel, by decide +kernel⟩
theorem sc_Sum___init___Sum : FnScope ["self"] ["self"] (defScope s_Sum___init___Sum) := ⟨rfl, rfl, rfl, by decide +kernel, rfl, by decide +kernel, by decide +kernel⟩
theorem sc_Way___init___Sum : FnScope ["self", "called"] ["self", "called"] (defScope s_Way___init___Sum) := ⟨rfl, rfl, rfl, by decide +kernel, rfl, by decide +kernel, by decide +kernel⟩
theorem sc_Domain_has_code_Numbers : FnScope ["self", "value"] ["self", "value"] (defScope s_Domain_has_code_Numbers) := ⟨rfl, rfl, rfl, by decide +kernel, rfl, by decide +kernel, by decide +kernel⟩
theorem sc_Domain_has_code_Words : FnScope ["self", "value"] ["self", "value"] (defScope s_Domain_has_code_Words) := ⟨rfl, rfl, rfl, by decide +kernel, rfl, by decide +kernel, by decide +kernel⟩
theorem sc_law : FnScope ["script", "most", "mode", "turn", "numbers", "names", "asked", "made", "k", "heads", "told", "e"] ["script"] (defScope s_law) := ⟨rfl, rfl, rfl, by decide +kernel, rfl, by decide +kernel, by decide +kernel⟩
structure Bl (K : PySem.W.Frag) (mg : Str → Option Value) (cTableError cUnlike cRing cWay cFirst cOnly cLike cLow cHigh cSum cDomain cNumbers cWords cTable cBook : Addr) : Prop where
  TableError_ : mg "TableError" = some (.ref cTableError)
  n_TableError : PySem.W.nsIn K mainGlobals "TableError" = some (some (.ref cTableError))
  Unlike_ : mg "Unlike" = some (.ref cUnlike)
  n_Unlike : PySem.W.nsIn K mainGlobals "Unlike" = some (some (.ref cUnlike))
  Ring_ : mg "Ring" = some (.ref cRing)
  n_Ring : PySem.W.nsIn K mainGlobals "Ring" = some (some (.ref cRing))
  Way_ : mg "Way" = some (.ref cWay)
  n_Way : PySem.W.nsIn K mainGlobals "Way" = some (some (.ref cWay))
  First_ : mg "First" = some (.ref cFirst)
  n_First : PySem.W.nsIn K mainGlobals "First" = some (some (.ref cFirst))
  Only_ : mg "Only" = some (.ref cOnly)
  n_Only : PySem.W.nsIn K mainGlobals "Only" = some (some (.ref cOnly))
  Like_ : mg "Like" = some (.ref cLike)
  n_Like : PySem.W.nsIn K mainGlobals "Like" = some (some (.ref cLike))
  Low_ : mg "Low" = some (.ref cLow)
  n_Low : PySem.W.nsIn K mainGlobals "Low" = some (some (.ref cLow))
  High_ : mg "High" = some (.ref cHigh)
  n_High : PySem.W.nsIn K mainGlobals "High" = some (some (.ref cHigh))
  Sum_ : mg "Sum" = some (.ref cSum)
  n_Sum : PySem.W.nsIn K mainGlobals "Sum" = some (some (.ref cSum))
  Domain_ : mg "Domain" = some (.ref cDomain)
  n_Domain : PySem.W.nsIn K mainGlobals "Domain" = some (some (.ref cDomain))
  Numbers_ : mg "Numbers" = some (.ref cNumbers)
  n_Numbers : PySem.W.nsIn K mainGlobals "Numbers" = some (some (.ref cNumbers))
  Words_ : mg "Words" = some (.ref cWords)
  n_Words : PySem.W.nsIn K mainGlobals "Words" = some (some (.ref cWords))
  Table_ : mg "Table" = some (.ref cTable)
  n_Table : PySem.W.nsIn K mainGlobals "Table" = some (some (.ref cTable))
  Book_ : mg "Book" = some (.ref cBook)
  n_Book : PySem.W.nsIn K mainGlobals "Book" = some (some (.ref cBook))
  x_Ring : ExcCls K cRing
  l_Ring : ExcLook K cRing
  k_First : Cls K cFirst
  k_Only : Cls K cOnly
  k_Like : Cls K cLike
  k_Low : Cls K cLow
  k_High : Cls K cHigh
  k_Sum : Cls K cSum
  k_Numbers : Cls K cNumbers
  k_Words : Cls K cWords
  k_Table : Cls K cTable
  k_Book : Cls K cBook
  t_First : InsT K cFirst
  t_Only : InsT K cOnly
  t_Like : InsT K cLike
  t_Low : InsT K cLow
  t_High : InsT K cHigh
  t_Sum : InsT K cSum
  t_Numbers : InsT K cNumbers
  t_Words : InsT K cWords
  t_Table : InsT K cTable
  t_Book : InsT K cBook
  na_First_called : NoAttr K cFirst "called"
  na_Only_called : NoAttr K cOnly "called"
  na_Like_called : NoAttr K cLike "called"
  na_Low_called : NoAttr K cLow "called"
  na_High_called : NoAttr K cHigh "called"
  na_Sum_called : NoAttr K cSum "called"
  na_Numbers_low : NoAttr K cNumbers "low"
  na_Numbers_high : NoAttr K cNumbers "high"
  na_Numbers_words : NoAttr K cNumbers "words"
  na_Words_low : NoAttr K cWords "low"
  na_Words_high : NoAttr K cWords "high"
  na_Words_words : NoAttr K cWords "words"
  na_Table_name : NoAttr K cTable "name"
  na_Table_names : NoAttr K cTable "names"
  na_Table_domains : NoAttr K cTable "domains"
  na_Table_outcome : NoAttr K cTable "outcome"
  na_Table_way : NoAttr K cTable "way"
  na_Table_rows : NoAttr K cTable "rows"
  na_Book_facts : NoAttr K cBook "facts"
  na_Book_tables : NoAttr K cBook "tables"
  f_nn : PySem.W.kitOne K (.ref cNumbers) (.ref cNumbers) = some true
  f_wn : PySem.W.kitOne K (.ref cWords) (.ref cNumbers) = some false
  f_ww : PySem.W.kitOne K (.ref cWords) (.ref cWords) = some true
  f_tt : PySem.W.kitOne K (.ref cTable) (.ref cTable) = some true
  f_nw : PySem.W.kitOne K (.ref cNumbers) (.ref cWords) = some false
  e2_Ring : PySem.W.exmOne K (.ref cRing) (.ref cRing) = some true
  v1_Ring : PySem.W.kitOne K (.ref cRing) (.ref cTableError) = some true
  v2_Ring : PySem.W.kitOne K (.ref cRing) (.type "ValueError") = some true
  v3_Ring : PySem.W.kitOne K (.ref cRing) (.ref cUnlike) = some false
  len_ : mg "len" = none
  isinstance_ : mg "isinstance" = none
  int_ : mg "int" = none
  bool_ : mg "bool" = none
  set_ : mg "set" = none
  dict_ : mg "dict" = none
  zip_ : mg "zip" = none
  list_ : mg "list" = none
  range_ : mg "range" = none
  ValueError_ : mg "ValueError" = none
  MOST_SIGNS_ : ∃ u, mg "MOST_SIGNS" = some u ∧ RelV (V.int 12) u
  SMALL_LETTERS_ : ∃ u, mg "SMALL_LETTERS" = some u ∧ RelV (V.str "abcdefghijklmnopqrstuvwxyz") u
  MOST_FACTS_ : ∃ u, mg "MOST_FACTS" = some u ∧ RelV (V.int 20) u
  MOST_TABLES_ : ∃ u, mg "MOST_TABLES" = some u ∧ RelV (V.int 30) u
  MOST_ROWS_ : ∃ u, mg "MOST_ROWS" = some u ∧ RelV (V.int 200) u
  MOST_COLUMNS_ : ∃ u, mg "MOST_COLUMNS" = some u ∧ RelV (V.int 4) u
theorem p10 (n : Nat) : (0 : Int) < 10 ^ n := Int.pow_pos (by decide)
theorem ret_r1 {H : Hp} {r : Addr} {o : HO} {b : Addr} {u : HO} (h : H r = some u) (n : H b = none) : upd H b o r = some u := by rw [upd_ne (ne_of_none h n)]; exact h
theorem take_snoc {α : Type} {l : List α} {i : Nat} {x : α} (e : l[i]? = some x) : l.take (i + 1) = l.take i ++ [x] := by rw [List.take_add_one, e]; rfl
theorem get_map {ns : List Int} {i : Nat} {c : Int} (e : ns[i]? = some c) : (ns.map V.int)[i]? = some (.int c) := by rw [List.getElem?_map, e]; rfl
def lets : Str := "abcdefghijklmnopqrstuvwxyz"
def isw (z : Str) : Bool := decide ((1 : Int) ≤ ((z.length : Nat) : Int)) && (decide (((z.length : Nat) : Int) ≤ 12) && (!decide (V.str z = V.str "not") && allIn z lets))
theorem all_no {l : List Nat} {i : Nat} {c : Nat} {p : Nat → Bool} (e : l[i]? = some c) (h : p c = false) : l.all p = false := by
  cases q : l.all p with
  | false => rfl
  | true => rw [List.all_eq_true.mp q c (List.mem_of_getElem? e)] at h; cases h
theorem all_succ {l : List Nat} {i : Nat} {c : Nat} {p : Nat → Bool} (e : l[i]? = some c) (h : p c = true) (ha : (l.take i).all p = true) : (l.take (i + 1)).all p = true := by
  rw [take_snoc e, List.all_append, ha]; simp [h]
theorem all_done {z g : Str} (h : (z.cps.toList.take z.cps.size).all (sg g) = true) : allIn z g = true := by
  have e : z.cps.toList.take z.cps.size = z.cps.toList := by rw [← Array.length_toList]; exact List.take_length
  rw [e] at h; exact h
theorem not_sg {g : Str} {c : Nat} (h : (!(!(Builtin.Str.occurrences g ⟨#[c]⟩ 0 g.length 1).isEmpty)) = true) : sg g c = false := by unfold sg; simpa using h
theorem is_sg {g : Str} {c : Nat} (h : ¬ (!(!(Builtin.Str.occurrences g ⟨#[c]⟩ 0 g.length 1).isEmpty)) = true) : sg g c = true := by unfold sg; simpa using h
theorem big {n : Nat} (h : n ≤ 1000) : n ≤ sizeLine := Nat.le_of_lt (small1000 h)
def mkd (C : Addr) (H : Hp) (x dx : Addr) (lo hi : Int) : Hp := upd (upd H x (.ins C dx [("low", .int lo)])) x (.ins C dx [("low", .int lo), ("high", .int hi)])
theorem put2 (v u : V) : putF (Str.ofString "high") u [(Str.ofString "low", v)] = [(Str.ofString "low", v), (Str.ofString "high", u)] := by
  unfold putF putF
  rw [if_neg (by decide)]
def hiW (zs : List Str) : Int := ((zs.length : Nat) : Int) - 1
structure Good (zs : List Str) : Prop where
  some_ : 1 ≤ zs.length
  few : zs.length ≤ 40
  words : ∀ z ∈ zs, isw z = true
  once : zs.Nodup
theorem flat_strs (zs : List Str) : (zs.map V.str).all flatV = true := by
  rw [List.all_map]
  exact List.all_eq_true.mpr fun _ _ => rfl
theorem get_strs {zs : List Str} {i : Nat} {x : V} (e : (zs.map V.str)[i]? = some x) : ∃ z, x = .str z ∧ zs[i]? = some z := by
  rw [List.getElem?_map] at e
  cases q : zs[i]? with
  | none => rw [q] at e; cases e
  | some z => rw [q] at e; cases e; exact ⟨z, rfl, rfl⟩
theorem put_strs {zs : List Str} {i : Nat} {z : Str} (e : zs[i]? = some z) : (zs.map V.str)[i]? = some (.str z) := by rw [List.getElem?_map, e]; rfl
def six : List Str := [Str.ofString "first", Str.ofString "only", Str.ofString "like", Str.ofString "low", Str.ofString "high", Str.ofString "sum"]
def WyN (C : Addr) (H : Hp) (x : Addr) (z : Str) : Prop := ∃ dx, H x = some (.ins C dx [("called", .str z)])
theorem WyN.same {C : Addr} {H H' : Hp} {x : Addr} {z : Str} (h : WyN C H x z) (s : Same H H') : WyN C H' x z := let ⟨dx, e⟩ := h; ⟨dx, s _ _ e⟩
def fnew (C : Addr) (z : Str) : Sp := fun vs H Q _ => ∃ (x dx : Addr), vs = [.ref x] ∧ H x = some (.ins C dx []) ∧ Q .non (upd H x (.ins C dx [("called", .str z)]))
theorem small2 : 2 ≤ sizeLine := by decide
/-- the six classes, told by place -/
def cl6 (a b c d e f : Addr) : List Addr := [a, b, c, d, e, f]

/-! domains, told by their ends -/
def DomC (C : Addr) (H : Hp) (a : Addr) (lo hi : Int) : Prop := ∃ dx fs, H a = some (.ins C dx fs) ∧ fs.lookup (Str.ofString "low") = some (.int lo) ∧ fs.lookup (Str.ofString "high") = some (.int hi) ∧ fs.lookup (Str.ofString "has_code") = none
def Dom (cN cW : Addr) (H : Hp) (a : Addr) (b : Int × Int) : Prop := ∃ C, (C = cN ∨ C = cW) ∧ DomC C H a b.1 b.2
theorem Dom.same {cN cW : Addr} {H H' : Hp} {a : Addr} {b : Int × Int} (h : Dom cN cW H a b) (s : Same H H') : Dom cN cW H' a b := let ⟨C, hC, dx, fs, e, r⟩ := h; ⟨C, hC, dx, fs, s _ _ e, r⟩
/-- a row of refs, item by item -/
def RefL {α : Type} (xs : List V) (as : List α) (P : Addr → α → Prop) : Prop := xs.length = as.length ∧ ∀ (j : Nat) (a : α), as[j]? = some a → ∃ r, xs[j]? = some (.ref r) ∧ P r a
theorem RefL.mono {α : Type} {xs : List V} {as : List α} {P Q : Addr → α → Prop} (h : RefL xs as P) (k : ∀ r a, P r a → Q r a) : RefL xs as Q := ⟨h.1, fun j a e => let ⟨r, e1, p⟩ := h.2 j a e; ⟨r, e1, k r a p⟩⟩
theorem RefL.nil {α : Type} {P : Addr → α → Prop} : RefL [] [] P := ⟨rfl, (fun j a e => by simp at e)⟩
theorem RefL.snoc {α : Type} {xs : List V} {as : List α} {P : Addr → α → Prop} {r : Addr} {a : α} (h : RefL xs as P) (p : P r a) : RefL (xs ++ [.ref r]) (as ++ [a]) P := by
  refine ⟨by simp [h.1], fun j b e => ?_⟩
  by_cases hj : j < as.length
  · rw [List.getElem?_append_left hj] at e
    obtain ⟨r', e1, q⟩ := h.2 j b e
    exact ⟨r', by rw [List.getElem?_append_left (by rw [h.1]; exact hj)]; exact e1, q⟩
  · have hj2 : j = as.length := by
      have := (List.getElem?_eq_some_iff.mp e).1
      simp at this; omega
    subst hj2
    simp at e
    subst e
    exact ⟨r, by rw [← h.1]; simp, p⟩
theorem RefL.get {α : Type} {xs : List V} {as : List α} {P : Addr → α → Prop} (h : RefL xs as P) {j : Nat} {x : V} (e : xs[j]? = some x) : ∃ r a, x = .ref r ∧ as[j]? = some a ∧ P r a := by
  have hj := (List.getElem?_eq_some_iff.mp e).1
  have ea := List.getElem?_eq_getElem (l := as) (i := j) (by rw [← h.1]; exact hj)
  obtain ⟨r, e1, p⟩ := h.2 j _ ea
  rw [e] at e1; cases e1
  exact ⟨r, _, rfl, ea, p⟩
abbrev Prs := List (Int × Int)
/-- a list of pairs at l -/
def SpA (N : Addr → Prop) (H : Hp) (l : Addr) (ps : Prs) : Prop := N l ∧ ∃ ys, H l = some (.lst ys) ∧ PL H ys ps
def CL (N : Addr → Prop) (H : Hp) (xs : List V) (pss : List Prs) : Prop := RefL xs pss (SpA N H)
abbrev Rw := List Prs × Int
def RowA (N : Addr → Prop) (H : Hp) (r : Addr) (rw_ : Rw) : Prop := ∃ ce cs, H r = some (.tup [.ref ce, .int rw_.2]) ∧ N ce ∧ H ce = some (.lst cs) ∧ CL N H cs rw_.1
def RL (N : Addr → Prop) (H : Hp) (xs : List V) (rws : List Rw) : Prop := RefL xs rws (RowA N H)
theorem SpA.same {N : Addr → Prop} {H H' : Hp} {l : Addr} {ps : Prs} (h : SpA N H l ps) (s : Same H H') : SpA N H' l ps := let ⟨n, ys, e, p⟩ := h; ⟨n, ys, s _ _ e, p.mono s.tups⟩
theorem CL.same {N : Addr → Prop} {H H' : Hp} {xs : List V} {pss : List Prs} (h : CL N H xs pss) (s : Same H H') : CL N H' xs pss := RefL.mono h fun _ _ p => p.same s
theorem RowA.same {N : Addr → Prop} {H H' : Hp} {r : Addr} {w : Rw} (h : RowA N H r w) (s : Same H H') : RowA N H' r w := let ⟨ce, cs, e, n, f, c⟩ := h; ⟨ce, cs, s _ _ e, n, s _ _ f, c.same s⟩
theorem RL.same {N : Addr → Prop} {H H' : Hp} {xs : List V} {rws : List Rw} (h : RL N H xs rws) (s : Same H H') : RL N H' xs rws := RefL.mono h fun _ _ p => p.same s
abbrev NT : Addr → Prop := fun _ => True
theorem SpA.any {N : Addr → Prop} {H : Hp} {l : Addr} {ps : Prs} (h : SpA N H l ps) : SpA NT H l ps := ⟨trivial, h.2⟩
theorem CL.any {N : Addr → Prop} {H : Hp} {xs : List V} {pss : List Prs} (h : CL N H xs pss) : CL NT H xs pss := RefL.mono h fun _ _ p => p.any
theorem RowA.any {N : Addr → Prop} {H : Hp} {r : Addr} {w : Rw} (h : RowA N H r w) : RowA NT H r w := let ⟨ce, cs, e, _, f, c⟩ := h; ⟨ce, cs, e, trivial, f, c.any⟩
theorem RL.any {N : Addr → Prop} {H : Hp} {xs : List V} {rws : List Rw} (h : RL N H xs rws) : RL NT H xs rws := RefL.mono h fun _ _ p => p.any
theorem SpA.wk {N N' : Addr → Prop} {H : Hp} {l : Addr} {ps : Prs} (h : SpA N H l ps) (k : ∀ a, N a → N' a) : SpA N' H l ps := ⟨k _ h.1, h.2⟩
theorem CL.wk {N N' : Addr → Prop} {H : Hp} {xs : List V} {pss : List Prs} (h : CL N H xs pss) (k : ∀ a, N a → N' a) : CL N' H xs pss := RefL.mono h fun _ _ p => p.wk k
theorem RowA.wk {N N' : Addr → Prop} {H : Hp} {r : Addr} {w : Rw} (h : RowA N H r w) (k : ∀ a, N a → N' a) : RowA N' H r w := let ⟨ce, cs, e, n, f, c⟩ := h; ⟨ce, cs, e, k _ n, f, c.wk k⟩
theorem SpA.updN {N : Addr → Prop} {D : Addr} {H : Hp} {l : Addr} {ps : Prs} {zs : List V} {o : HO} (h : SpA N H l ps) (n : ¬ N D) (e : H D = some (.lst zs)) : SpA N (upd H D o) l ps :=
  let ⟨m, ys, f, p⟩ := h
  ⟨m, ys, (upd_ne (fun z => n (by rw [← z]; exact m))).trans f, p.mono (sameT_lst e)⟩
theorem CL.updN {N : Addr → Prop} {D : Addr} {H : Hp} {xs : List V} {pss : List Prs} {zs : List V} {o : HO} (h : CL N H xs pss) (n : ¬ N D) (e : H D = some (.lst zs)) : CL N (upd H D o) xs pss := RefL.mono h fun _ _ p => p.updN n e
theorem RowA.updN {N : Addr → Prop} {D : Addr} {H : Hp} {r : Addr} {w : Rw} {zs : List V} {o : HO} (h : RowA N H r w) (n : ¬ N D) (e : H D = some (.lst zs)) : RowA N (upd H D o) r w :=
  let ⟨ce, cs, f, m, g, c⟩ := h
  ⟨ce, cs, (upd_ne (ne_of f e (by intro z; cases z))).trans f, m, (upd_ne (fun z => n (by rw [← z]; exact m))).trans g, c.updN n e⟩
theorem RL.updN {N : Addr → Prop} {D : Addr} {H : Hp} {xs : List V} {rws : List Rw} {zs : List V} {o : HO} (h : RL N H xs rws) (n : ¬ N D) (e : H D = some (.lst zs)) : RL N (upd H D o) xs rws := RefL.mono h fun _ _ p => p.updN n e
/-- free ahead, and not D -/
def Fr (H : Hp) (D : Addr) : Addr → Prop := fun a => H a = none ∧ a ≠ D
theorem Fr.out {H : Hp} {D : Addr} : ¬ Fr H D D := fun h => h.2 rfl
/-- columns of the law -/
structure RngOk (b : Int × Int) (zs : List Str) : Prop where
  le : b.1 ≤ b.2
  ws : zs ≠ [] → Good zs ∧ b = (0, hiW zs)
def ColA (N : Addr → Prop) (H : Hp) (l : Addr) (b : Int × Int) : Prop := ∃ (w : Addr) (zs : List Str), N l ∧ N w ∧ H l = some (.lst [.int b.1, .int b.2, .ref w]) ∧ H w = some (.lst (zs.map V.str)) ∧ RngOk b zs
def Cols (N : Addr → Prop) (H : Hp) (xs : List V) (bs : Prs) : Prop := RefL xs bs (ColA N H)
/-- a row that a table takes -/
structure RowOk (bs : Prs) (o : Int × Int) (w : Rw) : Prop where
  len : w.1.length = bs.length
  inn : ∀ (j : Nat) (ps : Prs) (b : Int × Int), w.1[j]? = some ps → bs[j]? = some b → ∀ p ∈ ps, b.1 ≤ p.1 ∧ p.2 ≤ b.2
  lo : o.1 ≤ w.2
  hi : w.2 ≤ o.2
/-- a row fits codes -/
def rfit (pss : List Prs) (cs : List Int) : Bool := (List.range cs.length).all fun j => inP (pss.getD j []) (cs.getD j 0)
theorem pf1 (v0 v1 : V) : putF (Str.ofString "names") v1 [(Str.ofString "name", v0)] = [(Str.ofString "name", v0), (Str.ofString "names", v1)] := by
  unfold putF putF
  rw [if_neg (by decide)]
theorem pf2 (v0 v1 v2 : V) : putF (Str.ofString "domains") v2 [(Str.ofString "name", v0), (Str.ofString "names", v1)] = [(Str.ofString "name", v0), (Str.ofString "names", v1), (Str.ofString "domains", v2)] := by
  unfold putF putF putF
  rw [if_neg (by decide), if_neg (by decide)]
theorem pf3 (v0 v1 v2 v3 : V) : putF (Str.ofString "outcome") v3 [(Str.ofString "name", v0), (Str.ofString "names", v1), (Str.ofString "domains", v2)] = [(Str.ofString "name", v0), (Str.ofString "names", v1), (Str.ofString "domains", v2), (Str.ofString "outcome", v3)] := by
  unfold putF putF putF putF
  rw [if_neg (by decide), if_neg (by decide), if_neg (by decide)]
theorem pf4 (v0 v1 v2 v3 v4 : V) : putF (Str.ofString "way") v4 [(Str.ofString "name", v0), (Str.ofString "names", v1), (Str.ofString "domains", v2), (Str.ofString "outcome", v3)] = [(Str.ofString "name", v0), (Str.ofString "names", v1), (Str.ofString "domains", v2), (Str.ofString "outcome", v3), (Str.ofString "way", v4)] := by
  unfold putF putF putF putF putF
  rw [if_neg (by decide), if_neg (by decide), if_neg (by decide), if_neg (by decide)]
theorem pf5 (v0 v1 v2 v3 v4 v5 : V) : putF (Str.ofString "rows") v5 [(Str.ofString "name", v0), (Str.ofString "names", v1), (Str.ofString "domains", v2), (Str.ofString "outcome", v3), (Str.ofString "way", v4)] = [(Str.ofString "name", v0), (Str.ofString "names", v1), (Str.ofString "domains", v2), (Str.ofString "outcome", v3), (Str.ofString "way", v4), (Str.ofString "rows", v5)] := by
  unfold putF putF putF putF putF putF
  rw [if_neg (by decide), if_neg (by decide), if_neg (by decide), if_neg (by decide), if_neg (by decide)]
/-- the heap without x -/
def hide (H : Hp) (x : Addr) : Hp := fun b => if b = x then none else H b
theorem hide_of {H : Hp} {x b : Addr} {o : HO} (e : H b = some o) (n : b ≠ x) : hide H x b = some o := by unfold hide; rw [if_neg n]; exact e
theorem hide_same {H H' : Hp} {x : Addr} (k : ∀ b o, b ≠ x → H b = some o → H' b = some o) : Same (hide H x) H' := fun b o e => by
  unfold hide at e
  by_cases h : b = x
  · rw [if_pos h] at e; cases e
  · rw [if_neg h] at e; exact k b o h e
theorem PL.hide {H : Hp} {x C dx : Addr} {fs : List (Str × V)} (hx : H x = some (.ins C dx fs)) {ys : List V} {ps : Prs} (h : PL H ys ps) : PL (hide H x) ys ps :=
  h.mono fun b xs e => hide_of e (ne_of e hx (by intro z; cases z))
theorem RL.hide {H : Hp} {x C dx : Addr} {fs : List (Str × V)} (hx : H x = some (.ins C dx fs)) {xs : List V} {rws : List Rw} (h : RL NT H xs rws) : RL NT (My.hide H x) xs rws :=
  RefL.mono h fun r w ⟨ce, cs, e, _, f, c⟩ => ⟨ce, cs, hide_of e (ne_of e hx (by intro z; cases z)), trivial, hide_of f (ne_of f hx (by intro z; cases z)), RefL.mono c fun l ps ⟨_, ys, g, p⟩ => ⟨trivial, ys, hide_of g (ne_of g hx (by intro z; cases z)), PL.hide hx p⟩⟩
/-! words -/
def wcs (c k : Int) : List Nat := List.replicate (c / 26 % 6).toNat (97 + (c % 26).toNat) ++ ([97 + (k / 7 % 7).toNat, 97 + (k % 7).toNat] ++ List.replicate (k % 5).toNat (97 + (c / 156 % 26).toNat))
def wd (c k : Int) : Str := ⟨(wcs c k).toArray⟩
/-- the words of a domain -/
def wds (c : Int) (n : Nat) : List Str := (List.range n).map fun j : Nat => wd c (j : Int)
abbrev SI := Str × Int
def tp (p : SI) : List V := [.str p.1, .int p.2]
def say (i : Int) : SI := (Str.ofString "say", i)
def clash : SI := (Str.ofString "clash", 0)
def non_ : SI := (Str.ofString "none", 0)
def least (ns : List Int) : Int := ns.foldl (fun m c => if c < m then c else m) (ns.headD 0)
def great (ns : List Int) : Int := ns.foldl (fun m c => if c > m then c else m) (ns.headD 0)
def fLow (ns : List Int) : SI := say (least ns)
def fHigh (ns : List Int) : SI := say (great ns)
def fLike (ns : List Int) : SI := if least ns = great ns then say (least ns) else clash
def ver (f : List Int → SI) : List Int → SI
  | [] => non_
  | n :: ns => f (n :: ns)
def Wy (C : Addr) (H : Hp) (x : Addr) : Prop := ∃ dx z, H x = some (.ins C dx [("called", .str z)])
def fFirst (ns : List Int) : SI := say (ns.headD 0)
def fOnly (ns : List Int) : SI := if ns.length = 1 then say (ns.headD 0) else clash
def near (lo hi n : Int) : Int := if n < lo then lo else if n > hi then hi else n
/-- what the way at a place makes of codes -/
def wf : Nat → Int → Int → List Int → SI
  | 0, _, _ => fFirst
  | 1, _, _ => fOnly
  | 2, _, _ => fLike
  | 3, _, _ => fLow
  | 4, _, _ => fHigh
  | _, lo, hi => fun ns => say (near lo hi ns.sum)
def spCh (K : PySem.W.Frag) (C cN cW : Addr) (i : Nat) : Sp := fun vs H Q _ => ∃ (x c o : Addr) (n : Int) (ns : List Int) (b : Int × Int), vs = [.ref x, .ref c, .ref o] ∧ Wy C H x ∧ Dom cN cW H o b ∧ b.1 ≤ b.2 ∧ SqL K H c ((n :: ns).map V.int) ∧ ns.length < 900 ∧ ∀ (r : Addr) (H' : Hp), Same H H' → SqT K H' r (tp (wf i b.1 b.2 (n :: ns))) → Q (.ref r) H'
def spVe (K : PySem.W.Frag) (C cN cW : Addr) (i : Nat) : Sp := fun vs H Q _ => ∃ (x c o : Addr) (ns : List Int) (b : Int × Int), vs = [.ref x, .ref c, .ref o] ∧ Wy C H x ∧ Dom cN cW H o b ∧ b.1 ≤ b.2 ∧ SqL K H c (ns.map V.int) ∧ ns.length < 900 ∧ ∀ (r : Addr) (H' : Hp), Same H H' → SqT K H' r (tp (ver (wf i b.1 b.2) ns)) → Q (.ref r) H'
/-! masks -/
def msk (f : Nat → Bool) : Nat → Nat
  | 0 => 0
  | n + 1 => (if f n then 2 ^ n else 0) + msk f n
def bitOn (m : Int) (k : Nat) : Bool := Builtin.bitAnd (m / 2 ^ k) 1 != 0
/-- the codes of some rows ahead of n -/
def pkF (rws : List Rw) (f : Nat → Bool) (n : Nat) : List Int := ((List.range n).filter f).map fun k => (rws.getD k ([], 0)).2
/-- a table: its rows, its way, its outcome -/
def Tbl (cT cN cW : Addr) (H : Hp) (t : Addr) (rws : List Rw) (i : Nat) (o : Int × Int) : Prop := ∃ (rl ou dx : Addr) (fs : List (Str × V)) (xs : List V) (wy : Str), H t = some (.ins cT dx fs) ∧ fs.lookup (Str.ofString "rows") = some (.ref rl) ∧ fs.lookup (Str.ofString "way") = some (.str wy) ∧ fs.lookup (Str.ofString "outcome") = some (.ref ou) ∧ H rl = some (.lst xs) ∧ RL NT H xs rws ∧ six[i]? = some wy ∧ Dom cN cW H ou o ∧ o.1 ≤ o.2 ∧ xs.length ≤ 200
def fitF (rws : List Rw) (cs : List Int) (k : Nat) : Bool := rfit (rws.getD k ([], 0)).1 cs
/-- the codes of the rows that fit -/
def fl (rws : List Rw) (cs : List Int) : List Int := (rws.filter fun w => rfit w.1 cs).map (·.2)
/-- the places of the law's ways among the six -/
def ord : List Nat := [3, 4, 2, 1, 0, 5]
def w6 : List Str := [Str.ofString "low", Str.ofString "high", Str.ofString "like", Str.ofString "only", Str.ofString "first", Str.ofString "sum"]
def dueL (lo hi : Int) (ns : List Int) : List SI := ord.map fun i => ver (wf i lo hi) ns
/-- tuples of verdicts -/
def DL (H : Hp) (xs : List V) (ps : List SI) : Prop := RefL xs ps fun r p => H r = some (.tup (tp p))
/-- what else a table has -/
def TblX (cT : Addr) (H : Hp) (t : Addr) (nm wy : Str) (ou : Addr) (zs : List Str) (dv : List V) : Prop := ∃ (dx na dl : Addr) (fs : List (Str × V)), H t = some (.ins cT dx fs) ∧ fs.lookup (Str.ofString "name") = some (.str nm) ∧ fs.lookup (Str.ofString "way") = some (.str wy) ∧ fs.lookup (Str.ofString "outcome") = some (.ref ou) ∧ fs.lookup (Str.ofString "names") = some (.ref na) ∧ fs.lookup (Str.ofString "domains") = some (.ref dl) ∧ H na = some (.lst (zs.map V.str)) ∧ H dl = some (.lst dv)
/-! columns of pairs -/
structure Col where
  prs : Prs
  w : Bool
  sd : Int
def ColN (N : Addr → Prop) (H : Hp) (l : Addr) (c : Col) : Prop := ∃ (pl : Addr) (ts : List V), N l ∧ N pl ∧ H l = some (.lst [.ref pl, .bl c.w, .int c.sd]) ∧ H pl = some (.lst ts) ∧ PL H ts c.prs
def ColsN (N : Addr → Prop) (H : Hp) (xs : List V) (cs : List Col) : Prop := RefL xs cs (ColN N H)
/-- pairs that follow on one another, up to at -/
structure Ch (ps : Prs) : Prop where
  le : ∀ (i : Nat) (p : Int × Int), ps[i]? = some p → p.1 ≤ p.2
  nxt : ∀ (i : Nat) (p q : Int × Int), ps[i]? = some p → ps[i + 1]? = some q → q.1 = p.2 + 1
structure ColOk (c : Col) : Prop where
  some_ : 1 ≤ c.prs.length
  few : c.prs.length ≤ 6
  ch : Ch c.prs
  w0 : c.w = true → ∀ p, c.prs[0]? = some p → p.1 = 0
  wl : c.w = true → ∀ (i : Nat) (p : Int × Int), c.prs[i]? = some p → p.2 < 40
def Col.lo (c : Col) : Int := (c.prs.headD (0, 0)).1
def Col.hi (c : Col) : Int := (c.prs.getLastD (0, 0)).2
def Col.b (c : Col) : Int × Int := (c.lo, c.hi)
/-- spans in order -/
structure Srt (ps : Prs) : Prop where
  le : ∀ (i : Nat) (p : Int × Int), ps[i]? = some p → p.1 ≤ p.2
  lt : ∀ (i j : Nat) (p q : Int × Int), i < j → ps[i]? = some p → ps[j]? = some q → p.2 < q.1
/-- spans that hold just the pairs at b's bits, ahead of n -/
structure SpOk (prs : Prs) (b n : Nat) (ps : Prs) : Prop where
  srt : Srt ps
  iff : ∀ x : Int, inP ps x = true ↔ ∃ (k : Nat) (p : Int × Int), k < n ∧ prs[k]? = some p ∧ b.testBit k = true ∧ p.1 ≤ x ∧ x ≤ p.2
/-- the spans of bits, as they are made -/
def mrg (prs : Prs) (b : Nat) : Nat → Prs
  | 0 => []
  | n + 1 => if b.testBit n then (if (decide (0 < n) && b.testBit (n - 1)) then (mrg prs b n).dropLast ++ [(((mrg prs b n).getLastD (0, 0)).1, (prs.getD n (0, 0)).2)] else mrg prs b n ++ [prs.getD n (0, 0)]) else mrg prs b n
abbrev BW := List Nat × Int
def vN (bs : List Nat) : List V := bs.map fun b : Nat => V.int (b : Int)
theorem vN_len (bs : List Nat) : (vN bs).length = bs.length := by unfold vN; rw [List.length_map]
theorem vN_of {bs : List Nat} {j : Nat} {x : V} (e : (vN bs)[j]? = some x) : ∃ b : Nat, x = .int (b : Int) ∧ bs[j]? = some b := by
  unfold vN at e
  rw [List.getElem?_map] at e
  cases q : bs[j]? with
  | none => rw [q] at e; cases e
  | some b => rw [q] at e; cases e; exact ⟨b, rfl, rfl⟩
theorem vN_app (bs cs : List Nat) : vN bs ++ vN cs = vN (bs ++ cs) := by unfold vN; rw [List.map_append]
def BRowA (N : Addr → Prop) (H : Hp) (r : Addr) (w : BW) : Prop := ∃ bl, H r = some (.tup [.ref bl, .int w.2]) ∧ N bl ∧ H bl = some (.lst (vN w.1))
def BRL (N : Addr → Prop) (H : Hp) (xs : List V) (ws : List BW) : Prop := RefL xs ws (BRowA N H)
structure BitOk (cs : List Col) (o : Col) (w : BW) : Prop where
  len : w.1.length = cs.length
  lt : ∀ (j b : Nat) (c : Col), w.1[j]? = some b → cs[j]? = some c → b < 2 ^ c.prs.length
  lo : o.lo ≤ w.2
  hi : w.2 ≤ o.hi
/-- a row of spans that holds what a row of bits says -/
structure RwOf (cs : List Col) (w : BW) (x : Rw) : Prop where
  code : x.2 = w.2
  len : x.1.length = cs.length
  sp : ∀ (j : Nat) (ps : Prs) (c : Col) (b : Nat), x.1[j]? = some ps → cs[j]? = some c → w.1[j]? = some b → SpOk c.prs b c.prs.length ps
  is : ∀ (j : Nat) (ps : Prs) (c : Col) (b : Nat), x.1[j]? = some ps → cs[j]? = some c → w.1[j]? = some b → ps = mrg c.prs b c.prs.length
def RwsOf (cs : List Col) (ws : List BW) (rws : List Rw) : Prop := rws.length = ws.length ∧ ∀ (k : Nat) (w : BW) (x : Rw), ws[k]? = some w → rws[k]? = some x → RwOf cs w x
/-! points of the grid -/
def grow (pts : List (List Nat)) (n : Nat) : List (List Nat) := pts.flatMap fun p => (List.range n).map fun k => p ++ [k]
def prodP (ls : List Nat) : List (List Nat) := ls.foldl grow [[]]
/-- a point lies in the grid -/
def PtOk (ls : List Nat) (p : List Nat) : Prop := p.length = ls.length ∧ ∀ (j a m : Nat), p[j]? = some a → ls[j]? = some m → a < m
def PtL (N : Addr → Prop) (H : Hp) (xs : List V) (pts : List (List Nat)) : Prop := RefL xs pts fun r p => N r ∧ H r = some (.lst (vN p))
def lens (cs : List Col) : List Nat := cs.map fun c => c.prs.length
/-- codes that lie at the ends of the pairs of a point -/
def AtP (cs : List Col) (p : List Nat) (cd : List Int) : Prop := cd.length = cs.length ∧ ∀ (j : Nat) (x : Int) (c : Col) (a : Nat), cd[j]? = some x → cs[j]? = some c → p[j]? = some a → ∃ pr, c.prs[a]? = some pr ∧ (x = pr.1 ∨ x = pr.2)
def bfit (bs p : List Nat) : Bool := (List.range p.length).all fun j => (bs.getD j 0).testBit (p.getD j 0)
def bF (ws : List BW) (p : List Nat) (k : Nat) : Bool := bfit (ws.getD k ([], 0)).1 p
def cnt (ws : List BW) (p : List Nat) : List Nat := (List.range ws.length).filter (bF ws p)
/-- a domain of a column, whole -/
def DomX (cN cW : Addr) (H : Hp) (a : Addr) (c : Col) : Prop := (c.w = false ∧ ∃ dx fs, H a = some (.ins cN dx fs) ∧ fs.lookup (Str.ofString "low") = some (.int c.lo) ∧ fs.lookup (Str.ofString "high") = some (.int c.hi) ∧ fs.lookup (Str.ofString "has_code") = none) ∨
  (c.w = true ∧ ∃ dx fs l, H a = some (.ins cW dx fs) ∧ fs.lookup (Str.ofString "low") = some (.int c.lo) ∧ fs.lookup (Str.ofString "high") = some (.int c.hi) ∧ fs.lookup (Str.ofString "has_code") = none ∧ fs.lookup (Str.ofString "words") = some (.ref l) ∧ H l = some (.lst ((wds c.sd (c.hi + 1).toNat).map V.str)))
/-- a list in another order -/
def prm {α : Type} (os : List Nat) (xs : List α) : List α := os.filterMap (xs[·]?)
/-- an order of n places -/
structure Pm (os : List Nat) (n : Nat) : Prop where
  len : os.length = n
  lt : ∀ k ∈ os, k < n
  nd : os.Nodup
  all : ∀ k, k < n → k ∈ os
theorem prm_cons {α : Type} {o : Nat} {os : List Nat} {xs : List α} (h : o < xs.length) : prm (o :: os) xs = xs[o] :: prm os xs := by
  unfold prm
  rw [List.filterMap_cons, List.getElem?_eq_getElem h]
theorem prm_get {α : Type} : ∀ {os : List Nat} {xs : List α}, (∀ k ∈ os, k < xs.length) → (prm os xs).length = os.length ∧ ∀ (j k : Nat), os[j]? = some k → (prm os xs)[j]? = xs[k]?
  | [], xs, _ => ⟨rfl, fun j k e => by simp at e⟩
  | o :: os, xs, h => by
    obtain ⟨h1, h2⟩ := prm_get (os := os) (xs := xs) fun k hk => h k (List.mem_cons_of_mem _ hk)
    have ho := h o List.mem_cons_self
    rw [prm_cons ho]
    refine ⟨by rw [List.length_cons, List.length_cons, h1], fun j k f => ?_⟩
    match j, f with
    | 0, f =>
      have : o = k := by simpa using f
      subst this
      rw [List.getElem?_eq_getElem ho]; rfl
    | j + 1, f => exact h2 j k (by simpa using f)
theorem prm_snoc {α : Type} {os : List Nat} {k : Nat} {xs : List α} {x : α} (e : xs[k]? = some x) : prm (os ++ [k]) xs = prm os xs ++ [x] := by
  unfold prm
  rw [List.filterMap_append]
  simp [e]
theorem mem_prm {α : Type} {os : List Nat} {xs : List α} {x : α} (h : x ∈ prm os xs) : x ∈ xs := by
  unfold prm at h
  obtain ⟨k, _, e⟩ := List.mem_filterMap.mp h
  exact List.mem_of_getElem? e
theorem nd_ix {α : Type} {xs : List α} (h : xs.Nodup) {i j : Nat} {x : α} (e : xs[i]? = some x) (f : xs[j]? = some x) : i = j := by
  obtain ⟨hi, ei⟩ := List.getElem?_eq_some_iff.mp e
  obtain ⟨hj, ej⟩ := List.getElem?_eq_some_iff.mp f
  have p := List.pairwise_iff_getElem.mp (List.nodup_iff_pairwise_ne.mp h)
  rcases Nat.lt_trichotomy i j with q | q | q
  · exact absurd (ei.trans ej.symm) (p i j hi hj q)
  · exact q
  · exact absurd (ej.trans ei.symm) (p j i hj hi q)
theorem prm_nodup {α : Type} {os : List Nat} {xs : List α} (ho : os.Nodup) (hx : xs.Nodup) (hl : ∀ k ∈ os, k < xs.length) : (prm os xs).Nodup := by
  induction os with
  | nil => exact List.nodup_nil
  | cons o os ih =>
    rw [List.nodup_cons] at ho
    have hi := ih ho.2 fun k hk => hl k (List.mem_cons_of_mem _ hk)
    have h0 := hl o List.mem_cons_self
    rw [prm_cons h0, List.nodup_cons]
    refine ⟨fun hm => ?_, hi⟩
    unfold prm at hm
    obtain ⟨k, hk, f⟩ := List.mem_filterMap.mp hm
    have : k = o := nd_ix hx f (List.getElem?_eq_getElem h0)
    subst this
    exact ho.1 hk
/-- a table whole -/
def TF (cT : Addr) (H : Hp) (t : Addr) (nm wy : Str) (ou : Addr) (zs : List Str) (dv : List V) (rws : List Rw) : Prop := ∃ (rl dx na dl : Addr) (fs : List (Str × V)) (xs : List V), H t = some (.ins cT dx fs) ∧ fs.lookup (Str.ofString "rows") = some (.ref rl) ∧ fs.lookup (Str.ofString "name") = some (.str nm) ∧ fs.lookup (Str.ofString "way") = some (.str wy) ∧ fs.lookup (Str.ofString "outcome") = some (.ref ou) ∧ fs.lookup (Str.ofString "names") = some (.ref na) ∧ fs.lookup (Str.ofString "domains") = some (.ref dl) ∧ H na = some (.lst (zs.map V.str)) ∧ H dl = some (.lst dv) ∧ H rl = some (.lst xs) ∧ RL NT H xs rws ∧ xs.length ≤ 200
theorem TF.same {cT : Addr} {H H' : Hp} {t : Addr} {nm wy : Str} {ou : Addr} {zs : List Str} {dv : List V} {rws : List Rw} (h : TF cT H t nm wy ou zs dv rws) (s : Same H H') : TF cT H' t nm wy ou zs dv rws :=
  let ⟨rl, dx, na, dl, fs, xs, h1, h2, h3, h4, h5, h6, h7, h8, h9, h10, h11, r⟩ := h
  ⟨rl, dx, na, dl, fs, xs, s _ _ h1, h2, h3, h4, h5, h6, h7, s _ _ h8, s _ _ h9, s _ _ h10, h11.same s, r⟩
def trn (os : List Nat) (x : Rw) : Rw := (prm os x.1, x.2)
/-- what a table is made of -/
structure TOk (cN cW : Addr) (H : Hp) (nm wy : Str) (ou : Addr) (zs : List Str) (dv : List V) (rws : List Rw) (bs : Prs) (o : Int × Int) : Prop where
  words : ∀ z ∈ nm :: zs, isw z = true
  once : (nm :: zs).Nodup
  one : 1 ≤ zs.length
  four : zs.length ≤ 4
  way : wy ∈ six
  sum : wy = Str.ofString "sum" → ∃ dx fs, H ou = some (.ins cN dx fs)
  doms : RefL dv bs (Dom cN cW H)
  out : Dom cN cW H ou o
  len : bs.length = zs.length
  rows : ∀ w ∈ rws, RowOk bs o w
  few : rws.length ≤ 200
theorem hide_upd {H : Hp} {D : Addr} {o : HO} : hide (upd H D o) D = hide H D := by
  funext b
  unfold hide
  by_cases h : b = D
  · rw [if_pos h, if_pos h]
  · rw [if_neg h, if_neg h, upd_ne h]
theorem hide_mono {H H' : Hp} {D : Addr} (s : Same H H') : Same (hide H D) (hide H' D) := fun b o e => by
  unfold hide at e ⊢
  by_cases h : b = D
  · rw [if_pos h] at e; cases e
  · rw [if_neg h] at e ⊢; exact s b o e
theorem hide_le (H : Hp) (D : Addr) : Same (hide H D) H := fun b o e => by
  unfold hide at e
  by_cases h : b = D
  · rw [if_pos h] at e; cases e
  · rw [if_neg h] at e; exact e
def pc (ws : List BW) (p : List Nat) : List Int := (ws.filter fun w => bfit w.1 p).map (·.2)
def WrdD (C : Addr) (H : Hp) (a : Addr) (zs : List Str) : Prop := ∃ dx l, H a = some (.ins C dx [("low", .int 0), ("high", .int (hiW zs)), ("words", .ref l)]) ∧ H l = some (.lst (zs.map V.str))
def NumD (C : Addr) (H : Hp) (a : Addr) (lo hi : Int) : Prop := ∃ dx, H a = some (.ins C dx [("low", .int lo), ("high", .int hi)])
theorem WrdD.same {C : Addr} {H H' : Hp} {a : Addr} {zs : List Str} (h : WrdD C H a zs) (s : Same H H') : WrdD C H' a zs := let ⟨dx, l, e, f⟩ := h; ⟨dx, l, s _ _ e, s _ _ f⟩
theorem NumD.same {C : Addr} {H H' : Hp} {a : Addr} {lo hi : Int} (h : NumD C H a lo hi) (s : Same H H') : NumD C H' a lo hi := let ⟨dx, e⟩ := h; ⟨dx, s _ _ e⟩
def bnd (i : Int) : Prop := i.natAbs < 10 ^ 60
/-- the text of a code -/
def Shown (cN cW : Addr) (H : Hp) (d : Addr) (c : Int) (z : Str) : Prop :=
  (∃ lo hi, NumD cN H d lo hi ∧ lo ≤ c ∧ c ≤ hi ∧ bnd c ∧ z = toString c) ∨ ∃ zs, WrdD cW H d zs ∧ 0 ≤ c ∧ zs[c.toNat]? = some z
def pz (t : Int) : List Nat := [122, 117, 118].take t.toNat
def l2w (c k : Int) : List Nat := [97 + (k % 8).toNat, 97 + ((k / 8 + c / 80) % 8).toNat]
def w92 (c k : Int) : Str := ⟨(pz (c / 80 % 4) ++ l2w c k).toArray⟩
def ws92 (c : Int) (n : Nat) : List Str := (List.range n).map fun j : Nat => w92 c (0 + (j : Int))
/-- a domain as it stands in the law: its words or none, its ends -/
abbrev Dk := Option (List Str) × Int × Int
def DomD (cN cW : Addr) (H : Hp) (d : Addr) (k : Dk) : Prop := match k.1 with
  | none => NumD cN H d k.2.1 k.2.2
  | some zs => WrdD cW H d zs ∧ k.2.1 = 0 ∧ k.2.2 = hiW zs ∧ Good zs
theorem DomD.same {cN cW : Addr} {H H' : Hp} {d : Addr} {k : Dk} (h : DomD cN cW H d k) (s : Same H H') : DomD cN cW H' d k := by
  obtain ⟨w, lo, hi⟩ := k
  cases w with
  | none => exact NumD.same h s
  | some zs => exact ⟨h.1.same s, h.2⟩
def cutS (zs : List Str) (lo hi : Option Int) : List Str := (zs.drop (HT.sIx zs.length 0 lo)).take (HT.sIx zs.length zs.length hi - HT.sIx zs.length 0 lo)
/-- how a pair of a domain is shown -/
def shT (k : Dk) (p : Pr) : Str :=
  if p = k.2 then Str.ofString "-" else match k.1 with
  | some zs => Txt.join (Str.ofString ", ") (cutS zs (some p.1) (some (p.2 + 1)))
  | none => if p.1 = p.2 then Str.ofString (toString p.1) else if p.1 = k.2.1 then Str.ofString ".." ++ Str.ofString (toString p.2) else if p.2 = k.2.2 then Str.ofString (toString p.1) ++ Str.ofString ".." else Str.ofString (toString p.1) ++ Str.ofString ".." ++ Str.ofString (toString p.2)
structure PrOk (k : Dk) (p : Pr) : Prop where
  lo : k.2.1 ≤ p.1
  le : p.1 ≤ p.2
  hi : p.2 ≤ k.2.2
  b1 : bnd p.1
  b2 : bnd p.2
def GdK (k : Dk) : Prop := match k.1 with
  | none => True
  | some zs => Good zs
def WvOk (H : Hp) (wv : V) (k : Dk) : Prop := match k.1 with
  | none => wv = .non
  | some zs => ∃ l, wv = .ref l ∧ H l = some (.lst (zs.map V.str)) ∧ Good zs
/-- as DomD; the list of its words is N -/
def DomN (N : Addr → Prop) (cN cW : Addr) (H : Hp) (d : Addr) (k : Dk) : Prop := match k.1 with
  | none => NumD cN H d k.2.1 k.2.2
  | some zs => (∃ dx l, N l ∧ H d = some (.ins cW dx [("low", .int 0), ("high", .int (hiW zs)), ("words", .ref l)]) ∧ H l = some (.lst (zs.map V.str))) ∧ k.2.1 = 0 ∧ k.2.2 = hiW zs ∧ Good zs
theorem DomN.dom {N : Addr → Prop} {cN cW : Addr} {H : Hp} {d : Addr} {k : Dk} (h : DomN N cN cW H d k) : DomD cN cW H d k := by
  obtain ⟨w, lo, hi⟩ := k
  cases w with
  | none => exact h
  | some zs => obtain ⟨⟨dx, l, _, e, f⟩, r⟩ := h; exact ⟨⟨dx, l, e, f⟩, r⟩
theorem DomN.same {N : Addr → Prop} {cN cW : Addr} {H H' : Hp} {d : Addr} {k : Dk} (h : DomN N cN cW H d k) (s : Same H H') : DomN N cN cW H' d k := by
  obtain ⟨w, lo, hi⟩ := k
  cases w with
  | none => exact NumD.same h s
  | some zs => obtain ⟨⟨dx, l, n, e, f⟩, r⟩ := h; exact ⟨⟨dx, l, n, s _ _ e, s _ _ f⟩, r⟩
theorem DomN.upd {N : Addr → Prop} {cN cW : Addr} {H : Hp} {d D : Addr} {k : Dk} {o : HO} {zs : List V} (h : DomN N cN cW H d k) (n : ¬ N D) (e : H D = some (.lst zs)) : DomN N cN cW (upd H D o) d k := by
  obtain ⟨w, lo, hi⟩ := k
  cases w with
  | none =>
    obtain ⟨dx, f⟩ := h
    exact ⟨dx, (upd_ne (ne_of f e (by intro z; cases z))).trans f⟩
  | some ws =>
    obtain ⟨⟨dx, l, m, f, g⟩, r⟩ := h
    exact ⟨⟨dx, l, m, (upd_ne (ne_of f e (by intro z; cases z))).trans f, (upd_ne (fun (z : l = D) => n (by rw [← z]; exact m))).trans g⟩, r⟩
def WvN (N : Addr → Prop) (H : Hp) (wv : V) (k : Dk) : Prop := match k.1 with
  | none => wv = .non
  | some zs => ∃ l, N l ∧ wv = .ref l ∧ H l = some (.lst (zs.map V.str)) ∧ Good zs
theorem isw_len {z : Str} (h : isw z = true) : z.length ≤ 12 := by
  unfold isw at h
  simp only [Bool.and_eq_true, decide_eq_true_eq] at h
  omega
def pairEq (p q : Pr) : Bool := eqV (.int p.1) (.int q.1) && eqV (.int p.2) (.int q.2)
def shN (lo hi : Int) (p : Pr) : Str := if p.1 = p.2 then Str.ofString (toString p.1) else if p.1 = lo then Str.ofString ".." ++ Str.ofString (toString p.2) else if p.2 = hi then Str.ofString (toString p.1) ++ Str.ofString ".." else Str.ofString (toString p.1) ++ Str.ofString ".." ++ Str.ofString (toString p.2)
/-! words of the plan -/
def hcs (c : Int) : List Nat := (List.range (c % 6).toNat).map fun j : Nat => 97 + (c / (3 * (0 + (j : Int)) + 1) % 13).toNat
def tcs (c : Int) : List Nat := (List.range (c / 7 % 6).toNat).map fun j : Nat => 97 + (c / (5 * (0 + (j : Int)) + 2) % 13).toNat
def lwc (c k : Int) : List Nat := hcs c ++ ([97 + ((c / 11 + 3 * k) % 26).toNat] ++ tcs c)
def lw (c k : Int) : Str := ⟨(lwc c k).toArray⟩
def lws (c : Int) (n : Nat) : List Str := (List.range n).map fun j : Nat => lw c (0 + (j : Int))
/-! a domain of the plan -/
structure PD where
  lo : Int
  hi : Int
  ws : List Str
def PDA (N : Addr → Prop) (H : Hp) (r : Addr) (p : PD) : Prop := ∃ l : Addr, N r ∧ N l ∧ H r = some (.tup [.int p.lo, .int p.hi, .ref l]) ∧ H l = some (.lst (p.ws.map V.str))
def PD.k (p : PD) : Dk := (if p.ws = [] then none else some p.ws, p.lo, p.hi)
structure PDok (p : PD) : Prop where
  le : p.lo ≤ p.hi
  wd : p.ws ≠ [] → Good p.ws ∧ p.lo = 0 ∧ p.hi = hiW p.ws
  bd : ∀ x : Int, p.lo ≤ x → x ≤ p.hi → bnd x
def SPI (p : PD) (H H' : Hp) (pl : Addr) : Prop := Same H H' ∧ ∃ (ts : List V) (ps : Prs), H' pl = some (.lst ts) ∧ PL H' ts ps ∧ (∀ x ∈ ps, p.lo ≤ x.1 ∧ x.2 ≤ p.hi) ∧ ps.length ≤ 2
/-- a pool of numbers of a domain -/
def PoA (N : Addr → Prop) (H : Hp) (a : Addr) (p : PD) : Prop := N a ∧ ∃ xs : List Int, H a = some (.lst (xs.map V.int)) ∧ xs.length = 3 ∧ ∀ x ∈ xs, p.lo ≤ x ∧ x ≤ p.hi
structure RowFit (ds : List PD) (cols : List Nat) (ow : Nat) (w : Rw) : Prop where
  len : w.1.length = cols.length
  inn : ∀ (j k : Nat) (ps : Prs) (p : PD), w.1[j]? = some ps → cols[j]? = some k → ds[k]? = some p → ∀ x ∈ ps, p.lo ≤ x.1 ∧ x.1 ≤ x.2 ∧ x.2 ≤ p.hi
  few : ∀ ps ∈ w.1, ps.length ≤ 2
  code : ∀ p, ds[ow]? = some p → p.lo ≤ w.2 ∧ w.2 ≤ p.hi
/-- the heap without the places of F -/
def hideL (H : Hp) (F : List Addr) : Hp := fun b => if b ∈ F then none else H b
/-- a table of the plan, but for its rows -/
def TT (H : Hp) (r : Addr) (t : (List Nat × Str) × Addr) : Prop := ∃ cl : Addr, H r = some (.tup [.ref cl, .str t.1.2, .ref t.2]) ∧ H cl = some (.lst (vN t.1.1))
structure TOk2 (fN : Nat) (ds : List PD) (j : Nat) (t : List Nat × Str) : Prop where
  some_ : 1 ≤ t.1.length
  few : t.1.length ≤ 3
  lt : ∀ k ∈ t.1, k < fN + j
  nd : t.1.Nodup
  way : t.2 ∈ six
  sum : t.2 = Str.ofString "sum" → ∀ p, ds[fN + j]? = some p → p.ws = []
def clm (c : Int) (ow : Nat) (m : Nat) : List Nat := (List.range m).map fun j : Nat => ((c / 3 + (0 + (j : Int))) % (ow : Int)).toNat
/-- tables, whole -/
structure PT where
  cols : List Nat
  way : Str
  rows : List Rw
def PTA (H : Hp) (r : Addr) (t : PT) : Prop := ∃ (cl rl : Addr) (zs : List V), H r = some (.tup [.ref cl, .str t.way, .ref rl]) ∧ H cl = some (.lst (vN t.cols)) ∧ H rl = some (.lst zs) ∧ RL NT H zs t.rows
structure PTok (fN : Nat) (ds : List PD) (j : Nat) (t : PT) : Prop where
  ok : TOk2 fN ds j (t.cols, t.way)
  rows : ∀ w ∈ t.rows, RowFit ds t.cols (fN + j) w
  few : t.rows.length ≤ 200
def PlA (H : Hp) (r : Addr) (zs : List Str) (ds : List PD) (ts : List PT) : Prop := ∃ (nl dl tl_ : Addr) (dv tv : List V), H r = some (.tup [.ref nl, .ref dl, .ref tl_]) ∧ H nl = some (.lst (zs.map V.str)) ∧ H dl = some (.lst dv) ∧ RefL dv ds (PDA NT H) ∧ H tl_ = some (.lst tv) ∧ RefL tv ts (PTA H)
structure PlOk (zs : List Str) (ds : List PD) (ts : List PT) (fN : Nat) : Prop where
  words : ∀ z ∈ zs, isw z = true
  nd : zs.Nodup
  len : zs.length = ds.length
  n7 : ds.length ≤ 7
  tab : fN + ts.length = ds.length
  some_ : 1 ≤ ts.length
  doms : ∀ p ∈ ds, PDok p
  tabs : ∀ (j : Nat) (t : PT), ts[j]? = some t → PTok fN ds j t
def rls (ts : List ((List Nat × Str) × Addr)) : List Addr := ts.map (·.2)
def mkT (t : (List Nat × Str) × Addr) (rs : List Rw) : PT := ⟨t.1.1, t.1.2, rs⟩
/-- the rows of the tables, as they grow -/
def RwI (H : Hp) (F : List Addr) (fN : Nat) (ds : List PD) (ts : List ((List Nat × Str) × Addr)) (rss : List (List Rw)) (n : Nat) : Prop := rss.length = ts.length ∧ ∀ (j : Nat) (t : (List Nat × Str) × Addr) (rs : List Rw), ts[j]? = some t → rss[j]? = some rs → (∃ zs, H t.2 = some (.lst zs) ∧ RL NT (hideL H F) zs rs) ∧ (∀ w ∈ rs, RowFit ds t.1.1 (fN + j) w) ∧ rs.length ≤ n
abbrev ofS := Str.ofString
def cutW (zs : List Str) (p : Pr) : List Str := cutS zs (some p.1) (some (p.2 + 1))
/-- a part of a cell -/
def partT (k : Dk) (p : Pr) : Str := match k.1 with
  | some zs => Txt.join (ofS ", ") (cutW zs p)
  | none => shN k.2.1 k.2.2 p
def fieldT (k : Dk) (ps : Prs) : Str := if ps = [] then ofS "not -" else if ps = [k.2] then ofS "-" else Txt.join (ofS ", ") (ps.map (partT k))
def writT (k : Dk) : Str := match k.1 with
  | some zs => Txt.join (ofS ", ") zs
  | none => Str.ofString (toString k.2.1) ++ ofS ".." ++ Str.ofString (toString k.2.2)
structure CellOk (k : Dk) (ps : Prs) : Prop where
  few : ps.length ≤ 2
  inn : ∀ p ∈ ps, PrOk k p
  gd : GdK k
  w0 : ∀ zs, k.1 = some zs → k.2 = (0, hiW zs)
/-! plan's domains -/
theorem DomD.dom {cN cW : Addr} {H : Hp} {d : Addr} {k : Dk} (h : DomD cN cW H d k) : Dom cN cW H d k.2 := by
  obtain ⟨w, lo, hi⟩ := k
  cases w with
  | none => obtain ⟨dx, e⟩ := h; exact ⟨cN, .inl rfl, dx, _, e, rfl, rfl, rfl⟩
  | some zs =>
    obtain ⟨⟨dx, l, e, _⟩, h0, h1, _⟩ := h
    have h0 : lo = 0 := h0
    have h1 : hi = hiW zs := h1
    subst h0 h1
    exact ⟨cW, .inr rfl, dx, _, e, rfl, rfl, rfl⟩
def valT (k : Dk) (c : Int) : Str := match k.1 with
  | some zs => zs.getD c.toNat Str.empty
  | none => Str.ofString (toString c)
def headT (nm : Str) (zs : List Str) (k : Dk) (wy : Str) : Str := ofS "table " ++ nm ++ ofS ": " ++ Txt.join (ofS ", ") zs ++ ofS " -> " ++ writT k ++ ofS " by " ++ wy
def rowT (ks : List Dk) (w : Rw) (ko : Dk) : Str := ofS "when " ++ Txt.join (ofS " | ") (List.zipWith fieldT ks w.1) ++ ofS " -> " ++ valT ko w.2
theorem hide_tups {H : Hp} {D : Addr} {zs : List V} (e : H D = some (.lst zs)) : SameT H (hide H D) := fun b t f => hide_of f (ne_of f e (by intro z; cases z))
theorem DomN.wk {N N' : Addr → Prop} {cN cW : Addr} {H : Hp} {d : Addr} {k : Dk} (h : DomN N cN cW H d k) (w : ∀ x, N x → N' x) : DomN N' cN cW H d k := by
  obtain ⟨w_, lo, hi⟩ := k
  cases w_ with
  | none => exact h
  | some zs => obtain ⟨⟨dx, l, n, e, f⟩, r⟩ := h; exact ⟨⟨dx, l, w _ n, e, f⟩, r⟩
/-- the columns of a table that are tables, by their numbers -/
def akc (fN : Nat) (cols : List Nat) : List Nat := (cols.filter fun c => decide (fN ≤ c)).map fun c => c - fN
def akT (ts : List PT) (fN k : Nat) : List Nat := match ts[k]? with
  | some t => akc fN t.cols
  | none => []
def nmA : List Str := [Str.ofString "x", Str.ofString "", Str.ofString "xx"]
def nmB : List Str := [Str.ofString "", Str.ofString "b", Str.ofString "by"]
def nmC (i : Nat) : Str := ⟨#[(Str.ofString "qwertyuiopas").cps.toList.getD i 0]⟩
/-- the name of the i-th table of a net -/
def nmK (i : Nat) : Str := (nmA.getD (i % 3) Str.empty ++ nmC i) ++ nmB.getD (i / 4) Str.empty
def nms (m : Nat) : List Str := (List.range m).map nmK
theorem nm_len : ∀ i, i < 12 → (nmA.getD (i % 3) Str.empty).length + (nmC i).length ≤ 1000 ∧ (nmA.getD (i % 3) Str.empty ++ nmC i).length + (nmB.getD (i / 4) Str.empty).length ≤ 1000 := by decide +kernel
theorem strs_at {xs : List Str} {j : Nat} (h : j < xs.length) {k : Int} (e : k = (j : Int)) : atI (xs.map V.str) k = some (.str (xs.getD j Str.empty)) := by
  rw [e]
  refine atI_nat ?_
  rw [List.getElem?_map, List.getElem?_eq_getElem h, List.getD_eq_getElem?_getD, List.getElem?_eq_getElem h]
  rfl
theorem flat_vN (js : List Nat) : (vN js).all flatV = true := by
  rw [List.all_eq_true]
  intro x hx
  obtain ⟨b, _, rfl⟩ := List.mem_map.mp hx
  rfl
/-- a table of a net that may have rings -/
structure RcOk (fN n : Nat) (t : PT) : Prop where
  lt : ∀ c ∈ t.cols, c < fN + n
  few : t.cols.length ≤ 4
  nd : t.cols.Nodup
structure RtOk (fN n : Nat) (t : PT) : Prop where
  ok : RcOk fN n t
structure RlOk (zs : List Str) (ds : List PD) (ts : List PT) (fN : Nat) : Prop where
  words : ∀ z ∈ zs, isw z = true
  nd : zs.Nodup
  len : zs.length = ds.length
  n7 : ds.length ≤ 16
  tab : fN + ts.length = ds.length
  some_ : 1 ≤ ts.length
  tabs : ∀ (j : Nat) (t : PT), ts[j]? = some t → RtOk fN ts.length t
theorem RlOk.lt {zs : List Str} {ds : List PD} {ts : List PT} {fN : Nat} (h : RlOk zs ds ts fN) {k : Nat} {t : PT} (e : ts[k]? = some t) : ∀ j ∈ t.cols, j < ds.length := fun j hj => by
  have h1 := (h.tabs k t e).ok.lt j hj
  have h3 := h.tab
  omega
inductive Pth (ak : Nat → List Nat) : Nat → Nat → Prop
  | one {k j : Nat} : j ∈ ak k → Pth ak k j
  | cons {k j x : Nat} : j ∈ ak k → Pth ak j x → Pth ak k x
theorem Pth.trans {ak : Nat → List Nat} {a b c : Nat} (h : Pth ak a b) (g : Pth ak b c) : Pth ak a c := by
  induction h with
  | one h => exact .cons h g
  | cons h _ ih => exact .cons h (ih g)
theorem Pth.ne {ak : Nat → List Nat} {a b : Nat} (h : Pth ak a b) : ak a ≠ [] := by
  cases h with
  | one h => exact List.ne_nil_of_mem h
  | cons h _ => exact List.ne_nil_of_mem h
theorem filter_lt {p q : Nat → Bool} : ∀ {L : List Nat}, (∀ z ∈ L, p z = true → q z = true) → (∃ z ∈ L, q z = true ∧ p z = false) → (L.filter p).length < (L.filter q).length
  | [], _, ⟨z, hz, _⟩ => by cases hz
  | x :: L, h, ⟨z, hz, hq, hp⟩ => by
    have hsub : (L.filter p).length ≤ (L.filter q).length := by
      have h2 : ∀ z ∈ L, p z = true → q z = true := fun z hz => h z (List.mem_cons_of_mem _ hz)
      clear h hz hq hp
      induction L with
      | nil => exact Nat.le_refl _
      | cons y L ih =>
        have ih := ih fun z hz => h2 z (List.mem_cons_of_mem _ hz)
        rw [List.filter_cons, List.filter_cons]
        have hy := h2 y List.mem_cons_self
        cases hpy : p y with
        | true => rw [hy hpy, if_pos rfl, if_pos rfl, List.length_cons, List.length_cons]; omega
        | false =>
          rw [if_neg Bool.false_ne_true]
          split
          · rw [List.length_cons]; omega
          · exact ih
    rw [List.filter_cons, List.filter_cons]
    rcases List.mem_cons.mp hz with rfl | hz
    · rw [hq, hp, if_neg Bool.false_ne_true, if_pos rfl, List.length_cons]
      omega
    · have ih := filter_lt (L := L) (fun z hz => h z (List.mem_cons_of_mem _ hz)) ⟨z, hz, hq, hp⟩
      have hx := h x List.mem_cons_self
      cases hpx : p x with
      | true => rw [hx hpx, if_pos rfl, if_pos rfl, List.length_cons, List.length_cons]; omega
      | false =>
        rw [if_neg Bool.false_ne_true]
        split
        · rw [List.length_cons]; omega
        · exact ih
theorem min_by (f : Nat → Nat) : ∀ {L : List Nat}, L ≠ [] → ∃ k ∈ L, ∀ j ∈ L, f k ≤ f j
  | [], h => absurd rfl h
  | [x], _ => ⟨x, by simp, fun j hj => by rw [show j = x by simpa using hj]; exact Nat.le_refl _⟩
  | x :: y :: r, _ => by
    obtain ⟨k, hk, hm⟩ := min_by f (L := y :: r) (by simp)
    by_cases h : f x ≤ f k
    · refine ⟨x, by simp, fun j hj => ?_⟩
      rcases List.mem_cons.mp hj with rfl | hj
      · exact Nat.le_refl _
      · exact Nat.le_trans h (hm j hj)
    · refine ⟨k, List.mem_cons_of_mem _ hk, fun j hj => ?_⟩
      rcases List.mem_cons.mp hj with rfl | hj
      · omega
      · exact hm j hj
open Classical in
theorem stuck_cyc {ak : Nat → List Nat} {L : List Nat} (hne : L ≠ []) (hw : ∀ k ∈ L, ∃ j ∈ ak k, j ∈ L) : ∃ k, Pth ak k k := by
  refine Classical.byContradiction fun hn => ?_
  have hn : ∀ k, ¬ Pth ak k k := fun k hk => hn ⟨k, hk⟩
  obtain ⟨x, hx, hm⟩ := min_by (fun x => (L.filter fun y => decide (Pth ak x y)).length) hne
  obtain ⟨y, hy, hyL⟩ := hw x hx
  have h1 := hm y hyL
  have h2 : (L.filter fun z => decide (Pth ak y z)).length < (L.filter fun z => decide (Pth ak x z)).length := filter_lt (fun z _ hz => decide_eq_true (.cons hy (of_decide_eq_true hz))) ⟨y, hyL, decide_eq_true (.one hy), decide_eq_false (hn y)⟩
  have h1 : (L.filter fun z => decide (Pth ak x z)).length ≤ (L.filter fun z => decide (Pth ak y z)).length := h1
  omega
/-! reached -/
inductive PthB (ak : Nat → List Nat) (c : Nat) : Nat → Nat → Prop
  | one {k j : Nat} : j ∈ ak k → PthB ak c k j
  | cons {k j x : Nat} : j ∈ ak k → j < c → PthB ak c j x → PthB ak c k x
theorem PthB.succ {ak : Nat → List Nat} {c k j : Nat} (h : PthB ak (c + 1) k j) : PthB ak c k j ∨ (PthB ak c k c ∧ PthB ak c c j) := by
  induction h with
  | one h => exact .inl (.one h)
  | cons h hi _ ih =>
    rename_i k i x _
    by_cases hc : i < c
    · rcases ih with ih | ⟨ih1, ih2⟩
      · exact .inl (.cons h hc ih)
      · exact .inr ⟨.cons h hc ih1, ih2⟩
    · have hc : i = c := by omega
      subst hc
      rcases ih with ih | ⟨_, ih2⟩
      · exact .inr ⟨.one h, ih⟩
      · exact .inr ⟨.one h, ih2⟩
theorem PthB.zero {ak : Nat → List Nat} {k j : Nat} (h : PthB ak 0 k j) : j ∈ ak k := by
  cases h with
  | one h => exact h
  | cons _ h _ => exact absurd h (Nat.not_lt_zero _)
theorem Pth.b {ak : Nat → List Nat} {m : Nat} (hm : ∀ k, ∀ j ∈ ak k, j < m) {k j : Nat} (h : Pth ak k j) : PthB ak m k j := by
  induction h with
  | one h => exact .one h
  | cons h _ ih => exact .cons h (hm _ _ h) ih
/-- a square of verdicts -/
def mget (M : List (List Bool)) (k j : Nat) : Bool := (M.getD k []).getD j false
def mset (M : List (List Bool)) (k j : Nat) : List (List Bool) := M.set k ((M.getD k []).set j true)
structure Sq (m : Nat) (M : List (List Bool)) : Prop where
  len : M.length = m
  row : ∀ (k : Nat) (row : List Bool), M[k]? = some row → row.length = m
theorem Sq.at {m : Nat} {M : List (List Bool)} (h : Sq m M) {k : Nat} (hk : k < m) : ∃ row, M[k]? = some row ∧ row.length = m ∧ M.getD k [] = row := by
  have e := List.getElem?_eq_getElem (l := M) (i := k) (by have := h.len; omega)
  exact ⟨_, e, h.row k _ e, by rw [List.getD_eq_getElem?_getD, e]; rfl⟩
theorem Sq.mset {m : Nat} {M : List (List Bool)} (h : Sq m M) {k : Nat} (hk : k < m) (j : Nat) : Sq m (My.mset M k j) := by
  obtain ⟨row, e, hl, eg⟩ := h.at hk
  unfold My.mset
  refine ⟨by rw [List.length_set]; exact h.len, fun i r er => ?_⟩
  rw [List.getElem?_set] at er
  split at er
  · split at er
    · cases er; rw [List.length_set, eg]; exact hl
    · cases er
  · exact h.row i r er
theorem mget_set {m : Nat} {M : List (List Bool)} (h : Sq m M) {k j : Nat} (hk : k < m) (hj : j < m) (a b : Nat) : mget (mset M k j) a b = if a = k ∧ b = j then true else mget M a b := by
  obtain ⟨row, e, hl, eg⟩ := h.at hk
  have e1 : ∀ X : List Bool, (M.set k X).getD a [] = if k = a then X else M.getD a [] := fun X => by
    rw [List.getD_eq_getElem?_getD, List.getElem?_set]
    split
    · rw [if_pos (by have := h.len; omega)]; rfl
    · rw [← List.getD_eq_getElem?_getD]
  unfold mget mset
  rw [e1]
  by_cases hak : k = a
  · subst hak
    rw [if_pos rfl, List.getD_eq_getElem?_getD, List.getElem?_set]
    by_cases hbj : j = b
    · subst hbj
      rw [if_pos rfl, if_pos (by rw [eg]; omega), if_pos ⟨rfl, rfl⟩]
      rfl
    · rw [if_neg hbj, if_neg (fun z => hbj z.2.symm), ← List.getD_eq_getElem?_getD]
  · rw [if_neg hak, if_neg (fun z => hak z.1.symm)]
/-- what the square tells when the numbers below c were gone through -/
structure Wsh (ak : Nat → List Nat) (m c : Nat) (M : List (List Bool)) : Prop where
  sq : Sq m M
  snd : ∀ k j, mget M k j = true → Pth ak k j
  cmp : ∀ k j, k < m → j < m → PthB ak c k j → mget M k j = true
/-- .. and of the next number the rows below kk, and of the row kk the places below jj -/
structure WshI (ak : Nat → List Nat) (m c kk jj : Nat) (M : List (List Bool)) : Prop where
  w : Wsh ak m c M
  part : ∀ k j, k < m → j < m → (k < kk ∨ (k = kk ∧ j < jj)) → PthB ak c k c → PthB ak c c j → mget M k j = true
theorem Wsh.start {ak : Nat → List Nat} {m c : Nat} {M : List (List Bool)} (h : Wsh ak m c M) : WshI ak m c 0 0 M := ⟨h, fun k j _ _ hp => by omega⟩
theorem WshI.row {ak : Nat → List Nat} {m c kk : Nat} {M : List (List Bool)} (h : WshI ak m c kk m M) : WshI ak m c (kk + 1) 0 M := ⟨h.w, fun k j hk hj hp => h.part k j hk hj (by omega)⟩
theorem WshI.stop {ak : Nat → List Nat} {m c : Nat} {M : List (List Bool)} (h : WshI ak m c m 0 M) : Wsh ak m (c + 1) M :=
  ⟨h.w.sq, h.w.snd, fun k j hk hj hp => by
    rcases hp.succ with hp | ⟨h1, h2⟩
    · exact h.w.cmp k j hk hj hp
    · exact h.part k j hk hj (.inl hk) h1 h2⟩
theorem WshI.yes {ak : Nat → List Nat} {m c kk jj : Nat} {M : List (List Bool)} (h : WshI ak m c kk jj M) (hk : kk < m) (hj : jj < m) (h1 : mget M kk c = true) (h2 : mget M c jj = true) : WshI ak m c kk (jj + 1) (mset M kk jj) := by
  have g := mget_set h.w.sq hk hj
  refine ⟨⟨h.w.sq.mset hk jj, fun k j e => ?_, fun k j a b p => ?_⟩, fun k j a b p q r => ?_⟩
  · rw [g] at e
    split at e
    · next hh => rw [hh.1, hh.2]; exact (h.w.snd _ _ h1).trans (h.w.snd _ _ h2)
    · exact h.w.snd k j e
  · rw [g]
    split
    · rfl
    · exact h.w.cmp k j a b p
  · rw [g]
    split
    · rfl
    · next hh => exact h.part k j a b (by omega) q r
theorem WshI.no {ak : Nat → List Nat} {m c kk jj : Nat} {M : List (List Bool)} (h : WshI ak m c kk jj M) (hc : c < m) (hk : kk < m) (hj : jj < m) (hn : ¬ (mget M kk c = true ∧ mget M c jj = true)) : WshI ak m c kk (jj + 1) M := by
  refine ⟨h.w, fun k j a b p q r => ?_⟩
  by_cases hh : k = kk ∧ j = jj
  · obtain ⟨rfl, rfl⟩ := hh
    exact absurd ⟨h.w.cmp _ _ hk hc q, h.w.cmp _ _ hc hj r⟩ hn
  · exact h.part k j a b (by omega) q r
theorem Wsh.cyc {ak : Nat → List Nat} {m : Nat} {M : List (List Bool)} (h : Wsh ak m m M) (hm : ∀ k, ∀ j ∈ ak k, j < m ∧ k < m) : (∃ k, k < m ∧ mget M k k = true) ↔ ∃ k, Pth ak k k := by
  constructor
  · rintro ⟨k, _, e⟩; exact ⟨k, h.snd k k e⟩
  · rintro ⟨k, hp⟩
    obtain ⟨j, hj⟩ := List.exists_mem_of_ne_nil _ hp.ne
    have hk := (hm k j hj).2
    exact ⟨k, hk, h.cmp k k hk hk (hp.b fun k j hj => (hm k j hj).1)⟩
theorem inV_strs (z : Str) (ns : List Str) : inV (.str z) (ns.map V.str) = ns.contains z := by
  unfold inV
  induction ns with
  | nil => rfl
  | cons n ns ih =>
    rw [List.map_cons, List.any_cons, List.contains_cons, ih]
    congr 1
    show (n == z) = (z == n)
    rw [Bool.eq_iff_iff, beq_iff_eq, beq_iff_eq]
    exact ⟨Eq.symm, Eq.symm⟩
/-- a table of the book: the k-th of the plan -/
def TbA (cT cN cW : Addr) (H : Hp) (zs : List Str) (ds : List PD) (ts : List PT) (fN : Nat) (a : Addr) (k : Nat) : Prop := ∃ (t : PT) (nm : Str) (po : PD) (ou : Addr) (dv : List V), ts[k]? = some t ∧ zs[fN + k]? = some nm ∧ ds[fN + k]? = some po ∧ TF cT H a nm t.way ou (prm t.cols zs) dv t.rows ∧ RefL dv (prm t.cols (ds.map PD.k)) (DomD cN cW H) ∧ DomD cN cW H ou po.k
theorem TbA.same {cT cN cW : Addr} {H H' : Hp} {zs : List Str} {ds : List PD} {ts : List PT} {fN : Nat} {a : Addr} {k : Nat} (h : TbA cT cN cW H zs ds ts fN a k) (s : Same H H') : TbA cT cN cW H' zs ds ts fN a k :=
  let ⟨t, nm, po, ou, dv, h1, h2, h3, h4, h5, h6⟩ := h
  ⟨t, nm, po, ou, dv, h1, h2, h3, h4.same s, RefL.mono h5 (fun _ _ p => p.same s), h6.same s⟩
/-- a fact of the book -/
def FcA (cN cW : Addr) (H : Hp) (zs : List Str) (ds : List PD) (r : Addr) (k : Nat) : Prop := ∃ (nm : Str) (po : PD) (d : Addr), zs[k]? = some nm ∧ ds[k]? = some po ∧ H r = some (.tup [.str nm, .ref d]) ∧ DomD cN cW H d po.k
theorem FcA.same {cN cW : Addr} {H H' : Hp} {zs : List Str} {ds : List PD} {r : Addr} {k : Nat} (h : FcA cN cW H zs ds r k) (s : Same H H') : FcA cN cW H' zs ds r k :=
  let ⟨nm, po, d, h1, h2, h3, h4⟩ := h
  ⟨nm, po, d, h1, h2, s _ _ h3, h4.same s⟩
/-- the name of the k-th table -/
def tnm (zs : List Str) (fN k : Nat) : Str := zs.getD (fN + k) Str.empty
theorem tnm_at {zs : List Str} {fN k : Nat} {nm : Str} (e : zs[fN + k]? = some nm) : tnm zs fN k = nm := by unfold tnm; rw [List.getD_eq_getElem?_getD, e]; rfl
/-- facts and tables that make a book -/
structure BkI (cT cN cW : Addr) (H : Hp) (zs : List Str) (ds : List PD) (ts : List PT) (fN : Nat) (fv mv : List V) (L : List Nat) : Prop where
  ok : RlOk zs ds ts fN
  facts : RefL fv (List.range fN) (FcA cN cW H zs ds)
  tabs : RefL mv L (TbA cT cN cW H zs ds ts fN)
  lt : ∀ k ∈ L, k < ts.length
  nd : L.Nodup
  len : L.length = ts.length
  all : ∀ k, k < ts.length → k ∈ L
theorem BkI.same {cT cN cW : Addr} {H H' : Hp} {zs : List Str} {ds : List PD} {ts : List PT} {fN : Nat} {fv mv : List V} {L : List Nat} (h : BkI cT cN cW H zs ds ts fN fv mv L) (s : Same H H') : BkI cT cN cW H' zs ds ts fN fv mv L :=
  ⟨h.ok, RefL.mono h.facts (fun _ _ p => p.same s), RefL.mono h.tabs (fun _ _ p => p.same s), h.lt, h.nd, h.len, h.all⟩
/-- all names of a book: facts, then tables -/
def bnm (zs : List Str) (fN : Nat) (L : List Nat) : List Str := zs.take fN ++ L.map (tnm zs fN)
section
variable {cT cN cW : Addr} {H : Hp} {zs : List Str} {ds : List PD} {ts : List PT} {fN : Nat} {fv mv : List V} {L : List Nat}
theorem BkI.few (h : BkI cT cN cW H zs ds ts fN fv mv L) : L.length ≤ 16 ∧ fN ≤ 16 ∧ fN ≤ zs.length := by
  have h1 := h.ok.n7
  have h2 := h.ok.tab
  have h3 := h.ok.len
  have h4 := h.len
  omega
theorem BkI.tn (h : BkI cT cN cW H zs ds ts fN fv mv L) {k : Nat} (hk : k ∈ L) : zs[fN + k]? = some (tnm zs fN k) := by
  have h1 := h.lt k hk
  have h2 := h.ok.tab
  have h3 := h.ok.len
  have e := List.getElem?_eq_getElem (l := zs) (i := fN + k) (by omega)
  rw [e, tnm_at e]
theorem BkI.bnd_ (h : BkI cT cN cW H zs ds ts fN fv mv L) : (bnm zs fN L).Nodup := by
  have hz := h.ok.nd
  unfold bnm
  refine List.nodup_append.mpr ⟨hz.sublist (List.take_sublist _ _), ?_, fun a ha b hb e => ?_⟩
  · rw [List.nodup_iff_pairwise_ne, List.pairwise_map]
    refine List.Pairwise.imp_of_mem (R := fun a b => a ≠ b) (fun {a b} ha hb hab e => ?_) h.nd
    have e1 := h.tn ha
    have e2 := h.tn hb
    rw [e] at e1
    have := nd_ix hz e1 e2
    omega
  · subst e
    obtain ⟨k, hk, e⟩ := List.mem_map.mp hb
    obtain ⟨j, hj⟩ := List.getElem?_of_mem ha
    rw [List.getElem?_take] at hj
    split at hj
    · have e2 := h.tn hk
      rw [e] at e2
      have := nd_ix hz hj e2
      omega
    · cases hj
/-- each name of the plan is a name of the book -/
theorem BkI.has (h : BkI cT cN cW H zs ds ts fN fv mv L) {z : Str} (hz : z ∈ zs) : z ∈ bnm zs fN L := by
  obtain ⟨j, ej⟩ := List.getElem?_of_mem hz
  unfold bnm
  by_cases hj : j < fN
  · exact List.mem_append_left _ (List.mem_of_getElem? (by rw [List.getElem?_take, if_pos hj]; exact ej))
  · refine List.mem_append_right _ (List.mem_map.mpr ⟨j - fN, h.all _ ?_, ?_⟩)
    · have := (List.getElem?_eq_some_iff.mp ej).1
      have h2 := h.ok.tab
      have h3 := h.ok.len
      omega
    · exact tnm_at (by rw [show fN + (j - fN) = j by omega]; exact ej)
end
def FcN (N : Addr → Prop) (cN cW : Addr) (H : Hp) (zs : List Str) (ds : List PD) (r : Addr) (k : Nat) : Prop := ∃ (nm : Str) (po : PD) (d : Addr), zs[k]? = some nm ∧ ds[k]? = some po ∧ H r = some (.tup [.str nm, .ref d]) ∧ DomN N cN cW H d po.k
theorem rng_get {n j k : Nat} (e : (List.range n)[j]? = some k) : k = j ∧ j < n := by
  have hj := (List.getElem?_eq_some_iff.mp e).1
  rw [List.length_range] at hj
  rw [List.getElem?_range hj] at e
  cases e
  exact ⟨rfl, hj⟩
section
variable {cT cN cW : Addr} {H : Hp} {zs : List Str} {ds : List PD} {ts : List PT} {fN : Nat} {fv mv : List V} {L : List Nat}
/-- what a book's dict of domains tells -/
def DueA (cN cW : Addr) (H : Hp) (zs : List Str) (ds : List PD) (kvs : List (Str × V)) : Prop := ∀ (j : Nat) (z : Str) (p : PD), zs[j]? = some z → ds[j]? = some p → ∃ d, kvs.lookup z = some (.ref d) ∧ DomD cN cW H d p.k
theorem look_at {kvs : List (Str × V)} (hn : (kvs.map (·.1)).Nodup) : ∀ {j : Nat} {k : Str} {v : V}, kvs[j]? = some (k, v) → kvs.lookup k = some v := by
  induction kvs with
  | nil => intro j k v e; simp at e
  | cons p kvs ih =>
    intro j k v e
    obtain ⟨k0, v0⟩ := p
    rw [List.map_cons] at hn
    have hn' := List.nodup_cons.mp hn
    cases j with
    | zero =>
      cases e
      rw [List.lookup_cons, beq_self_eq_true]
    | succ j =>
      have e : kvs[j]? = some (k, v) := by simpa using e
      have hk : k ≠ k0 := fun z => hn'.1 (List.mem_map.mpr ⟨(k, v), List.mem_of_getElem? e, z⟩)
      rw [List.lookup_cons, beq_eq_false_iff_ne.mpr hk]
      exact ih hn'.2 e
end
/-- a table among L waits for another of L -/
def wts (ts : List PT) (fN : Nat) (L : List Nat) (k : Nat) : Bool := match ts[k]? with
  | some t => t.cols.any fun c => decide (fN ≤ c) && L.contains (c - fN)
  | none => false
/-- which names of a table's columns are among the names of L -/
theorem wts_names {zs : List Str} {ds : List PD} {ts : List PT} {fN : Nat} (ok : RlOk zs ds ts fN) {L : List Nat} (hL : ∀ k ∈ L, k < ts.length) {k : Nat} {t : PT} (e : ts[k]? = some t) : (!((prm t.cols zs).filter fun z => (L.map (tnm zs fN)).contains z).isEmpty) = wts ts fN L k := by
  have hlt := ok.lt e
  have hl1 := ok.len
  have hl2 := ok.tab
  have ltz : ∀ j ∈ t.cols, j < zs.length := fun j hj => by rw [hl1]; exact hlt j hj
  have gz := prm_get (os := t.cols) (xs := zs) ltz
  have tn : ∀ k ∈ L, zs[fN + k]? = some (tnm zs fN k) := fun k hk => by
    have := hL k hk
    have e := List.getElem?_eq_getElem (l := zs) (i := fN + k) (by omega)
    rw [e, tnm_at e]
  rw [Bool.eq_iff_iff]
  unfold wts
  rw [e]
  show _ ↔ (t.cols.any fun c => decide (fN ≤ c) && L.contains (c - fN)) = true
  rw [List.any_eq_true]
  constructor
  · intro h
    have hne : ((prm t.cols zs).filter fun z => (L.map (tnm zs fN)).contains z) ≠ [] := fun z => by rw [z] at h; cases h
    obtain ⟨z, hz⟩ := List.exists_mem_of_ne_nil _ hne
    obtain ⟨hz1, hz2⟩ := List.mem_filter.mp hz
    have hz2 : z ∈ L.map (tnm zs fN) := by simpa using hz2
    obtain ⟨k', hk', rfl⟩ := List.mem_map.mp hz2
    obtain ⟨j, ej⟩ := List.getElem?_of_mem hz1
    have hj : j < t.cols.length := by rw [← gz.1]; exact (List.getElem?_eq_some_iff.mp ej).1
    have ec := List.getElem?_eq_getElem hj
    rw [gz.2 j _ ec] at ej
    have := nd_ix ok.nd ej (tn k' hk')
    refine ⟨_, List.mem_of_getElem? ec, ?_⟩
    rw [this, Bool.and_eq_true, decide_eq_true_iff]
    refine ⟨by omega, ?_⟩
    rw [show fN + k' - fN = k' by omega]
    simpa using hk'
  · rintro ⟨c, hc, hb⟩
    rw [Bool.and_eq_true, decide_eq_true_iff] at hb
    have hm : c - fN ∈ L := by simpa using hb.2
    have hz := tn _ hm
    rw [show fN + (c - fN) = c by omega] at hz
    obtain ⟨j, ej⟩ := List.getElem?_of_mem hc
    have e1 := gz.2 j c ej
    rw [hz] at e1
    have hin : tnm zs fN (c - fN) ∈ (prm t.cols zs).filter fun z => (L.map (tnm zs fN)).contains z := List.mem_filter.mpr ⟨List.mem_of_getElem? e1, by simpa using ⟨_, hm, rfl⟩⟩
    cases h : (prm t.cols zs).filter fun z => (L.map (tnm zs fN)).contains z with
    | nil => rw [h] at hin; cases hin
    | cons _ _ => rfl

theorem free_back {H H' : Hp} {x a : Addr} {o : HO} (k : ∀ b o, b ≠ x → H b = some o → H' b = some o) (hx : H' x = some o) (h : H' a = none) : H a = none := by
  cases e : H a with
  | none => rfl
  | some u =>
    have n : a ≠ x := fun z => by rw [z, hx] at h; cases h
    rw [k a u n e] at h
    cases h
theorem RL.hideN {N : Addr → Prop} {H : Hp} {x C dx : Addr} {fs : List (Str × V)} (hx : H x = some (.ins C dx fs)) {xs : List V} {rws : List Rw} (h : RL N H xs rws) : RL N (My.hide H x) xs rws :=
  RefL.mono h fun r w ⟨ce, cs, e, n, f, c⟩ => ⟨ce, cs, hide_of e (ne_of e hx (by intro z; cases z)), n, hide_of f (ne_of f hx (by intro z; cases z)), RefL.mono c fun l ps ⟨m, ys, g, p⟩ => ⟨m, ys, hide_of g (ne_of g hx (by intro z; cases z)), PL.hide hx p⟩⟩
/-- a table whose lists are of N -/
def TbN (N : Addr → Prop) (cT cN cW : Addr) (H : Hp) (zs : List Str) (ds : List PD) (ts : List PT) (fN : Nat) (a : Addr) (k : Nat) : Prop := ∃ (t : PT) (nm : Str) (po : PD) (ou : Addr) (dv : List V) (rl dx na dl : Addr) (fs : List (Str × V)) (xs : List V), ts[k]? = some t ∧ zs[fN + k]? = some nm ∧ ds[fN + k]? = some po ∧ H a = some (.ins cT dx fs) ∧ fs.lookup (Str.ofString "rows") = some (.ref rl) ∧ fs.lookup (Str.ofString "name") = some (.str nm) ∧ fs.lookup (Str.ofString "way") = some (.str t.way) ∧ fs.lookup (Str.ofString "outcome") = some (.ref ou) ∧ fs.lookup (Str.ofString "names") = some (.ref na) ∧ fs.lookup (Str.ofString "domains") = some (.ref dl) ∧ N na ∧ N dl ∧ N rl ∧ H na = some (.lst ((prm t.cols zs).map V.str)) ∧ H dl = some (.lst dv) ∧ H rl = some (.lst xs) ∧ RL N H xs t.rows ∧ xs.length ≤ 200 ∧ RefL dv (prm t.cols (ds.map PD.k)) (DomN N cN cW H) ∧ DomN N cN cW H ou po.k
section
variable {N N' : Addr → Prop} {cT cN cW : Addr} {H H' : Hp} {zs : List Str} {ds : List PD} {ts : List PT} {fN : Nat} {a : Addr} {k : Nat}
theorem TbN.tb (h : TbN N cT cN cW H zs ds ts fN a k) : TbA cT cN cW H zs ds ts fN a k :=
  let ⟨t, nm, po, ou, dv, rl, dx, na, dl, fs, xs, h1, h2, h3, h4, h5, h6, h7, h8, h9, h10, _, _, _, h11, h12, h13, h14, h15, h16, h17⟩ := h
  ⟨t, nm, po, ou, dv, h1, h2, h3, ⟨rl, dx, na, dl, fs, xs, h4, h5, h6, h7, h8, h9, h10, h11, h12, h13, h14.any, h15⟩, RefL.mono h16 (fun _ _ p => p.dom), h17.dom⟩
theorem TbN.same (h : TbN N cT cN cW H zs ds ts fN a k) (s : Same H H') : TbN N cT cN cW H' zs ds ts fN a k :=
  let ⟨t, nm, po, ou, dv, rl, dx, na, dl, fs, xs, h1, h2, h3, h4, h5, h6, h7, h8, h9, h10, n1, n2, n3, h11, h12, h13, h14, h15, h16, h17⟩ := h
  ⟨t, nm, po, ou, dv, rl, dx, na, dl, fs, xs, h1, h2, h3, s _ _ h4, h5, h6, h7, h8, h9, h10, n1, n2, n3, s _ _ h11, s _ _ h12, s _ _ h13, h14.same s, h15, RefL.mono h16 (fun _ _ p => p.same s), h17.same s⟩
theorem TbN.wk (h : TbN N cT cN cW H zs ds ts fN a k) (w : ∀ x, N x → N' x) : TbN N' cT cN cW H zs ds ts fN a k :=
  let ⟨t, nm, po, ou, dv, rl, dx, na, dl, fs, xs, h1, h2, h3, h4, h5, h6, h7, h8, h9, h10, n1, n2, n3, h11, h12, h13, h14, h15, h16, h17⟩ := h
  ⟨t, nm, po, ou, dv, rl, dx, na, dl, fs, xs, h1, h2, h3, h4, h5, h6, h7, h8, h9, h10, w _ n1, w _ n2, w _ n3, h11, h12, h13, RefL.mono h14 (fun _ _ p => p.wk w), h15, RefL.mono h16 (fun _ _ p => p.wk w), h17.wk w⟩
theorem TbN.upd {D : Addr} {zz : List V} {o : HO} (h : TbN N cT cN cW H zs ds ts fN a k) (n : ¬ N D) (e : H D = some (.lst zz)) : TbN N cT cN cW (L2.upd H D o) zs ds ts fN a k :=
  let ⟨t, nm, po, ou, dv, rl, dx, na, dl, fs, xs, h1, h2, h3, h4, h5, h6, h7, h8, h9, h10, n1, n2, n3, h11, h12, h13, h14, h15, h16, h17⟩ := h
  have ne : ∀ {b : Addr}, N b → b ≠ D := fun hb z => n (z ▸ hb)
  ⟨t, nm, po, ou, dv, rl, dx, na, dl, fs, xs, h1, h2, h3, (upd_ne (ne_of h4 e (by intro z; cases z))).trans h4, h5, h6, h7, h8, h9, h10, n1, n2, n3, (upd_ne (ne n1)).trans h11, (upd_ne (ne n2)).trans h12, (upd_ne (ne n3)).trans h13, h14.updN n e, h15, RefL.mono h16 (fun _ _ p => p.upd n e), h17.upd n e⟩
end
theorem emod10 (x : Int) (n : Nat) : 0 ≤ x % (10 : Int) ^ n := Int.emod_nonneg _ (Int.ne_of_gt (p10 n))
theorem inV_vN (x : Nat) (js : List Nat) : inV (.int (x : Int)) (vN js) = js.contains x := by
  unfold inV vN
  induction js with
  | nil => rfl
  | cons n js ih =>
    rw [List.map_cons, List.any_cons, List.contains_cons, ih]
    congr 1
    show ((n : Int) == (x : Int)) = (x == n)
    rw [Bool.eq_iff_iff, beq_iff_eq, beq_iff_eq]
    exact ⟨fun h => (Int.ofNat.inj h).symm, fun h => by rw [h]⟩
def pdm (md : Int) : PD := ⟨0, 9 + md, []⟩
def nrwR (n i : Nat) : Rw := (List.replicate n [(0 + (i : Int), 0 + (i : Int) + 1)], 9 - (0 + (i : Int)))
def nrw (n : Nat) : List Rw := (List.range 2).map (nrwR n)
theorem nrw_at {n i : Nat} (h : i < 2) : (nrw n)[i]? = some (nrwR n i) := by unfold nrw; rw [List.getElem?_map, List.getElem?_range h]; rfl
theorem nrw_ok {n : Nat} {md : Int} (h : 0 ≤ md) : ∀ w ∈ nrw n, RowOk (List.replicate n (0, 9 + md)) (0, 9 + md) w := fun w hw => by
  obtain ⟨i, hi, rfl⟩ := List.mem_map.mp hw
  have hi := List.mem_range.mp hi
  refine ⟨by unfold nrwR; rw [List.length_replicate, List.length_replicate], fun j ps b e1 e2 p hp => ?_, ?_, ?_⟩
  · have h1 := (List.mem_replicate.mp (List.mem_of_getElem? e1)).2
    have h2 := (List.mem_replicate.mp (List.mem_of_getElem? e2)).2
    subst h1
    subst h2
    rw [List.mem_singleton.mp hp]
    constructor
    · show (0 : Int) ≤ 0 + (i : Int); omega
    · show 0 + (i : Int) + 1 ≤ 9 + md; omega
  · show (0 : Int) ≤ 9 - (0 + (i : Int)); omega
  · show 9 - (0 + (i : Int)) ≤ 9 + md; omega
theorem prm_pdm {cs : List Nat} {ds : List PD} {md : Int} (h : ∀ p ∈ ds, p = pdm md) (hl : ∀ c ∈ cs, c < ds.length) : prm cs (ds.map PD.k) = List.replicate cs.length (pdm md).k := by
  rw [List.eq_replicate_iff]
  refine ⟨(prm_get (os := cs) (xs := ds.map PD.k) fun j hj => by rw [List.length_map]; exact hl j hj).1, fun b hb => ?_⟩
  obtain ⟨p, hp, rfl⟩ := List.mem_map.mp (mem_prm hb)
  rw [h p hp]
theorem RefL.drop {α : Type} {xs : List V} {as : List α} {P : Addr → α → Prop} (h : RefL xs as P) (k : Nat) : RefL (xs.drop k) (as.drop k) P := by
  refine ⟨by rw [List.length_drop, List.length_drop, h.1], fun j a e => ?_⟩
  rw [List.getElem?_drop] at e
  obtain ⟨r, e1, p⟩ := h.2 _ a e
  exact ⟨r, by rw [List.getElem?_drop]; exact e1, p⟩
theorem RefL.take {α : Type} {xs : List V} {as : List α} {P : Addr → α → Prop} (h : RefL xs as P) (k : Nat) : RefL (xs.take k) (as.take k) P := by
  refine ⟨by rw [List.length_take, List.length_take, h.1], fun j a e => ?_⟩
  rw [List.getElem?_take] at e
  split at e
  · rename_i hj
    obtain ⟨r, e1, p⟩ := h.2 _ a e
    exact ⟨r, by rw [List.getElem?_take, if_pos hj]; exact e1, p⟩
  · cases e
theorem RefL.app {α : Type} {xs ys : List V} {as bs : List α} {P : Addr → α → Prop} (h : RefL xs as P) (h' : RefL ys bs P) : RefL (xs ++ ys) (as ++ bs) P := by
  refine ⟨by rw [List.length_append, List.length_append, h.1, h'.1], fun j a e => ?_⟩
  by_cases hj : j < as.length
  · rw [List.getElem?_append_left hj] at e
    obtain ⟨r, e1, p⟩ := h.2 _ a e
    exact ⟨r, by rw [List.getElem?_append_left (by rw [h.1]; exact hj)]; exact e1, p⟩
  · rw [List.getElem?_append_right (by omega)] at e
    obtain ⟨r, e1, p⟩ := h'.2 _ a e
    exact ⟨r, by rw [List.getElem?_append_right (by rw [h.1]; omega), h.1]; exact e1, p⟩
theorem cutV_to (xs : List V) {n : Nat} (h : n ≤ xs.length) : cutV xs none (some (n : Int)) = xs.take n := by
  unfold cutV
  have e1 : HT.sIx xs.length xs.length (some (n : Int)) = n := by rw [HT.sIx_nat]; omega
  have e0 : HT.sIx xs.length 0 none = 0 := rfl
  rw [e1, e0, List.drop_zero, Nat.sub_zero]
theorem cutV_from (xs : List V) {n : Nat} (h : n ≤ xs.length) : cutV xs (some (n : Int)) none = xs.drop n := by
  unfold cutV
  have e1 : HT.sIx xs.length 0 (some (n : Int)) = n := by rw [HT.sIx_nat]; omega
  have e0 : HT.sIx xs.length xs.length none = xs.length := rfl
  rw [e1, e0]
  exact List.take_of_length_le (by rw [List.length_drop]; omega)
theorem nms_len (m : Nat) : (nms m).length = m := by unfold nms; rw [List.length_map, List.length_range]
theorem nms_at {m i : Nat} (h : i < m) : (nms m)[i]? = some (nmK i) := by unfold nms; rw [List.getElem?_map, List.getElem?_range h]; rfl
def nds (nf m : Nat) (md : Int) : List PD := List.replicate (nf + m) (pdm md)
theorem nds_len (nf m : Nat) (md : Int) : (nds nf m md).length = nf + m := List.length_replicate
theorem nds_at {nf m i : Nat} {md : Int} (h : i < nf + m) : (nds nf m md)[i]? = some (pdm md) := by unfold nds; rw [List.getElem?_replicate, if_pos h]
theorem akc_map (nf : Nat) (js : List Nat) : akc nf (js.map fun j => nf + j) = js := by
  unfold akc
  induction js with
  | nil => rfl
  | cons j js ih =>
    rw [List.map_cons, List.filter_cons_of_pos (by simp), List.map_cons, ih]
    congr 1
    omega
theorem akc_cons {nf f : Nat} {cs : List Nat} (h : f < nf) : akc nf (f :: cs) = akc nf cs := by
  unfold akc
  rw [List.filter_cons_of_neg (by simp; omega)]
theorem akc_snoc {nf f : Nat} {cs : List Nat} (h : f < nf) : akc nf (cs ++ [f]) = akc nf cs := by
  unfold akc
  rw [List.filter_append, List.filter_cons_of_neg (by simp; omega), List.filter_nil, List.append_nil]
theorem rot_ok (m tu : Nat) : ((List.range m).drop tu ++ (List.range m).take tu).Nodup ∧ ((List.range m).drop tu ++ (List.range m).take tu).length = m ∧ ∀ k, k ∈ (List.range m).drop tu ++ (List.range m).take tu ↔ k < m := by
  have hp : ((List.range m).drop tu ++ (List.range m).take tu).Perm (List.range m) := by
    have := List.perm_append_comm (l₁ := (List.range m).drop tu) (l₂ := (List.range m).take tu)
    rwa [List.take_append_drop] at this
  refine ⟨hp.nodup_iff.mpr List.nodup_range, by rw [hp.length_eq, List.length_range], fun k => by rw [hp.mem_iff, List.mem_range]⟩
theorem TbN.more {N : Addr → Prop} {cT cN cW : Addr} {H : Hp} {zs : List Str} {ds : List PD} {ts us : List PT} {fN : Nat} {a : Addr} {k : Nat} (h : TbN N cT cN cW H zs ds ts fN a k) : TbN N cT cN cW H zs ds (ts ++ us) fN a k :=
  let ⟨t, nm, po, ou, dv, rl, dx, na, dl, fs, xs, h1, r⟩ := h
  ⟨t, nm, po, ou, dv, rl, dx, na, dl, fs, xs, by rw [List.getElem?_append_left (List.getElem?_eq_some_iff.mp h1).1]; exact h1, r⟩
/-- lists of numbers, apart from D -/
def AkL (N : Addr → Prop) (H : Hp) (r : Addr) (js : List Nat) : Prop := N r ∧ H r = some (.lst (vN js))
theorem wts_iff {ts : List PT} {fN : Nat} {L : List Nat} {k : Nat} : wts ts fN L k = true ↔ ∃ j ∈ akT ts fN k, j ∈ L := by
  unfold wts akT
  cases ts[k]? with
  | none => exact ⟨(fun h => by cases h), fun ⟨j, hj, _⟩ => by cases hj⟩
  | some t =>
    show (t.cols.any fun c => decide (fN ≤ c) && L.contains (c - fN)) = true ↔ ∃ j ∈ akc fN t.cols, j ∈ L
    rw [List.any_eq_true]
    unfold akc
    constructor
    · rintro ⟨c, hc, hb⟩
      rw [Bool.and_eq_true] at hb
      exact ⟨c - fN, List.mem_map.mpr ⟨c, List.mem_filter.mpr ⟨hc, hb.1⟩, rfl⟩, by simpa using hb.2⟩
    · rintro ⟨j, hj, hL⟩
      obtain ⟨c, hc, rfl⟩ := List.mem_map.mp hj
      obtain ⟨h1, h2⟩ := List.mem_filter.mp hc
      exact ⟨c, h1, by rw [Bool.and_eq_true]; exact ⟨h2, by simpa using hL⟩⟩
theorem cyc_next {ak : Nat → List Nat} {L : List Nat} (h : ∀ k, Pth ak k k → k ∈ L) {k : Nat} (hk : Pth ak k k) : ∃ j ∈ ak k, j ∈ L := by
  have key : ∀ {a b : Nat}, Pth ak a b → a = k → b = k → ∃ j ∈ ak k, j ∈ L := fun hp ha hb => by
    cases hp with
    | one e => subst ha; subst hb; exact ⟨_, e, h _ hk⟩
    | cons e r =>
      subst ha
      rw [hb] at r
      exact ⟨_, e, h _ (r.trans (.one e))⟩
  exact key hk rfl rfl
theorem pth_lt {ts : List PT} {fN k x : Nat} (h : Pth (akT ts fN) k x) : k < ts.length := by
  have hn := h.ne
  unfold akT at hn
  cases e : ts[k]? with
  | none => rw [e] at hn; exact absurd rfl hn
  | some t => exact (List.getElem?_eq_some_iff.mp e).1
/-- a row of verdicts at r -/
def MA (N : Addr → Prop) (H : Hp) (r : Addr) (row : List Bool) : Prop := N r ∧ H r = some (.lst (row.map V.bl))
def rw0 (aks : List (List Nat)) (m k : Nat) : List Bool := (List.range m).map fun j => (aks.getD k []).contains j
def mat0 (aks : List (List Nat)) (m i : Nat) : List (List Bool) := (List.range i).map (rw0 aks m)
theorem mat0_get {aks : List (List Nat)} {m k j : Nat} (hk : k < m) (hj : j < m) : mget (mat0 aks m m) k j = (aks.getD k []).contains j := by
  unfold mget mat0 rw0
  rw [List.getD_eq_getElem?_getD (i := k), List.getElem?_map, List.getElem?_range hk]
  show ((List.range m).map fun j => (aks.getD k []).contains j).getD j false = _
  rw [List.getD_eq_getElem?_getD, List.getElem?_map, List.getElem?_range hj]
  rfl
theorem mget_at {M : List (List Bool)} {k j : Nat} {row : List Bool} {b : Bool} (e : M[k]? = some row) (f : row[j]? = some b) : mget M k j = b := by
  unfold mget
  rw [List.getD_eq_getElem?_getD (i := k), e]
  show row.getD j false = b
  rw [List.getD_eq_getElem?_getD, f]
  rfl
theorem mget_lt {m : Nat} {M : List (List Bool)} (h : Sq m M) {k j : Nat} (e : mget M k j = true) : k < m ∧ j < m := by
  unfold mget at e
  cases ek : M[k]? with
  | none => rw [List.getD_eq_getElem?_getD (i := k), ek] at e; cases e
  | some row =>
    rw [List.getD_eq_getElem?_getD (i := k), ek] at e
    have hl := h.row k row ek
    have hk := (List.getElem?_eq_some_iff.mp ek).1
    have hM := h.len
    refine ⟨by omega, ?_⟩
    have e : row.getD j false = true := e
    cases ej : row[j]? with
    | none => rw [List.getD_eq_getElem?_getD, ej] at e; cases e
    | some b => have := (List.getElem?_eq_some_iff.mp ej).1; omega
theorem mat0_sq (aks : List (List Nat)) (m : Nat) : Sq m (mat0 aks m m) := by
  refine ⟨by unfold mat0; rw [List.length_map, List.length_range], fun k row e => ?_⟩
  unfold mat0 at e
  rw [List.getElem?_map] at e
  cases ek : (List.range m)[k]? with
  | none => rw [ek] at e; cases e
  | some x => rw [ek] at e; cases e; unfold rw0; rw [List.length_map, List.length_range]
theorem mat0_wsh (aks : List (List Nat)) (m : Nat) : Wsh (fun k => aks.getD k []) m 0 (mat0 aks m m) := by
  refine ⟨mat0_sq aks m, fun k j e => ?_, fun k j hk hj hp => ?_⟩
  · obtain ⟨hk, hj⟩ := mget_lt (mat0_sq aks m) e
    rw [mat0_get hk hj] at e
    exact .one (by simpa using e)
  · rw [mat0_get hk hj]
    have := hp.zero
    simpa using this
theorem rows_set {N : Addr → Prop} {H : Hp} {rv : List V} {M : List (List Bool)} {m k j : Nat} {r : Addr} {row : List Bool} (h : RefL rv M (MA N H)) (hn : rv.Nodup) (sq : Sq m M) (ek : M[k]? = some row) (er : rv[k]? = some (.ref r)) : RefL rv (mset M k j) (MA N (upd H r (.lst ((row.map V.bl).set j (.bl true))))) := by
  have eg : M.getD k [] = row := by rw [List.getD_eq_getElem?_getD, ek]; rfl
  unfold mset
  rw [eg]
  refine ⟨by rw [List.length_set]; exact h.1, fun a x ea => ?_⟩
  rw [List.getElem?_set] at ea
  split at ea
  · next hka =>
    subst hka
    split at ea
    · cases ea
      obtain ⟨r', e1, n1, f1⟩ := h.2 k row ek
      rw [er] at e1
      cases e1
      exact ⟨r, er, n1, by rw [upd_same, List.map_set]⟩
    · cases ea
  · next hka =>
    obtain ⟨r', e1, n1, f1⟩ := h.2 a x ea
    have hne : r' ≠ r := fun z => hka (nd_ix hn er (by rw [← z]; exact e1))
    exact ⟨r', e1, n1, (upd_ne hne).trans f1⟩
theorem get_bls {bs : List Bool} {i : Nat} {x : V} (e : (bs.map V.bl)[i]? = some x) : ∃ b, x = .bl b ∧ bs[i]? = some b := by
  rw [List.getElem?_map] at e
  cases q : bs[i]? with
  | none => rw [q] at e; cases e
  | some z => rw [q] at e; cases e; exact ⟨z, rfl, rfl⟩
theorem rEqL_bls {K : PySem.W.Frag} {H : Hp} {Q : VK} {a b : Addr} {xs ys : List Bool} {r : Bool} (ha : SqL K H a (xs.map V.bl)) (hb : SqL K H b (ys.map V.bl)) (hr : r = true ↔ xs = ys) (q : Q (.bl r) H) : rEqL K false (.ref a) (.ref b) H Q := by
  by_cases hl : xs.length = ys.length
  · refine ⟨a, b, _, _, rfl, rfl, ha, hb, .inr ⟨by rw [List.length_map, List.length_map]; exact hl, fun j => decide (xs[j]? = ys[j]?), fun j x y e1 e2 => ?_, ?_⟩⟩
    · obtain ⟨z, rfl, f1⟩ := get_bls e1
      obtain ⟨z2, rfl, f2⟩ := get_bls e2
      have h1 := EqI.flat (K := K) (H := H) (x := V.bl z) (y := V.bl z2) rfl rfl
      have h2 : eqV (V.bl z) (V.bl z2) = decide (xs[j]? = ys[j]?) := by
        rw [f1, f2, Bool.eq_iff_iff]
        simp [eqV]
      rw [h2] at h1
      exact h1
    · have e : (List.range (xs.map V.bl).length).all (fun j => decide (xs[j]? = ys[j]?)) = r := by
        rw [Bool.eq_iff_iff, hr, List.all_eq_true]
        constructor
        · intro h
          apply List.ext_getElem?
          intro j
          by_cases hj : j < xs.length
          · exact of_decide_eq_true (h j (List.mem_range.mpr (by rw [List.length_map]; exact hj)))
          · rw [List.getElem?_eq_none (by omega), List.getElem?_eq_none (by omega)]
        · intro h j _
          rw [h]
          exact decide_eq_true rfl
      rw [if_neg Bool.false_ne_true, e]
      exact q
  · have e : r = false := by
      rw [Bool.eq_false_iff]
      intro z
      exact hl (by rw [hr.mp z])
    rw [e] at q
    exact ⟨a, b, _, _, rfl, rfl, ha, hb, .inl ⟨by rw [List.length_map, List.length_map]; exact hl, q⟩⟩

/-- the names of a net with one fact -/
def rzs (m : Nat) : List Str := Str.ofString "fact" :: nms m
theorem rzs_len (m : Nat) : (rzs m).length = 1 + m := by unfold rzs; rw [List.length_cons, nms_len]; omega
theorem rzs_tab {m i : Nat} (hi : i < m) : (rzs m)[1 + i]? = some (nmK i) := by
  unfold rzs
  rw [show 1 + i = i + 1 by omega, List.getElem?_cons_succ]
  exact nms_at hi
theorem rzs_sub {m : Nat} (hm : m ≤ 12) : (rzs m).Sublist (rzs 12) := by
  unfold rzs nms
  exact ((List.range_sublist.mpr hm).map _).cons₂ _
theorem rz_nd : (rzs 12).Nodup := by decide +kernel
theorem rz_isw : ∀ z ∈ rzs 12, isw z = true := by decide +kernel
theorem rzs_nd {m : Nat} (hm : m ≤ 12) : (rzs m).Nodup := rz_nd.sublist (rzs_sub hm)
theorem rzs_isw {m : Nat} (hm : m ≤ 12) : ∀ z ∈ rzs m, isw z = true := fun z hz => rz_isw z ((rzs_sub hm).subset hz)
def RsO (m : Nat) (aks : List (List Nat)) (ts : List PT) : Prop := ∀ (j : Nat) (t : PT), ts[j]? = some t → RcOk 1 m t ∧ akc 1 t.cols = aks.getD j []
theorem RsO.ak {m : Nat} {aks : List (List Nat)} {ts : List PT} (h : RsO m aks ts) (hl : aks.length = ts.length) : akT ts 1 = fun k => aks.getD k [] := by
  funext k
  unfold akT
  cases e : ts[k]? with
  | none =>
    have : ts.length ≤ k := List.getElem?_eq_none_iff.mp e
    rw [List.getD_eq_getElem?_getD, List.getElem?_eq_none (by omega)]
    rfl
  | some t => exact (h k t e).2
theorem RsO.ok {m : Nat} {md : Int} {aks : List (List Nat)} {ts : List PT} (h : RsO m aks ts) (hl : ts.length = m) (h1 : 1 ≤ m) (hm : m ≤ 12) : RlOk (rzs m) (nds 1 m md) ts 1 :=
  ⟨rzs_isw hm, rzs_nd hm, by rw [rzs_len, nds_len], by rw [nds_len]; omega, by rw [nds_len]; omega, by omega, fun j t e => ⟨by rw [hl]; exact (h j t e).1⟩⟩
theorem prm_rtabs {m : Nat} : ∀ {js : List Nat}, (∀ j ∈ js, j < m) → prm (js.map fun j => 1 + j) (rzs m) = js.map nmK
  | [], _ => rfl
  | j :: js, hj => by
    have e := rzs_tab (hj j List.mem_cons_self)
    obtain ⟨hl, e⟩ := List.getElem?_eq_some_iff.mp e
    rw [List.map_cons, prm_cons hl, e, List.map_cons, prm_rtabs fun i hi => hj i (List.mem_cons_of_mem _ hi)]
structure RcX (m i : Nat) (ak cols : List Nat) : Prop where
  lt : ∀ c ∈ cols, c < 1 + m ∧ c ≠ 1 + i
  few : cols.length ≤ 4
  nd : cols.Nodup
  one : 1 ≤ cols.length
  ak : akc 1 cols = ak
theorem map_nd {js : List Nat} (h2 : js.Nodup) : (js.map fun j => 1 + j).Nodup := by
  rw [List.nodup_iff_pairwise_ne, List.pairwise_map]
  exact List.Pairwise.imp (fun h e => h (by omega)) h2
theorem RcX.map {m i : Nat} {js : List Nat} (h1 : ∀ j ∈ js, j < m ∧ j ≠ i) (h2 : js.Nodup) (h3 : js.length ≤ 3) (h4 : js ≠ []) : RcX m i js (js.map fun j => 1 + j) :=
  ⟨fun c hc => by obtain ⟨j, hj, rfl⟩ := List.mem_map.mp hc; have := h1 j hj; omega, by rw [List.length_map]; omega, map_nd h2, by rw [List.length_map]; exact List.length_pos_iff.mpr h4, akc_map 1 js⟩
theorem RcX.front {m i : Nat} {js : List Nat} (h1 : ∀ j ∈ js, j < m ∧ j ≠ i) (h2 : js.Nodup) (h3 : js.length ≤ 3) : RcX m i js (0 :: js.map fun j => 1 + j) := by
  refine ⟨fun c hc => ?_, by rw [List.length_cons, List.length_map]; omega, ?_, by rw [List.length_cons]; omega, by rw [akc_cons (by decide), akc_map]⟩
  · rcases List.mem_cons.mp hc with rfl | hc
    · omega
    · obtain ⟨j, hj, rfl⟩ := List.mem_map.mp hc; have := h1 j hj; omega
  · refine List.nodup_cons.mpr ⟨fun hm => ?_, map_nd h2⟩
    obtain ⟨j, hj, e⟩ := List.mem_map.mp hm
    omega
theorem RcX.back {m i : Nat} {js : List Nat} (h1 : ∀ j ∈ js, j < m ∧ j ≠ i) (h2 : js.Nodup) (h3 : js.length ≤ 3) : RcX m i js ((js.map fun j => 1 + j) ++ [0]) := by
  refine ⟨fun c hc => ?_, by rw [List.length_append, List.length_map]; show _ + 1 ≤ 4; omega, ?_, by rw [List.length_append]; show 1 ≤ _ + 1; omega, by rw [akc_snoc (by decide), akc_map]⟩
  · rcases List.mem_append.mp hc with hc | hc
    · obtain ⟨j, hj, rfl⟩ := List.mem_map.mp hc; have := h1 j hj; omega
    · rw [List.mem_singleton.mp hc]; omega
  · refine List.nodup_append.mpr ⟨map_nd h2, by simp, fun x hx y hy e => ?_⟩
    obtain ⟨j, hj, e2⟩ := List.mem_map.mp hx
    rw [List.mem_singleton.mp hy] at e
    omega
def RksOk (m : Nat) (aks : List (List Nat)) : Prop := ∀ (j : Nat) (js : List Nat), aks[j]? = some js → js.Nodup ∧ (∀ x ∈ js, x < m ∧ x ≠ j) ∧ js.length ≤ 3
def sp_all_among (K : PySem.W.Frag) (cTableError cUnlike cRing cWay cFirst cOnly cLike cLow cHigh cSum cDomain cNumbers cWords cTable cBook : Addr) : Sp := fun vs H Q _ => ∃ (z g : Str), vs = [.str z, .str g] ∧ Q (.bl (allIn z g)) H
def sp_is_whole (K : PySem.W.Frag) (cTableError cUnlike cRing cWay cFirst cOnly cLike cLow cHigh cSum cDomain cNumbers cWords cTable cBook : Addr) : Sp := fun vs H Q _ => ∃ i : Int, vs = [.int i] ∧ Q (.bl true) H
def sp_alike (K : PySem.W.Frag) (cTableError cUnlike cRing cWay cFirst cOnly cLike cLow cHigh cSum cDomain cNumbers cWords cTable cBook : Addr) : Sp := fun vs H Q _ => ∃ (a b : Addr) (k : Dk), vs = [.ref a, .ref b] ∧ DomD cNumbers cWords H a k ∧ DomD cNumbers cWords H b k ∧ Q (.bl true) H
def sp_refuse_counts_books (K : PySem.W.Frag) (cTableError cUnlike cRing cWay cFirst cOnly cLike cLow cHigh cSum cDomain cNumbers cWords cTable cBook : Addr) : Sp := fun vs H Q _ => ∃ (fa ma : Addr) (fv mv : List V), vs = [.ref fa, .ref ma] ∧ H fa = some (.lst fv) ∧ H ma = some (.lst mv) ∧ fv.length ≤ 20 ∧ mv.length ≤ 30 ∧ Q .non H
def sp_named_among (K : PySem.W.Frag) (cTableError cUnlike cRing cWay cFirst cOnly cLike cLow cHigh cSum cDomain cNumbers cWords cTable cBook : Addr) : Sp := fun vs H Q _ => ∃ (t na ou : Addr) (nm wy : Str) (zs ns : List Str) (dv : List V) (rws : List Rw), vs = [.ref t, .ref na] ∧ TF cTable H t nm wy ou zs dv rws ∧ H na = some (.lst (ns.map V.str)) ∧ zs.length ≤ 100 ∧ ∀ (l : Addr) (H' : Hp), Same H H' → H l = none → H' l = some (.lst ((zs.filter fun z => ns.contains z).map V.str)) → Q (.ref l) H'
def sp_refuse_counts_tables (K : PySem.W.Frag) (cTableError cUnlike cRing cWay cFirst cOnly cLike cLow cHigh cSum cDomain cNumbers cWords cTable cBook : Addr) : Sp := fun vs H Q _ => ∃ (p r : Addr) (xs ys : List V), vs = [.ref p, .ref r] ∧ SqL K H p xs ∧ SqL K H r ys ∧ 1 ≤ xs.length ∧ xs.length ≤ 4 ∧ ys.length ≤ 200 ∧ Q .non H
def sp_own_row (K : PySem.W.Frag) (cTableError cUnlike cRing cWay cFirst cOnly cLike cLow cHigh cSum cDomain cNumbers cWords cTable cBook : Addr) : Sp := fun vs H Q _ => ∃ (cl : Addr) (xs : List V) (w : Rw), vs = [.ref cl, .int w.2] ∧ H cl = some (.lst xs) ∧ CL NT H xs w.1 ∧ w.1.length ≤ 100 ∧ ∀ (r : Addr) (H' : Hp), Same H H' → H r = none → RowA (fun a => H a = none) H' r w → Q (.ref r) H'
def sp_law_at (K : PySem.W.Frag) (cTableError cUnlike cRing cWay cFirst cOnly cLike cLow cHigh cSum cDomain cNumbers cWords cTable cBook : Addr) : Sp := fun vs H Q _ => ∃ (a : Addr) (ns : List Int) (k : Int), vs = [.ref a, .int k] ∧ SqL K H a (ns.map V.int) ∧ 0 ≤ k ∧ ∀ r : Int, Q (.int r) H
def sp_law_folded (K : PySem.W.Frag) (cTableError cUnlike cRing cWay cFirst cOnly cLike cLow cHigh cSum cDomain cNumbers cWords cTable cBook : Addr) : Sp := fun vs H Q _ => ∃ (a : Addr) (ns : List Int) (m : Nat), vs = [.ref a, .int (m : Int)] ∧ SqL K H a (ns.map V.int) ∧ ns.length ≤ 63 ∧ 1 ≤ m ∧ m ≤ 12 ∧ ∀ (l : Addr) (ms : List Int) (H' : Hp), Same H H' → H l = none → H' l = some (.lst (ms.map V.int)) → ms.length = m → (∀ x ∈ ms, 0 ≤ x) → Q (.ref l) H'
def sp_law_asked (K : PySem.W.Frag) (cTableError cUnlike cRing cWay cFirst cOnly cLike cLow cHigh cSum cDomain cNumbers cWords cTable cBook : Addr) : Sp := fun vs H Q _ => ∃ (x : Int) (k m : Nat) (md : Int), vs = [.int x, .int (k : Int), .int (m : Int), .int md] ∧ 0 ≤ x ∧ 1 ≤ m ∧ m ≤ 12 ∧ ∀ (l : Addr) (js : List Nat) (H' : Hp), Same H H' → H l = none → H' l = some (.lst (vN js)) → js.Nodup → (∀ j ∈ js, j < m ∧ j ≠ k) → js.length ≤ 3 → Q (.ref l) H'
def sp_law_names (K : PySem.W.Frag) (cTableError cUnlike cRing cWay cFirst cOnly cLike cLow cHigh cSum cDomain cNumbers cWords cTable cBook : Addr) : Sp := fun vs H Q _ => ∃ (m : Nat), vs = [.int (m : Int)] ∧ m ≤ 12 ∧ ∀ (l : Addr) (H' : Hp), Same H H' → H l = none → H' l = some (.lst ((nms m).map V.str)) → Q (.ref l) H'
def sp_law_ring (K : PySem.W.Frag) (cTableError cUnlike cRing cWay cFirst cOnly cLike cLow cHigh cSum cDomain cNumbers cWords cTable cBook : Addr) : Sp := fun vs H Q _ => ∃ (a : Addr) (av : List V) (aks : List (List Nat)), vs = [.ref a] ∧ H a = some (.lst av) ∧ RefL av aks (AkL NT H) ∧ aks.length ≤ 12 ∧ (∀ (k : Nat) (js : List Nat), aks[k]? = some js → ∀ j ∈ js, j < aks.length) ∧ ∀ (b : Bool) (H' : Hp), Same H H' → (b = true ↔ ∃ k, Pth (fun k => aks.getD k []) k k) → Q (.bl b) H'
def sp_Domain___init___Numbers (K : PySem.W.Frag) (cTableError cUnlike cRing cWay cFirst cOnly cLike cLow cHigh cSum cDomain cNumbers cWords cTable cBook : Addr) : Sp := fun vs H Q _ => ∃ (x dx : Addr) (lo hi : Int), vs = [.ref x, .int lo, .int hi] ∧ H x = some (.ins cNumbers dx []) ∧ Q .non (mkd cNumbers H x dx lo hi)
def sp_Way___init___First (K : PySem.W.Frag) (cTableError cUnlike cRing cWay cFirst cOnly cLike cLow cHigh cSum cDomain cNumbers cWords cTable cBook : Addr) : Sp := fun vs H Q _ => ∃ (x dx : Addr) (z : Str), vs = [.ref x, .str z] ∧ H x = some (.ins cFirst dx []) ∧ Q .non (upd H x (.ins cFirst dx [("called", .str z)]))
def sp_Way___init___Only (K : PySem.W.Frag) (cTableError cUnlike cRing cWay cFirst cOnly cLike cLow cHigh cSum cDomain cNumbers cWords cTable cBook : Addr) : Sp := fun vs H Q _ => ∃ (x dx : Addr) (z : Str), vs = [.ref x, .str z] ∧ H x = some (.ins cOnly dx []) ∧ Q .non (upd H x (.ins cOnly dx [("called", .str z)]))
def sp_Way___init___Like (K : PySem.W.Frag) (cTableError cUnlike cRing cWay cFirst cOnly cLike cLow cHigh cSum cDomain cNumbers cWords cTable cBook : Addr) : Sp := fun vs H Q _ => ∃ (x dx : Addr) (z : Str), vs = [.ref x, .str z] ∧ H x = some (.ins cLike dx []) ∧ Q .non (upd H x (.ins cLike dx [("called", .str z)]))
def sp_Way___init___Low (K : PySem.W.Frag) (cTableError cUnlike cRing cWay cFirst cOnly cLike cLow cHigh cSum cDomain cNumbers cWords cTable cBook : Addr) : Sp := fun vs H Q _ => ∃ (x dx : Addr) (z : Str), vs = [.ref x, .str z] ∧ H x = some (.ins cLow dx []) ∧ Q .non (upd H x (.ins cLow dx [("called", .str z)]))
def sp_Way___init___High (K : PySem.W.Frag) (cTableError cUnlike cRing cWay cFirst cOnly cLike cLow cHigh cSum cDomain cNumbers cWords cTable cBook : Addr) : Sp := fun vs H Q _ => ∃ (x dx : Addr) (z : Str), vs = [.ref x, .str z] ∧ H x = some (.ins cHigh dx []) ∧ Q .non (upd H x (.ins cHigh dx [("called", .str z)]))
def sp_Way___init___Sum (K : PySem.W.Frag) (cTableError cUnlike cRing cWay cFirst cOnly cLike cLow cHigh cSum cDomain cNumbers cWords cTable cBook : Addr) : Sp := fun vs H Q _ => ∃ (x dx : Addr) (z : Str), vs = [.ref x, .str z] ∧ H x = some (.ins cSum dx []) ∧ Q .non (upd H x (.ins cSum dx [("called", .str z)]))
def sp_is_word (K : PySem.W.Frag) (cTableError cUnlike cRing cWay cFirst cOnly cLike cLow cHigh cSum cDomain cNumbers cWords cTable cBook : Addr) : Sp := fun vs H Q _ => ∃ (z : Str), vs = [.str z] ∧ z.length ≤ 1000 ∧ Q (.bl (isw z)) H
def sp_refuse_domains (K : PySem.W.Frag) (cTableError cUnlike cRing cWay cFirst cOnly cLike cLow cHigh cSum cDomain cNumbers cWords cTable cBook : Addr) : Sp := fun vs H Q _ => ∃ (fa ma : Addr) (fv mv : List V) (zs : List Str) (ds : List PD) (ts : List PT) (fN : Nat) (L : List Nat), vs = [.ref fa, .ref ma] ∧ H fa = some (.lst fv) ∧ H ma = some (.lst mv) ∧ BkI cTable cNumbers cWords H zs ds ts fN fv mv L ∧ ∀ H', Same H H' → Q .non H'
def sp_refuse_rings (K : PySem.W.Frag) (cTableError cUnlike cRing cWay cFirst cOnly cLike cLow cHigh cSum cDomain cNumbers cWords cTable cBook : Addr) : Sp := fun vs H Q E => ∃ (ma : Addr) (mv : List V) (zs : List Str) (ds : List PD) (ts : List PT) (fN : Nat) (L : List Nat), vs = [.ref ma] ∧ H ma = some (.lst mv) ∧ RlOk zs ds ts fN ∧ RefL mv L (TbA cTable cNumbers cWords H zs ds ts fN) ∧ (∀ k ∈ L, k < ts.length) ∧ L.length ≤ 16 ∧ (∀ k, Pth (akT ts fN) k k → k ∈ L) ∧ ((¬ ∃ k, Pth (akT ts fN) k k) → ∀ H', Same H H' → Q .non H') ∧ ((∃ k, Pth (akT ts fN) k k) → ∀ H', Same H H' → E (.ref cRing) none H')
def sp_Numbers___init___Numbers (K : PySem.W.Frag) (cTableError cUnlike cRing cWay cFirst cOnly cLike cLow cHigh cSum cDomain cNumbers cWords cTable cBook : Addr) : Sp := fun vs H Q _ => ∃ (x dx : Addr) (lo hi : Int), vs = [.ref x, .int lo, .int hi] ∧ H x = some (.ins cNumbers dx []) ∧ lo ≤ hi ∧ Q .non (mkd cNumbers H x dx lo hi)
def sp_First___init___First (K : PySem.W.Frag) (cTableError cUnlike cRing cWay cFirst cOnly cLike cLow cHigh cSum cDomain cNumbers cWords cTable cBook : Addr) : Sp := fnew cFirst (Str.ofString "first")
def sp_Only___init___Only (K : PySem.W.Frag) (cTableError cUnlike cRing cWay cFirst cOnly cLike cLow cHigh cSum cDomain cNumbers cWords cTable cBook : Addr) : Sp := fnew cOnly (Str.ofString "only")
def sp_Like___init___Like (K : PySem.W.Frag) (cTableError cUnlike cRing cWay cFirst cOnly cLike cLow cHigh cSum cDomain cNumbers cWords cTable cBook : Addr) : Sp := fnew cLike (Str.ofString "like")
def sp_Low___init___Low (K : PySem.W.Frag) (cTableError cUnlike cRing cWay cFirst cOnly cLike cLow cHigh cSum cDomain cNumbers cWords cTable cBook : Addr) : Sp := fnew cLow (Str.ofString "low")
def sp_High___init___High (K : PySem.W.Frag) (cTableError cUnlike cRing cWay cFirst cOnly cLike cLow cHigh cSum cDomain cNumbers cWords cTable cBook : Addr) : Sp := fnew cHigh (Str.ofString "high")
def sp_Sum___init___Sum (K : PySem.W.Frag) (cTableError cUnlike cRing cWay cFirst cOnly cLike cLow cHigh cSum cDomain cNumbers cWords cTable cBook : Addr) : Sp := fnew cSum (Str.ofString "sum")
def sp_Domain_has_code_Numbers (K : PySem.W.Frag) (cTableError cUnlike cRing cWay cFirst cOnly cLike cLow cHigh cSum cDomain cNumbers cWords cTable cBook : Addr) : Sp := fun vs H Q _ => ∃ (a : Addr) (b : Int × Int) (i : Int), vs = [.ref a, .int i] ∧ DomC cNumbers H a b.1 b.2 ∧ b.1 ≤ i ∧ i ≤ b.2 ∧ Q (.bl true) H
def sp_Domain_has_code_Words (K : PySem.W.Frag) (cTableError cUnlike cRing cWay cFirst cOnly cLike cLow cHigh cSum cDomain cNumbers cWords cTable cBook : Addr) : Sp := fun vs H Q _ => ∃ (a : Addr) (b : Int × Int) (i : Int), vs = [.ref a, .int i] ∧ DomC cWords H a b.1 b.2 ∧ b.1 ≤ i ∧ i ≤ b.2 ∧ Q (.bl true) H
def sp_refuse_names_books (K : PySem.W.Frag) (cTableError cUnlike cRing cWay cFirst cOnly cLike cLow cHigh cSum cDomain cNumbers cWords cTable cBook : Addr) : Sp := fun vs H Q _ => ∃ (fa ma : Addr) (fv mv : List V) (zs : List Str) (ds : List PD) (ts : List PT) (fN : Nat) (L : List Nat), vs = [.ref fa, .ref ma] ∧ H fa = some (.lst fv) ∧ H ma = some (.lst mv) ∧ BkI cTable cNumbers cWords H zs ds ts fN fv mv L ∧ ∀ H', Same H H' → Q .non H'
def sp_refuse_names_tables (K : PySem.W.Frag) (cTableError cUnlike cRing cWay cFirst cOnly cLike cLow cHigh cSum cDomain cNumbers cWords cTable cBook : Addr) : Sp := fun vs H Q _ => ∃ (p : Addr) (zs : List Str), vs = [.ref p] ∧ SqL K H p (zs.map V.str) ∧ (∀ z ∈ zs, isw z = true) ∧ zs.Nodup ∧ zs.length ≤ 100 ∧ ∀ H', Same H H' → Q .non H'
def sp_refuse_row (K : PySem.W.Frag) (cTableError cUnlike cRing cWay cFirst cOnly cLike cLow cHigh cSum cDomain cNumbers cWords cTable cBook : Addr) : Sp := fun vs H Q _ => ∃ (dl ou cl : Addr) (dv xs : List V) (bs : Prs) (o : Int × Int) (w : Rw), vs = [.ref dl, .ref ou, .ref cl, .int w.2] ∧ SqL K H dl dv ∧ RefL dv bs (Dom cNumbers cWords H) ∧ Dom cNumbers cWords H ou o ∧ H cl = some (.lst xs) ∧ CL NT H xs w.1 ∧ RowOk bs o w ∧ ∀ H', Same H H' → Q .non H'
def sp_way_by (K : PySem.W.Frag) (cTableError cUnlike cRing cWay cFirst cOnly cLike cLow cHigh cSum cDomain cNumbers cWords cTable cBook : Addr) : Sp := fun vs H Q _ => ∃ z : Str, vs = [.str z] ∧ z ∈ six ∧ (∀ i : Nat, six[i]? = some z → ∀ (x C : Addr) (H' : Hp), Same H H' → (cl6 cFirst cOnly cLike cLow cHigh cSum)[i]? = some C → WyN C H' x z → Q (.ref x) H')
def sp_Book___init___Book (K : PySem.W.Frag) (cTableError cUnlike cRing cWay cFirst cOnly cLike cLow cHigh cSum cDomain cNumbers cWords cTable cBook : Addr) : Sp := fun vs H Q E => ∃ (x dx fa ma : Addr) (fv mv : List V) (zs : List Str) (ds : List PD) (ts : List PT) (fN : Nat) (L : List Nat), vs = [.ref x, .ref fa, .ref ma] ∧ H x = some (.ins cBook dx []) ∧ H fa = some (.lst fv) ∧ H ma = some (.lst mv) ∧ BkI cTable cNumbers cWords H zs ds ts fN fv mv L ∧ ((¬ ∃ k, Pth (akT ts fN) k k) → ∀ (H' : Hp) (fs : List (Str × V)) (ta : Addr), (∀ b o, b ≠ x → H b = some o → H' b = some o) → H' x = some (.ins cBook dx fs) → fs.lookup (Str.ofString "tables") = some (.ref ta) → H' ta = some (.lst mv) → Q .non H') ∧ ((∃ k, Pth (akT ts fN) k k) → ∀ H', Same H H' → E (.ref cRing) none H')
def sp_refuse_way (K : PySem.W.Frag) (cTableError cUnlike cRing cWay cFirst cOnly cLike cLow cHigh cSum cDomain cNumbers cWords cTable cBook : Addr) : Sp := fun vs H Q _ => ∃ (z : Str) (ou : Addr), vs = [.str z, .ref ou] ∧ z ∈ six ∧ (z = Str.ofString "sum" → ∃ dx fs, H ou = some (.ins cNumbers dx fs)) ∧ ∀ H', Same H H' → Q .non H'
def sp_Table___init___Table (K : PySem.W.Frag) (cTableError cUnlike cRing cWay cFirst cOnly cLike cLow cHigh cSum cDomain cNumbers cWords cTable cBook : Addr) : Sp := fun vs H Q _ => ∃ (x dx na dl ou rl : Addr) (nm wy : Str) (zs : List Str) (dv rx : List V) (bs : Prs) (o : Int × Int) (rws : List Rw), vs = [.ref x, .str nm, .ref na, .ref dl, .ref ou, .str wy, .ref rl] ∧ H x = some (.ins cTable dx []) ∧ H na = some (.lst (zs.map V.str)) ∧ (∀ z ∈ nm :: zs, isw z = true) ∧ (nm :: zs).Nodup ∧ 1 ≤ zs.length ∧ zs.length ≤ 4 ∧ wy ∈ six ∧ (wy = Str.ofString "sum" → ∃ dx fs, H ou = some (.ins cNumbers dx fs)) ∧ H dl = some (.lst dv) ∧ RefL dv bs (Dom cNumbers cWords H) ∧ Dom cNumbers cWords H ou o ∧ H rl = some (.lst rx) ∧ RL NT H rx rws ∧ rx.length ≤ 200 ∧ bs.length ≤ 4 ∧ (∀ w ∈ rws, RowOk bs o w) ∧
  ∀ (H' : Hp) (fs : List (Str × V)) (rl' : Addr) (xs' : List V), (∀ b o, b ≠ x → H b = some o → H' b = some o) → H' x = some (.ins cTable dx fs) → fs.lookup (Str.ofString "rows") = some (.ref rl') → fs.lookup (Str.ofString "way") = some (.str wy) → fs.lookup (Str.ofString "outcome") = some (.ref ou) → fs.lookup (Str.ofString "name") = some (.str nm) → (∃ na' dl' : Addr, H na' = none ∧ H dl' = none ∧ fs.lookup (Str.ofString "names") = some (.ref na') ∧ fs.lookup (Str.ofString "domains") = some (.ref dl') ∧ H' na' = some (.lst (zs.map V.str)) ∧ H' dl' = some (.lst dv)) → H rl' = none → H' rl' = some (.lst xs') → RL (fun a => H a = none) H' xs' rws → Q .non H'
def sp_law_net_table (K : PySem.W.Frag) (cTableError cUnlike cRing cWay cFirst cOnly cLike cLow cHigh cSum cDomain cNumbers cWords cTable cBook : Addr) : Sp := fun vs H Q _ => ∃ (nm : Str) (ha : Addr) (zs : List Str) (ds : List PD) (ts : List PT) (fN k : Nat) (t : PT) (md : Int), vs = [.str nm, .ref ha, .int md] ∧ 0 ≤ md ∧ ts[k]? = some t ∧ zs[fN + k]? = some nm ∧ ds[fN + k]? = some (pdm md) ∧ (∀ p ∈ ds, p = pdm md) ∧ zs.length = ds.length ∧ (∀ z ∈ zs, isw z = true) ∧ zs.Nodup ∧ (∀ c ∈ t.cols, c < zs.length ∧ c ≠ fN + k) ∧ t.cols.Nodup ∧ 1 ≤ t.cols.length ∧ t.cols.length ≤ 4 ∧ t.way = Str.ofString "first" ∧ t.rows = nrw t.cols.length ∧ H ha = some (.lst ((prm t.cols zs).map V.str)) ∧ ∀ (x : Addr) (H' : Hp), Same H H' → TbN (fun a => H a = none) cTable cNumbers cWords H' zs ds ts fN x k → Q (.ref x) H'
def sp_law (K : PySem.W.Frag) : Sp := fun vs H Q _ => ∃ (a : Addr) (ns : List Int), vs = [.ref a] ∧ SqL K H a (ns.map V.int) ∧ ns.length ≤ 63 ∧ ∀ H', Q (.bl true) H'
section
variable {P : Program} {w : World} {K : PySem.W.Frag} {mg : Str → Option Value} {base : Heap} {f : Addr} {fd : FuncData} {cTableError cUnlike cRing cWay cFirst cOnly cLike cLow cHigh cSum cDomain cNumbers cWords cTable cBook : Addr}
theorem ok_all_among (F : Fun K "all_among" "all_among" s_all_among f fd) (bl : Bl K mg cTableError cUnlike cRing cWay cFirst cOnly cLike cLow cHigh cSum cDomain cNumbers cWords cTable cBook)  : FnOk P w K mg base CX0 1 f fd ["text", "signs"] (sp_all_among K cTableError cUnlike cRing cWay cFirst cOnly cLike cLow cHigh cSum cDomain cNumbers cWords cTable cBook) := by
  refine F.ok sc_all_among (fun vs H Q E h => ?_) (fun cdv A outer s H vs Q E hr h => ?_)
  · obtain ⟨z, g, rfl, q⟩ := h
    rfl
  obtain ⟨z, g, rfl, q⟩ := h
  refine ⟨_, (pss_cons (ps_for PassesOwn.never rfl (pi_str (pv 0)) (pg_name (i := 2) sc_all_among.nd rfl (Or.inl rfl))
     (pss_one (ps_if (pt_cmpR op_notin_str (pv 2) (pv 1) (by with_unfolding_all rfl))
     (pss_one (ps_ret pe_bl))
     pss_nil)))
     (pss_one (ps_ret pe_bl))), ?_⟩
  refine ⟨_, rfl, z, rfl, for_str (fun i σ H' => (∃ c2 : Option V, σ = [some (.str z), some (.str g), c2]) ∧ H' = H ∧ (z.cps.toList.take i).all (sg g) = true) ⟨⟨_, rfl⟩, rfl, rfl⟩ (fun i c σ H' e h => ?_) (fun σ H' h => ?_)⟩
  · obtain ⟨⟨c2, rfl⟩, e0, ha⟩ := h
    rw [e0]
    refine ⟨_, rfl, _, rfl, _, _, rfl, rfl, _, rfl, ?_⟩
    refine ite2 (fun d => ?_) (fun d => ?_)
    · have z2 : allIn z g = false := all_no e (not_sg d)
      rw [z2] at q; exact q
    · exact ⟨⟨_, rfl⟩, rfl, all_succ e (is_sg d) ha⟩
  · obtain ⟨⟨c2, rfl⟩, e0, ha⟩ := h
    rw [e0]
    rw [all_done ha] at q; exact q
theorem ok_is_whole (F : Fun K "is_whole" "is_whole" s_is_whole f fd) (bl : Bl K mg cTableError cUnlike cRing cWay cFirst cOnly cLike cLow cHigh cSum cDomain cNumbers cWords cTable cBook)  : FnOk P w K mg base CX0 1 f fd ["value"] (sp_is_whole K cTableError cUnlike cRing cWay cFirst cOnly cLike cLow cHigh cSum cDomain cNumbers cWords cTable cBook) := by
  refine F.ok sc_is_whole (fun vs H Q E h => ?_) (fun cdv A outer s H vs Q E hr h => ?_)
  · obtain ⟨i, rfl, q⟩ := h
    rfl
  obtain ⟨i, rfl, q⟩ := h
  refine ⟨_, (pss_one (ps_ret (pe_and (pe_callB call_isiG rfl bl.isinstance_ PyProof.Rows.boot_isinstance (pa_cons (pv 0) (pa_cons (pe_bltn (v := .ty "int") rfl bl.int_ PyProof.Rows.boot_int rfl) pa_nil))) (pe_one (pe_not (pe_callB call_isiG rfl bl.isinstance_ PyProof.Rows.boot_isinstance (pa_cons (pv 0) (pa_cons (pe_bltn (v := .ty "bool") rfl bl.bool_ PyProof.Rows.boot_bool rfl) pa_nil)))))))), ?_⟩
  exact ⟨_, rfl, _, _, _, _, true, rfl, .ty _, .inl (.int _), (by first | rfl | with_unfolding_all rfl | decide +kernel), _, rfl, iteT ⟨_, rfl, _, _, _, _, false, rfl, .ty _, .inl (.int _), (by first | rfl | with_unfolding_all rfl | decide +kernel), _, rfl, q⟩⟩
theorem ok_alike (F : Fun K "alike" "alike" s_alike f fd) (bl : Bl K mg cTableError cUnlike cRing cWay cFirst cOnly cLike cLow cHigh cSum cDomain cNumbers cWords cTable cBook)  : FnOk P w K mg base CX0 1 f fd ["one", "other"] (sp_alike K cTableError cUnlike cRing cWay cFirst cOnly cLike cLow cHigh cSum cDomain cNumbers cWords cTable cBook) := by
  refine F.ok sc_alike (fun vs H Q E h => ?_) (fun cdv A outer s H vs Q E hr h => ?_)
  · obtain ⟨a, b, k, rfl, ha, hb, q⟩ := h
    rfl
  obtain ⟨a, b, k, rfl, ha, hb, q⟩ := h
  refine ⟨_, (pss_cons (ps_if (PW.pt (pw_and (pt_val (pe_callB call_isiG rfl bl.isinstance_ PyProof.Rows.boot_isinstance (pa_cons (pv 0) (pa_cons (pe_glob (v := .ref cNumbers) rfl bl.Numbers_ rfl) pa_nil)))) (pw_and1 (pt_val (pe_callB call_isiG rfl bl.isinstance_ PyProof.Rows.boot_isinstance (pa_cons (pv 1) (pa_cons (pe_glob (v := .ref cNumbers) rfl bl.Numbers_ rfl) pa_nil)))))))
     (pss_one (ps_ret (pe_and (pe_cmpR op_eq (pe_fld (pv 0) rfl) (pe_fld (pv 1) rfl) (nomark _)) (pe_one (pe_cmpR op_eq (pe_fld (pv 0) rfl) (pe_fld (pv 1) rfl) (nomark _))))))
     pss_nil)
     (pss_cons (ps_if (PW.pt (pw_and (pt_val (pe_callB call_isiG rfl bl.isinstance_ PyProof.Rows.boot_isinstance (pa_cons (pv 0) (pa_cons (pe_glob (v := .ref cWords) rfl bl.Words_ rfl) pa_nil)))) (pw_and1 (pt_val (pe_callB call_isiG rfl bl.isinstance_ PyProof.Rows.boot_isinstance (pa_cons (pv 1) (pa_cons (pe_glob (v := .ref cWords) rfl bl.Words_ rfl) pa_nil)))))))
     (pss_one (ps_ret (pe_cmpR (op_eqL hr) (pe_fld (pv 0) rfl) (pe_fld (pv 1) rfl) (nomark _))))
     pss_nil)
     (pss_one (ps_ret pe_bl)))), ?_⟩
  obtain ⟨w, lo, hi⟩ := k
  cases w with
  | none =>
    obtain ⟨dx, e⟩ := ha
    obtain ⟨dx2, e2⟩ := hb
    refine ⟨_, rfl, _, _, _, _, true, rfl, .ref _, bl.t_Numbers.ty e, bl.f_nn, _, rfl, iteT ?_⟩
    refine ⟨_, rfl, _, _, _, _, true, rfl, .ref _, bl.t_Numbers.ty e2, bl.f_nn, _, rfl, iteT ?_⟩
    refine ⟨_, rfl, a, _, _, _, _, rfl, e, bl.k_Numbers, bl.na_Numbers_low, rfl, _, rfl, b, _, _, _, _, rfl, e2, bl.k_Numbers, bl.na_Numbers_low, rfl, rfl, _, rfl, iteTS rfl ?_⟩
    refine ⟨_, rfl, a, _, _, _, _, rfl, e, bl.k_Numbers, bl.na_Numbers_high, rfl, _, rfl, b, _, _, _, _, rfl, e2, bl.k_Numbers, bl.na_Numbers_high, rfl, rfl, ?_⟩
    rw [decide_eq_true rfl]
    exact q
  | some zs =>
    obtain ⟨⟨dx, l, e, f⟩, _⟩ := ha
    obtain ⟨⟨dx2, l2, e2, f2⟩, _⟩ := hb
    refine ⟨_, rfl, _, _, _, _, false, rfl, .ref _, bl.t_Words.ty e, bl.f_wn, _, rfl, iteF (iteF ?_)⟩
    refine ⟨_, rfl, _, _, _, _, true, rfl, .ref _, bl.t_Words.ty e, bl.f_ww, _, rfl, iteT ?_⟩
    refine ⟨_, rfl, _, _, _, _, true, rfl, .ref _, bl.t_Words.ty e2, bl.f_ww, _, rfl, iteT ?_⟩
    refine ⟨_, rfl, a, _, _, _, _, rfl, e, bl.k_Words, bl.na_Words_words, rfl, _, rfl, b, _, _, _, _, rfl, e2, bl.k_Words, bl.na_Words_words, rfl, ?_⟩
    exact rEqL_same (SqL.of f) (SqL.of f2) (fun x hx => .inl (List.all_eq_true.mp (flat_strs zs) x hx)) q
theorem ok_refuse_counts_books (F : Fun K "refuse_counts" "refuse_counts" s_refuse_counts_books f fd) (bl : Bl K mg cTableError cUnlike cRing cWay cFirst cOnly cLike cLow cHigh cSum cDomain cNumbers cWords cTable cBook)  : FnOk P w K mg base CX0 1 f fd ["facts", "tables"] (sp_refuse_counts_books K cTableError cUnlike cRing cWay cFirst cOnly cLike cLow cHigh cSum cDomain cNumbers cWords cTable cBook) := by
  refine F.ok sc_refuse_counts_books (fun vs H Q E h => ?_) (fun cdv A outer s H vs Q E hr h => ?_)
  · obtain ⟨fa, ma, fv, mv, rfl, e1, e2, h1, h2, q⟩ := h
    rfl
  obtain ⟨fa, ma, fv, mv, rfl, e1, e2, h1, h2, q⟩ := h
  refine ⟨_, (pss_cons (ps_if (pt_cmpR op_gt (pe_callB call_len_seq rfl bl.len_ PySem.boot_len (pa_cons (pv 0) pa_nil)) (pe_gl rfl bl.MOST_FACTS_) (nomark _))
     (pss_one ps_never)
     pss_nil)
     (pss_one (ps_if (pt_cmpR op_gt (pe_callB call_len_seq rfl bl.len_ PySem.boot_len (pa_cons (pv 1) pa_nil)) (pe_gl rfl bl.MOST_TABLES_) (nomark _))
     (pss_one ps_never)
     pss_nil))), ?_⟩
  refine ⟨_, rfl, fa, _, rfl, .inl (SqL.of e1), _, _, rfl, rfl, _, rfl, iteFS (by omega) ?_⟩
  exact ⟨_, rfl, ma, _, rfl, .inl (SqL.of e2), _, _, rfl, rfl, _, rfl, iteFS (by omega) q⟩
theorem ok_named_among (F : Fun K "named_among" "named_among" s_named_among f fd) (bl : Bl K mg cTableError cUnlike cRing cWay cFirst cOnly cLike cLow cHigh cSum cDomain cNumbers cWords cTable cBook)  : FnOk P w K mg base CX0 1 f fd ["table", "names"] (sp_named_among K cTableError cUnlike cRing cWay cFirst cOnly cLike cLow cHigh cSum cDomain cNumbers cWords cTable cBook) := by
  refine F.ok sc_named_among (fun vs H Q E h => ?_) (fun cdv A outer s H vs Q E hr h => ?_)
  · obtain ⟨t, na, ou, nm, wy, zs, ns, dv, rws, rfl, ⟨rl, dx, tna, dl, fs, xs, ht, f1, f2, f3, f4, f5, f6, ena, edl, erl, hR, h200⟩, hna, h100, q⟩ := h
    rfl
  obtain ⟨t, na, ou, nm, wy, zs, ns, dv, rws, rfl, ⟨rl, dx, tna, dl, fs, xs, ht, f1, f2, f3, f4, f5, f6, ena, edl, erl, hR, h200⟩, hna, h100, q⟩ := h
  refine ⟨_, (pss_one (ps_ret (pe_comp (pi_list (pe_fld (pv 0) rfl)) (cmpOk_free (N := ["name", "names"]) (fr := [1]) (cl := [("names", s.heap.objs.size + 1)]) rfl rfl (by decide +kernel) (by decide +kernel) rfl (by decide +kernel) rfl rfl rfl (List.forall_mem_cons.mpr ⟨rfl, List.forall_mem_nil _⟩) rfl) rfl (fun _ _ _ _ => (pif_one (pt_cmpR (op_in_seqK (K := K) rfl) (pv 0) (pv 1) (by with_unfolding_all rfl)))) (fun _ _ _ _ => (pv 0))))), ?_⟩
  have hzl : (zs.map V.str).length = zs.length := List.length_map _
  refine ⟨_, rfl, t, _, _, _, _, rfl, ht, bl.k_Table, bl.na_Table_names, f5, tna, rfl, ⟨_, SqL.of ena⟩, comp_list (xs := zs.map V.str) (fun D i ys H' => Same H H' ∧ H' D = some (.lst ys) ∧ ys = ((zs.take i).filter fun z => ns.contains z).map V.str) (fun D hD => ⟨same_new hD _, upd_same, rfl⟩) (fun D i ys H' hD _ h => SqL.of (h.1 _ _ ena)) (fun D i y ys H' hD e h => ?_) (fun D ys H' hD h => ?_)⟩
  · obtain ⟨sm, eD, rfl⟩ := h
    obtain ⟨z, rfl, ez⟩ := get_strs e
    have hi : i < (zs.map V.str).length := (List.getElem?_eq_some_iff.mp e).1
    have hfl : ((zs.take i).filter fun z => ns.contains z).length ≤ i := Nat.le_trans (List.length_filter_le ..) (by rw [List.length_take]; omega)
    refine ⟨_, rfl, _, rfl, na, _, rfl, .inl (SqL.of (sm _ _ hna)), rfl, flat_strs ns, _, rfl, ?_⟩
    rw [show (if false = true then !inV (V.str z) (ns.map V.str) else inV (V.str z) (ns.map V.str)) = ns.contains z by rw [if_neg Bool.false_ne_true, inV_strs]]
    have hf : ((zs.take (i + 1)).filter fun z => ns.contains z) = ((zs.take i).filter fun z => ns.contains z) ++ (if ns.contains z then [z] else []) := by
      rw [take_snoc ez, List.filter_append]
      congr 1
      cases h : ns.contains z with
      | true => rw [List.filter_cons_of_pos h, List.filter_nil]; rfl
      | false => rw [List.filter_cons_of_neg (by rw [h]; exact Bool.false_ne_true), List.filter_nil]; rfl
    cases hc : ns.contains z with
    | true =>
      rw [hc] at hf
      refine iteT ⟨_, rfl, CYes.mk hi eD (small1000 (by rw [List.length_map]; omega)) ⟨sm.upd hD, upd_same, ?_⟩⟩
      rw [hf, List.map_append]
      rfl
    | false =>
      rw [hc] at hf
      refine iteF (CNext.mk (zs := ((zs.take i).filter fun z => ns.contains z).map V.str) hi ⟨sm, eD, ?_⟩)
      rw [hf]
      simp
  · obtain ⟨sm, eD, rfl⟩ := h
    rw [hzl, List.take_length] at eD
    exact q D H' sm hD eD
theorem ok_refuse_counts_tables (F : Fun K "refuse_counts" "refuse_counts" s_refuse_counts_tables f fd) (bl : Bl K mg cTableError cUnlike cRing cWay cFirst cOnly cLike cLow cHigh cSum cDomain cNumbers cWords cTable cBook)  : FnOk P w K mg base CX0 1 f fd ["names", "rows"] (sp_refuse_counts_tables K cTableError cUnlike cRing cWay cFirst cOnly cLike cLow cHigh cSum cDomain cNumbers cWords cTable cBook) := by
  refine F.ok sc_refuse_counts_tables (fun vs H Q E h => ?_) (fun cdv A outer s H vs Q E hr h => ?_)
  · obtain ⟨p, r, xs, ys, rfl, hP, hR, h1, h4, h200, q⟩ := h
    rfl
  obtain ⟨p, r, xs, ys, rfl, hP, hR, h1, h4, h200, q⟩ := h
  refine ⟨_, (pss_cons (ps_if (pt_not (pt_chain op_le op_le pe_int (pe_callB call_len_seq rfl bl.len_ PySem.boot_len (pa_cons (pv 0) pa_nil)) (pe_gl rfl bl.MOST_COLUMNS_)))
     (pss_one ps_never)
     pss_nil)
     (pss_one (ps_if (pt_cmpR op_gt (pe_callB call_len_seq rfl bl.len_ PySem.boot_len (pa_cons (pv 1) pa_nil)) (pe_gl rfl bl.MOST_ROWS_) (nomark _))
     (pss_one ps_never)
     pss_nil))), ?_⟩
  refine ⟨_, rfl, p, _, rfl, .inl (hP), _, _, rfl, rfl, _, rfl, iteTS (by omega) ?_⟩
  refine ⟨_, _, rfl, rfl, _, rfl, ?_⟩
  rw [decide_eq_true (show ((xs.length : Nat) : Int) ≤ 4 by omega)]
  refine iteF ?_
  exact ⟨_, rfl, r, _, rfl, .inl (hR), _, _, rfl, rfl, _, rfl, iteFS (by omega) q⟩
theorem ok_own_row (F : Fun K "own_row" "own_row" s_own_row f fd) (bl : Bl K mg cTableError cUnlike cRing cWay cFirst cOnly cLike cLow cHigh cSum cDomain cNumbers cWords cTable cBook)  : FnOk P w K mg base CX0 1 f fd ["cells", "code"] (sp_own_row K cTableError cUnlike cRing cWay cFirst cOnly cLike cLow cHigh cSum cDomain cNumbers cWords cTable cBook) := by
  refine F.ok sc_own_row (fun vs H Q E h => ?_) (fun cdv A outer s H vs Q E hr h => ?_)
  · obtain ⟨cl, xs, w_, rfl, hC, hcl, h100, q⟩ := h
    rfl
  obtain ⟨cl, xs, w_, rfl, hC, hcl, h100, q⟩ := h
  refine ⟨_, (pss_one (ps_ret (pe_tup (pa_cons (pe_comp (pi_list (pv 0)) (cmpOk_plain rfl (by decide +kernel) (by decide +kernel) (by decide +kernel) rfl) rfl (fun _ _ _ _ => pif_nil) (fun _ _ _ _ => (pe_callTy (call_list_ofK (K := K) rfl) rfl bl.list_ PyProof.Rows.boot_list (pa_cons (pv 0) pa_nil)))) (pa_cons (pv 1) pa_nil))))), ?_⟩
  refine ⟨_, rfl, cl, rfl, ⟨_, SqL.of hC⟩, comp_list (xs := xs) (fun D i zs H' => Same H H' ∧ H' D = some (.lst zs) ∧ CL (Fr H D) H' zs (w_.1.take i))
    (fun D hD => ⟨same_new hD _, upd_same, RefL.nil⟩) (fun D i zs H' hD _ h => SqL.of (h.1 _ _ hC)) (fun D i x zs H' hD e h => ?_) (fun D zs H' hD h => ?_)⟩
  · obtain ⟨sm, eD, hz⟩ := h
    obtain ⟨l, ps, rfl, ep, hl⟩ := RefL.get hcl e
    obtain ⟨_, ys, el, hp⟩ := hl.same sm
    have hi : i < xs.length := (List.getElem?_eq_some_iff.mp e).1
    have hlz : zs.length < sizeLine := by
      have h1 := hz.1
      rw [List.length_take] at h1
      exact small1000 (by omega)
    refine ⟨_, rfl, l, _, rfl, .inl (SqL.of el), fun l2 hl2 => ?_⟩
    have s2 := same_new hl2 (.lst ys)
    have e2 : upd H' l2 (.lst ys) l2 = some (.lst ys) := upd_same
    have eD2 := s2 _ _ eD
    generalize upd H' l2 (.lst ys) = H2 at s2 e2 eD2 ⊢
    have n2 : H l2 = none := sm.free hl2
    have nD : l2 ≠ D := fun z => by rw [z, eD] at hl2; cases hl2
    refine CYes.mk hi eD2 hlz ⟨(sm.trans s2).upd hD, upd_same, ?_⟩
    rw [take_snoc ep]
    exact CL.updN (RefL.snoc (hz.same s2) ⟨⟨n2, nD⟩, ys, e2, hp.mono s2.tups⟩) Fr.out eD2
  · obtain ⟨sm, eD, hz⟩ := h
    rw [hcl.1, List.take_length] at hz
    refine ⟨_, rfl, small2, fun r hr' => q r _ (sm.trans (same_new hr' _)) (sm.free hr') ⟨D, zs, upd_same, hD, same_new hr' _ _ _ eD, ?_⟩⟩
    exact (hz.same (same_new hr' _)).wk fun a h => h.1
theorem ok_law_at (F : Fun K "_law_at" "_law_at" s_law_at f fd) (bl : Bl K mg cTableError cUnlike cRing cWay cFirst cOnly cLike cLow cHigh cSum cDomain cNumbers cWords cTable cBook)  : FnOk P w K mg base CX0 1 f fd ["script", "k"] (sp_law_at K cTableError cUnlike cRing cWay cFirst cOnly cLike cLow cHigh cSum cDomain cNumbers cWords cTable cBook) := by
  refine F.ok sc_law_at (fun vs H Q E h => ?_) (fun cdv A outer s H vs Q E hr h => ?_)
  · obtain ⟨a, ns, k, rfl, hS, h0, q⟩ := h
    rfl
  obtain ⟨a, ns, k, rfl, hS, h0, q⟩ := h
  refine ⟨_, (pss_cons (ps_if (pt_cmpR op_lt (pv 1) (pe_callB call_len_seq rfl bl.len_ PySem.boot_len (pa_cons (pv 0) pa_nil)) (nomark _))
     (pss_one (ps_ret (pe_ix ix_list (pv 0) (pv 1) (fun _ _ => rfl))))
     pss_nil)
     (pss_one (ps_ret pe_int))), ?_⟩
  refine ⟨_, rfl, _, rfl, a, _, rfl, .inl hS, _, _, rfl, rfl, _, rfl, ?_⟩
  refine ite2 (fun c => ?_) (fun c => ?_)
  · have c' : k < (((ns.map V.int).length : Nat) : Int) := dec_t c
    rw [List.length_map] at c'
    have hk : k.toNat < ns.length := by omega
    have hv : atI (ns.map V.int) k = some (.int ns[k.toNat]) := by
      have z : atI (ns.map V.int) ((k.toNat : Nat) : Int) = some (.int ns[k.toNat]) := atI_nat (by rw [List.getElem?_map, List.getElem?_eq_getElem hk]; rfl)
      rw [show ((k.toNat : Nat) : Int) = k by omega] at z
      exact z
    exact ⟨_, rfl, _, rfl, a, _, _, _, rfl, rfl, hS, hv, q _⟩
  · exact q 0
theorem ok_law_folded (F : Fun K "_law_folded" "_law_folded" s_law_folded f fd) (bl : Bl K mg cTableError cUnlike cRing cWay cFirst cOnly cLike cLow cHigh cSum cDomain cNumbers cWords cTable cBook)  : FnOk P w K mg base CX0 1 f fd ["script", "most"] (sp_law_folded K cTableError cUnlike cRing cWay cFirst cOnly cLike cLow cHigh cSum cDomain cNumbers cWords cTable cBook) := by
  refine F.ok sc_law_folded (fun vs H Q E h => ?_) (fun cdv A outer s H vs Q E hr h => ?_)
  · obtain ⟨a, ns, m, rfl, hS, h63, hm1, hm2, q⟩ := h
    rfl
  obtain ⟨a, ns, m, rfl, hS, h63, hm1, hm2, q⟩ := h
  refine ⟨_, (pss_cut (ps_comp (i := 2) sc_law_folded.nd rfl (Or.inl rfl) (pi_range1 rfl bl.range_ (pa_cons (pv 1) pa_nil)) (cmpOk_plain rfl (by decide +kernel) (by decide +kernel) (by decide +kernel) rfl) rfl (fun _ _ _ _ => pif_nil) (fun _ _ _ _ => pe_int))
     (pss_cons (ps_for PassesOwn.never rfl (pi_range2 rfl bl.range_ (pa_cons pe_int (pa_cons (pe_callB call_len_seq rfl bl.len_ PySem.boot_len (pa_cons (pv 0) pa_nil)) pa_nil))) (pg_name (i := 3) sc_law_folded.nd rfl (Or.inl rfl))
     (pss_cons (ps_set (i := 4) sc_law_folded.nd rfl (Or.inl rfl) (pe_op op_add (pe_op op_mul (pe_ix ix_list (pv 2) (pe_op op_mod (pv 3) (pv 1)) (fun _ _ => rfl)) pe_int) (pe_op op_mod (pe_ix ix_list (pv 0) (pv 3) (fun _ _ => rfl)) (pe_op op_pow pe_int pe_int))))
     (pss_one (ps_asg (pe_op op_mod (pv 4) (pe_op op_pow pe_int pe_int)) (pg_sub (pv 2) (pe_op op_mod (pv 3) (pv 1)) set_list)))))
     (pss_one (ps_ret (pv 2))))), ?_⟩
  have hnl : (ns.map V.int).length = ns.length := List.length_map _
  refine ⟨fun σ' H' => Same H H' ∧ ∃ l : Addr, H l = none ∧ H' l = some (.lst ((List.replicate m (0 : Int)).map V.int)) ∧ σ' = [some (.ref a), some (.int (m : Int)), some (.ref l), none, none], ?_, ?_⟩
  · refine ⟨_, rfl, _, rfl, (by omega), (by omega), comp_range (fun D i zs H' => Same H H' ∧ H' D = some (.lst zs) ∧ zs = (List.replicate i (0 : Int)).map V.int) (fun D hD => ⟨same_new hD _, upd_same, rfl⟩) (fun D i zs H' hD hi h => ?_) (fun D zs H' hD h => ?_)⟩
    · obtain ⟨sm, eD, rfl⟩ := h
      rw [Int.toNat_natCast] at hi
      refine CYes.mk (by rw [Int.toNat_natCast]; exact hi) eD (small1000 (by simp; omega)) ⟨sm.upd hD, upd_same, ?_⟩
      rw [List.replicate_succ', List.map_append]
      rfl
    · obtain ⟨sm, eD, rfl⟩ := h
      rw [Int.toNat_natCast] at eD
      exact ⟨sm, D, hD, eD, rfl⟩
  rintro σ1 H1 ⟨s1, l, nl, el, rfl⟩
  refine ⟨_, rfl, a, _, rfl, .inl (s1.seq hS), _, _, rfl, ⟨by omega, by omega, by omega, by omega⟩, for_range (fun i σ H' => Same H H' ∧ ∃ (ms : List Int) (c3 c4 : Option V), H' l = some (.lst (ms.map V.int)) ∧ ms.length = m ∧ (∀ x ∈ ms, 0 ≤ x) ∧ σ = [some (.ref a), some (.int (m : Int)), some (.ref l), c3, c4]) ⟨s1, _, _, _, el, by simp, by simp, rfl⟩ (fun i σ H' hi h => ?_) (fun σ H' h => ?_)⟩
  · obtain ⟨sm, ms, c3, c4, el2, hl, hnn, rfl⟩ := h
    have hmp : (0 : Int) < (m : Int) := by omega
    have j0 := Int.emod_nonneg (1 + (i : Int)) (Int.ne_of_gt hmp)
    have j1 := Int.emod_lt_of_pos (1 + (i : Int)) hmp
    obtain ⟨x, ex⟩ : ∃ x, ms[((1 + (i : Int)) % (m : Int)).toNat]? = some x := ⟨_, List.getElem?_eq_getElem (by omega)⟩
    have ix : atI (ms.map V.int) ((1 + (i : Int)) % (m : Int)) = some (.int x) := by
      have := atI_nat (get_map ex)
      rw [Int.toNat_of_nonneg j0] at this
      exact this
    have hi2 : i + 1 < ns.length := by omega
    have ix2 : atI (ns.map V.int) (1 + (i : Int)) = some (.int ns[i + 1]) := by
      have := atI_nat (get_map (List.getElem?_eq_getElem hi2))
      rw [show ((i + 1 : Nat) : Int) = 1 + (i : Int) by omega] at this
      exact this
    refine ⟨_, rfl, _, rfl, _, rfl, _, _, rfl, rfl, hmp, l, _, _, _, rfl, rfl, SqL.of el2, ix, _, _, rfl, rfl, .inr ⟨by decide, by decide⟩, _, rfl, _, rfl, a, _, _, _, rfl, rfl, sm.seq hS, ix2, _, _, rfl, rfl, ⟨by decide, by decide, by decide⟩, _, _, rfl, rfl, p10 _, _, _, rfl, rfl, ?_⟩
    refine ⟨_, rfl, _, _, rfl, rfl, ⟨by decide, by decide, by decide⟩, _, _, rfl, rfl, p10 _, _, rfl, _, rfl, _, rfl, _, _, rfl, rfl, hmp, l, _, _, ((1 + (i : Int)) % (m : Int)).toNat, rfl, rfl, el2, ?_, ?_⟩
    · unfold ixN
      rw [if_pos j0, if_pos (by rw [List.length_map]; omega)]
    · refine ⟨sm.upd nl, ms.set ((1 + (i : Int)) % (m : Int)).toNat _, _, _, by rw [upd_same, List.map_set], by rw [List.length_set]; exact hl, (fun x hx => (List.mem_or_eq_of_mem_set hx).elim (hnn x) fun z => by rw [z]; exact emod10 _ _), rfl⟩
  · obtain ⟨sm, ms, c3, c4, el2, hl, hnn, rfl⟩ := h
    exact ⟨_, rfl, q l ms H' sm nl el2 hl hnn⟩
theorem ok_law_asked (F : Fun K "_law_asked" "_law_asked" s_law_asked f fd) (bl : Bl K mg cTableError cUnlike cRing cWay cFirst cOnly cLike cLow cHigh cSum cDomain cNumbers cWords cTable cBook)  : FnOk P w K mg base CX0 1 f fd ["number", "k", "most", "mode"] (sp_law_asked K cTableError cUnlike cRing cWay cFirst cOnly cLike cLow cHigh cSum cDomain cNumbers cWords cTable cBook) := by
  refine F.ok sc_law_asked (fun vs H Q E h => ?_) (fun cdv A outer s H vs Q E hr h => ?_)
  · obtain ⟨x, k, m, md, rfl, hx0, hm1, hm2, q⟩ := h
    rfl
  obtain ⟨x, k, m, md, rfl, hx0, hm1, hm2, q⟩ := h
  refine ⟨_, (pss_cut (ps_set (i := 4) sc_law_asked.nd rfl (Or.inl rfl) (pe_or (pe_cmpR op_eq (pv 3) pe_int (nomark _)) (pe_one (pe_and (pe_cmpR op_eq (pv 3) pe_int (nomark _)) (pe_one (pe_cmpR op_eq (pe_op op_mod (pe_op op_fdiv (pe_op op_fdiv (pv 0) (pv 2)) (pv 2)) pe_int) pe_int (nomark _)))))))
     (pss_cons (ps_set (i := 5) sc_law_asked.nd rfl (Or.inl rfl) (pe_lst pa_nil))
     (pss_cons (ps_for PassesOwn.never rfl (pi_range1 rfl bl.range_ (pa_cons pe_int pa_nil)) (pg_name (i := 6) sc_law_asked.nd rfl (Or.inl rfl))
     (pss_cons (ps_set (i := 7) sc_law_asked.nd rfl (Or.inl rfl) (pe_op op_mod (pv 0) (pv 2)))
     (pss_cons (ps_set (i := 0) sc_law_asked.nd rfl (Or.inl rfl) (pe_op op_fdiv (pv 0) (pv 2)))
     (pss_one (ps_if (PW.pt (pw_and (pt_cmpR op_ne (pv 7) (pv 1) (nomark _)) (pw_and (pt_cmpR op_notIn_seq (pv 7) (pv 5) (by with_unfolding_all rfl)) (pw_and1 (PW.pt (pw_or (pt_cmpR op_lt (pv 7) (pv 1) (nomark _)) (pw_or1 (pt_val (pv 4)))))))))
     (pss_one (ps_expr (pe_bm PySem.F.plainAttrs_list PySem.F.slot_list_append PySem.F.type_list_append mt_append (pv 5) (pa_cons (pv 7) pa_nil))))
     pss_nil)))))
     (pss_one (ps_ret (pv 5)))))), ?_⟩
  have hmp : (0 : Int) < (m : Int) := by omega
  have hms : (m : Int) < 1073741824 := by omega
  refine ⟨fun σ' H' => H' = H ∧ ∃ b : Bool, σ' = [some (.int x), some (.int (k : Int)), some (.int (m : Int)), some (.int md), some (.bl b), none, none, none], ?_, ?_⟩
  · exact ⟨_, rfl, rfl, _, rfl, ite2 (fun _ => ⟨rfl, true, rfl⟩) (fun _ => ⟨_, rfl, rfl, _, rfl, ite2 (fun _ => ⟨_, rfl, _, rfl, _, _, rfl, rfl, ⟨hmp, hms⟩, _, rfl, _, _, rfl, rfl, ⟨hmp, hms⟩, _, _, rfl, rfl, (by show (0 : Int) < 5; decide), rfl, rfl, _, rfl⟩) (fun _ => ⟨rfl, false, rfl⟩)⟩)⟩
  rintro σ1 H1 ⟨rfl, lo, rfl⟩
  refine ⟨(by show 0 ≤ sizeLine; decide), fun l hl => ?_⟩
  have s0 : Same H1 (upd H1 l (.lst [])) := same_new hl _
  have e0 : upd H1 l (.lst []) l = some (.lst (vN [])) := upd_same
  generalize upd H1 l (.lst []) = H0 at s0 e0 ⊢
  refine ⟨3, rfl, by decide, by decide, for_range (fun i σ H' => Same H1 H' ∧ ∃ (y : Int) (js : List Nat) (c6 c7 : Option V), 0 ≤ y ∧ H' l = some (.lst (vN js)) ∧ js.Nodup ∧ (∀ j ∈ js, j < m ∧ j ≠ k) ∧ js.length ≤ i ∧ σ = [some (.int y), some (.int (k : Int)), some (.int (m : Int)), some (.int md), some (.bl lo), some (.ref l), c6, c7]) ⟨s0, x, [], _, _, hx0, e0, List.nodup_nil, (fun j hj => by cases hj), Nat.le_refl _, rfl⟩ (fun i σ H' hi h => ?_) (fun σ H' h => ?_)⟩
  · obtain ⟨sm, y, js, c6, c7, hy0, el, hnd, hlt, hlen, rfl⟩ := h
    have hi : i < 3 := hi
    have j0 := Int.emod_nonneg y (Int.ne_of_gt hmp)
    have j1 := Int.emod_lt_of_pos y hmp
    obtain ⟨t, et⟩ : ∃ t : Nat, y % (m : Int) = (t : Int) := ⟨(y % (m : Int)).toNat, by omega⟩
    have d0 : 0 ≤ y / (m : Int) := Int.ediv_nonneg hy0 (by omega)
    refine ⟨_, rfl, _, rfl, _, _, rfl, rfl, hmp, _, rfl, _, rfl, _, _, rfl, rfl, ⟨hmp, hms⟩, ?_⟩
    refine ⟨_, rfl, _, rfl, rfl, _, rfl, ite2 (fun g1 => ?_) (fun g1 => iteF ?_)⟩
    · have g1 : t ≠ k := fun z => by
        have g1 : (!decide (V.int (y % (m : Int)) = V.int (k : Int))) = true := g1
        rw [et, z, decide_eq_true rfl] at g1
        cases g1
      refine ⟨_, rfl, _, rfl, l, _, rfl, .inl (SqL.of el), rfl, flat_vN js, _, rfl, ite2 (fun g2 => ?_) (fun g2 => iteF ?_)⟩
      · have g2 : t ∉ js := fun hm => by
          have : inV (.int (y % (m : Int))) (vN js) = true := by rw [et, inV_vN]; simpa using hm
          rw [if_pos rfl, this] at g2
          cases g2
        have app : upd H' l (.lst (vN js ++ [V.int (y % (m : Int))])) l = some (.lst (vN (js ++ [t]))) := by
          rw [upd_same, et]
          unfold vN
          rw [List.map_append]
          rfl
        have nd2 : (js ++ [t]).Nodup := List.nodup_append.mpr ⟨hnd, by simp, fun a ha b hb e => g2 (by rw [← List.mem_singleton.mp hb, ← e]; exact ha)⟩
        have lt2 : ∀ j ∈ js ++ [t], j < m ∧ j ≠ k := fun j hj => by
          rcases List.mem_append.mp hj with hj | hj
          · exact hlt j hj
          · rw [List.mem_singleton.mp hj]; exact ⟨by omega, g1⟩
        have le2 : (js ++ [t]).length ≤ i + 1 := by rw [List.length_append]; show _ + 1 ≤ _; omega
        refine ⟨_, rfl, _, rfl, _, _, rfl, rfl, _, rfl, ite2 (fun g3 => iteT ?_) (fun g3 => ⟨_, rfl, _, rfl, ite2 (fun g4 => ?_) (fun g4 => ?_)⟩)⟩
        · exact ⟨_, rfl, .inl ⟨rfl, _, SqL.of el⟩, _, rfl, l, _, _, rfl, rfl, el, small1000 (by rw [vN_len]; omega), sm.upd hl, _, js ++ [t], _, _, d0, app, nd2, lt2, le2, rfl⟩
        · exact ⟨_, rfl, .inl ⟨rfl, _, SqL.of el⟩, _, rfl, l, _, _, rfl, rfl, el, small1000 (by rw [vN_len]; omega), sm.upd hl, _, js ++ [t], _, _, d0, app, nd2, lt2, le2, rfl⟩
        · exact ⟨sm, _, js, _, _, d0, el, hnd, hlt, by omega, rfl⟩
      · exact ⟨sm, _, js, _, _, d0, el, hnd, hlt, by omega, rfl⟩
    · exact ⟨sm, _, js, _, _, d0, el, hnd, hlt, by omega, rfl⟩
  · obtain ⟨sm, y, js, c6, c7, hy0, el, hnd, hlt, hlen, rfl⟩ := h
    have hlen : js.length ≤ 3 := hlen
    exact ⟨_, rfl, q l js H' sm hl el hnd hlt hlen⟩
theorem ok_law_names (F : Fun K "_law_names" "_law_names" s_law_names f fd) (bl : Bl K mg cTableError cUnlike cRing cWay cFirst cOnly cLike cLow cHigh cSum cDomain cNumbers cWords cTable cBook)  : FnOk P w K mg base CX0 1 f fd ["most"] (sp_law_names K cTableError cUnlike cRing cWay cFirst cOnly cLike cLow cHigh cSum cDomain cNumbers cWords cTable cBook) := by
  refine F.ok sc_law_names (fun vs H Q E h => ?_) (fun cdv A outer s H vs Q E hr h => ?_)
  · obtain ⟨m, rfl, hm, q⟩ := h
    rfl
  obtain ⟨m, rfl, hm, q⟩ := h
  refine ⟨_, (pss_cons (ps_set (i := 1) sc_law_names.nd rfl (Or.inr rfl) pe_str)
     (pss_one (ps_ret (pe_comp (pi_range1 rfl bl.range_ (pa_cons (pv 0) pa_nil)) (cmpOk_free (N := ["k", "letters"]) (fr := [1]) (cl := [("letters", s.heap.objs.size + 1)]) rfl rfl (by decide +kernel) (by decide +kernel) rfl (by decide +kernel) rfl rfl rfl (List.forall_mem_cons.mpr ⟨rfl, List.forall_mem_nil _⟩) rfl) rfl (fun _ _ _ _ => pif_nil) (fun _ _ _ _ => (pe_op op_add_str (pe_op op_add_str (pe_ix (ix_listK (K := K) rfl) (pe_lst (pa_cons pe_str (pa_cons pe_str (pa_cons pe_str pa_nil)))) (pe_op op_mod (pv 0) pe_int) (fun _ _ => rfl)) (pe_ix ix_str (pv 1) (pv 0) (fun _ _ => rfl))) (pe_ix (ix_listK (K := K) rfl) (pe_lst (pa_cons pe_str (pa_cons pe_str (pa_cons pe_str pa_nil)))) (pe_op op_fdiv (pv 0) pe_int) (fun _ _ => rfl)))))))), ?_⟩
  refine ⟨_, rfl, _, rfl, (by omega), (by omega), comp_range (fun D i zs H' => Same H H' ∧ H' D = some (.lst zs) ∧ zs = (nms i).map V.str) (fun D hD => ⟨same_new hD _, upd_same, rfl⟩) (fun D i zs H' hD hi h => ?_) (fun D zs H' hD h => ?_)⟩
  · obtain ⟨sm, eD, rfl⟩ := h
    rw [Int.toNat_natCast] at hi
    have hi12 : i < 12 := by omega
    obtain ⟨n1, n2⟩ := nm_len i hi12
    have ix1 : atI [V.str (Str.ofString "x"), V.str (Str.ofString ""), V.str (Str.ofString "xx")] ((0 + (i : Int)) % 3) = some (.str (nmA.getD (i % 3) Str.empty)) := strs_at (xs := nmA) (show i % 3 < 3 by omega) (by omega)
    have ix3 : atI [V.str (Str.ofString ""), V.str (Str.ofString "b"), V.str (Str.ofString "by")] ((0 + (i : Int)) / 4) = some (.str (nmB.getD (i / 4) Str.empty)) := strs_at (xs := nmB) (show i / 4 < 3 by omega) (by omega)
    have ix2 : atI (Str.ofString "qwertyuiopas").cps.toList (0 + (i : Int)) = some ((Str.ofString "qwertyuiopas").cps.toList.getD i 0) := by
      have hl : (Str.ofString "qwertyuiopas").cps.toList.length = 12 := by decide +kernel
      rw [Int.zero_add, List.getD_eq_getElem?_getD, List.getElem?_eq_getElem (by omega)]
      exact atI_nat (List.getElem?_eq_getElem (by omega))
    refine ⟨(by show 3 ≤ sizeLine; decide), fun l1 hl1 => ?_⟩
    have s1 := same_new hl1 (.lst [V.str (Str.ofString "x"), V.str (Str.ofString ""), V.str (Str.ofString "xx")])
    have e1 : upd H' l1 (.lst [V.str (Str.ofString "x"), V.str (Str.ofString ""), V.str (Str.ofString "xx")]) l1 = some (.lst [V.str (Str.ofString "x"), V.str (Str.ofString ""), V.str (Str.ofString "xx")]) := upd_same
    refine ⟨_, rfl, _, _, rfl, rfl, (by show (0 : Int) < 3; decide), l1, _, _, _, rfl, rfl, SqL.of e1, ix1, _, rfl, _, rfl, _, _, _, rfl, rfl, (by decide), ix2, _, _, rfl, rfl, big n1, (by show 3 ≤ sizeLine; decide), fun l2 hl2 => ?_⟩
    have s2 := same_new hl2 (.lst [V.str (Str.ofString ""), V.str (Str.ofString "b"), V.str (Str.ofString "by")])
    have e2 : ∀ X : Hp, upd X l2 (.lst [V.str (Str.ofString ""), V.str (Str.ofString "b"), V.str (Str.ofString "by")]) l2 = some (.lst [V.str (Str.ofString ""), V.str (Str.ofString "b"), V.str (Str.ofString "by")]) := fun X => upd_same
    refine ⟨_, rfl, _, _, rfl, rfl, ⟨by decide, by decide⟩, l2, _, _, _, rfl, rfl, SqL.of (e2 _), ix3, _, _, rfl, rfl, big n2, ?_⟩
    have sA := s1.trans s2
    refine CYes.mk (by rw [Int.toNat_natCast]; exact hi) (sA _ _ eD) (small1000 (by unfold nms; simp; omega)) ⟨(sm.trans sA).upd hD, upd_same, ?_⟩
    unfold nms
    rw [List.range_succ, List.map_append, List.map_append]
    rfl
  · obtain ⟨sm, eD, rfl⟩ := h
    rw [Int.toNat_natCast] at eD
    exact q D H' sm hD eD
theorem ok_law_ring (F : Fun K "_law_ring" "_law_ring" s_law_ring f fd) (bl : Bl K mg cTableError cUnlike cRing cWay cFirst cOnly cLike cLow cHigh cSum cDomain cNumbers cWords cTable cBook)  : FnOk P w K mg base CX0 1 f fd ["asked"] (sp_law_ring K cTableError cUnlike cRing cWay cFirst cOnly cLike cLow cHigh cSum cDomain cNumbers cWords cTable cBook) := by
  refine F.ok sc_law_ring (fun vs H Q E h => ?_) (fun cdv A outer s H vs Q E hr h => ?_)
  · obtain ⟨a, av, aks, rfl, ea, hav, h12, hjs, q⟩ := h
    rfl
  obtain ⟨a, av, aks, rfl, ea, hav, h12, hjs, q⟩ := h
  refine ⟨_, (pss_cut (ps_set (i := 1) sc_law_ring.nd rfl (Or.inr rfl) (pe_callB call_len_seq rfl bl.len_ PySem.boot_len (pa_cons (pv 0) pa_nil)))
     (pss_cut (ps_set (i := 2) sc_law_ring.nd rfl (Or.inr rfl) (pe_compN (pi_range1 rfl bl.range_ (pa_cons (pv 1) pa_nil)) (cmpOkN_mk (N := ["k", "asked", "most"]) (k := 1) (fr := [0, 1]) (cl := [("most", s.heap.objs.size + 1 + 1), ("asked", s.heap.objs.size + 1)]) rfl rfl (by decide +kernel) rfl ⟨⟨_, _, rfl, rfl, rfl, rfl, rfl, fun _ => rfl⟩, ⟨⟨_, _, rfl, rfl, rfl, rfl, rfl, fun _ => rfl⟩, trivial⟩⟩ (List.forall_mem_cons.mpr ⟨rfl, List.forall_mem_cons.mpr ⟨rfl, List.forall_mem_nil _⟩⟩) (fun _ => rfl)) rfl (fun _ C1 _ _ => (pg_name (i := 0) (show (["k", "asked", "most"] : List Str).Nodup by decide +kernel) rfl (Or.inr rfl) (Or.inl rfl))) (fun _ C1 _ _ => pif_nil) (fun _ C1 _ _ => (pe_compG (pi_range1 rfl bl.range_ (pa_cons (pv 2) pa_nil)) (cmpOkG_free (N := ["j", "k", "asked"]) (k := 1) (fr := [0, 1]) (cl := [("k", C1 + 1), ("asked", s.heap.objs.size + 1)]) rfl rfl (by decide +kernel) (by decide +kernel) rfl rfl (List.forall_mem_cons.mpr ⟨rfl, List.forall_mem_cons.mpr ⟨rfl, List.forall_mem_nil _⟩⟩) rfl) rfl (fun _ C2 _ _ => (pg_name (i := 0) (show (["j", "k", "asked"] : List Str).Nodup by decide +kernel) rfl (Or.inl rfl) (Or.inr rfl))) (fun _ C2 _ _ => pif_nil) (fun _ C2 _ _ => (pe_cmpR (op_in_seqK (K := K) rfl) (pv 0) (pe_ix (ix_listK (K := K) rfl) (pv 2) (pv 1) (fun _ _ => rfl)) (by with_unfolding_all rfl)))))))
     (pss_cut (ps_for PassesOwn.never rfl (pi_range1 rfl bl.range_ (pa_cons (pv 1) pa_nil)) (pg_name (i := 3) sc_law_ring.nd rfl (Or.inl rfl))
     (pss_one (ps_for PassesOwn.never rfl (pi_range1 rfl bl.range_ (pa_cons (pv 1) pa_nil)) (pg_name (i := 4) sc_law_ring.nd rfl (Or.inl rfl))
     (pss_one (ps_for PassesOwn.never rfl (pi_range1 rfl bl.range_ (pa_cons (pv 1) pa_nil)) (pg_name (i := 5) sc_law_ring.nd rfl (Or.inl rfl))
     (pss_one (ps_if (PW.pt (pw_and (pt_val (pe_ix ix_list (pe_ix ix_list (pv 2) (pv 4) (fun _ _ => rfl)) (pv 3) (fun _ _ => rfl))) (pw_and1 (pt_val (pe_ix ix_list (pe_ix ix_list (pv 2) (pv 3) (fun _ _ => rfl)) (pv 5) (fun _ _ => rfl))))))
     (pss_one (ps_asg pe_bl (pg_sub (pe_ix ix_list (pv 2) (pv 4) (fun _ _ => rfl)) (pv 5) set_list)))
     pss_nil)))))))
     (pss_one (ps_ret (pe_cmpR op_gt (pe_callB call_len_seq rfl bl.len_ PySem.boot_len (pa_cons (pe_comp (pi_range1 rfl bl.range_ (pa_cons (pv 1) pa_nil)) (cmpOk_free (N := ["k", "reached"]) (fr := [2]) (cl := [("reached", s.heap.objs.size + 1 + 1 + 1)]) rfl rfl (by decide +kernel) (by decide +kernel) rfl (by decide +kernel) rfl rfl rfl (List.forall_mem_cons.mpr ⟨rfl, List.forall_mem_nil _⟩) rfl) rfl (fun _ _ _ _ => (pif_one (pt_val (pe_ix (ix_listK (K := K) rfl) (pe_ix (ix_listK (K := K) rfl) (pv 1) (pv 0) (fun _ _ => rfl)) (pv 0) (fun _ _ => rfl))))) (fun _ _ _ _ => (pv 0))) pa_nil)) pe_int (nomark _))))))), ?_⟩
  have hal : av.length = aks.length := hav.1
  refine ⟨fun σ' H' => H' = H ∧ σ' = [some (.ref a), some (.int ((av.length : Nat) : Int)), none, none, none, none], ⟨_, rfl, a, _, rfl, .inl (SqL.of ea), rfl, rfl⟩, ?_⟩
  rintro σ1 H1 ⟨rfl, rfl⟩
  generalize hm : av.length = m at *
  refine ⟨fun σ' H' => Same H1 H' ∧ ∃ (re : Addr) (rv : List V), H1 re = none ∧ H' re = some (.lst rv) ∧ rv.Nodup ∧ RefL rv (mat0 aks m m) (MA (Fr H1 re) H') ∧ σ' = [some (.ref a), some (.int (m : Int)), some (.ref re), none, none, none], ?_, ?_⟩
  · refine ⟨_, rfl, _, rfl, (by omega), (by omega), compG_range (fun D i ys H' => Same H1 H' ∧ H' D = some (.lst ys) ∧ ys.Nodup ∧ RefL ys (mat0 aks m i) (MA (Fr H1 D) H')) (fun D hD => ⟨same_new hD _, upd_same, List.nodup_nil, RefL.nil⟩) (fun D i ys H' hD hi h ts_ hts => ?_) (fun D ys H' hD h => ?_)⟩
    · obtain ⟨sm, eD, hnd, hy⟩ := h
      rw [Int.toNat_natCast] at hi
      obtain ⟨v0, rfl⟩ : ∃ v0, ts_ = [v0] := by
        match ts_, hts with
        | [v0], _ => exact ⟨v0, rfl⟩
      have eak := List.getElem?_eq_getElem (l := aks) (i := i) (by omega)
      generalize aks[i] = ak at eak
      have egd : aks.getD i [] = ak := by rw [List.getD_eq_getElem?_getD, eak]; rfl
      obtain ⟨ra, era, _, hra⟩ := hav.2 i ak eak
      have hyl : ys.length = i := by rw [hy.1]; unfold mat0; rw [List.length_map, List.length_range]
      refine ⟨⟨[some (.int (0 + (i : Int)))], rfl, rfl⟩, _, rfl, _, rfl, (by omega), (by omega), compG_range (fun D2 j ws H4 => Same H' H4 ∧ H4 D2 = some (.lst ws) ∧ ws = ((List.range j).map fun j => (aks.getD i []).contains j).map V.bl) (fun D2 hD2 => ⟨same_new hD2 _, upd_same, rfl⟩) (fun D2 j ws H4 hD2 hj h ts2 hts2 => ?_) (fun D2 ws H4 hD2 h => ?_)⟩
      · obtain ⟨s4, eD2, rfl⟩ := h
        rw [Int.toNat_natCast] at hj
        obtain ⟨v1, rfl⟩ : ∃ v1, ts2 = [v1] := by
          match ts2, hts2 with
          | [v1], _ => exact ⟨v1, rfl⟩
        have sA := sm.trans s4
        have ev : (if false = true then !inV (.int (0 + (j : Int))) (vN ak) else inV (.int (0 + (j : Int))) (vN ak)) = ak.contains j := by rw [if_neg Bool.false_ne_true, Int.zero_add, inV_vN]
        refine ⟨⟨[some (.int (0 + (j : Int)))], rfl, rfl⟩, _, rfl, _, rfl, _, rfl, a, _, _, _, rfl, rfl, SqL.of (sA _ _ ea), (by rw [Int.zero_add]; exact atI_nat era), ra, _, rfl, .inl (SqL.of (sA _ _ hra)), rfl, flat_vN ak, CYes.mk (by rw [Int.toNat_natCast]; exact hj) eD2 (small1000 (by rw [List.length_map, List.length_map, List.length_range]; omega)) ⟨s4.upd hD2, upd_same, ?_⟩⟩
        rw [ev, List.range_succ, List.map_append, List.map_append, egd]
        rfl
      · obtain ⟨s4, eD2, rfl⟩ := h
        rw [Int.toNat_natCast] at eD2
        have eD4 := s4 _ _ eD
        have nD2 : D2 ≠ D := fun z => by rw [z, eD] at hD2; cases hD2
        have nin : V.ref D2 ∉ ys := fun hm2 => by
          obtain ⟨j, ej⟩ := List.getElem?_of_mem hm2
          obtain ⟨r, row, er, _, _, f1⟩ := RefL.get hy ej
          cases er
          rw [hD2] at f1
          cases f1
        refine CYes.mk (by rw [Int.toNat_natCast]; exact hi) eD4 (small1000 (by omega)) ⟨(sm.trans s4).upd hD, upd_same, ?_, ?_⟩
        · exact List.nodup_append.mpr ⟨hnd, by simp, fun x hx y hy2 e => nin (by rw [← List.mem_singleton.mp hy2, ← e]; exact hx)⟩
        · unfold mat0
          rw [List.range_succ, List.map_append]
          have hz : RefL (ys ++ [.ref D2]) ((List.range i).map (rw0 aks m) ++ [rw0 aks m i]) (MA (Fr H1 D) H4) := RefL.snoc (RefL.mono hy fun _ _ p => ⟨p.1, s4 _ _ p.2⟩) ⟨⟨sm.free hD2, nD2⟩, eD2⟩
          exact RefL.mono hz fun r _ p => ⟨p.1, (upd_ne p.1.2).trans p.2⟩
    · obtain ⟨sm, eD, hnd, hy⟩ := h
      rw [Int.toNat_natCast] at hy
      exact ⟨sm, D, ys, hD, eD, hnd, hy, rfl⟩
  rintro σ2 H2 ⟨s2, re, rv, nre, ere, hnd, hrv, rfl⟩
  refine ⟨fun σ' H' => Same H1 H' ∧ H' re = some (.lst rv) ∧ ∃ (M : List (List Bool)) (c3 c4 c5 : Option V), RefL rv M (MA (Fr H1 re) H') ∧ Wsh (fun k => aks.getD k []) m m M ∧ σ' = [some (.ref a), some (.int (m : Int)), some (.ref re), c3, c4, c5], ?_, ?_⟩
  · refine ⟨_, rfl, _, rfl, (by omega), (by omega), for_range (fun i σ H' => Same H1 H' ∧ H' re = some (.lst rv) ∧ ∃ (M : List (List Bool)) (c3 c4 c5 : Option V), RefL rv M (MA (Fr H1 re) H') ∧ Wsh (fun k => aks.getD k []) m i M ∧ σ = [some (.ref a), some (.int (m : Int)), some (.ref re), c3, c4, c5]) ⟨s2, ere, _, _, _, _, hrv, mat0_wsh aks m, rfl⟩ (fun i σ H' hi h => ?_) (fun σ H' h => by rw [Int.toNat_natCast] at h; exact h)⟩
    obtain ⟨sm, ere1, M, c3, c4, c5, hM, hW, rfl⟩ := h
    rw [Int.toNat_natCast] at hi
    rw [show (0 : Int) + (i : Int) = (i : Int) by omega]
    refine ⟨_, rfl, _, rfl, (by omega), (by omega), for_range (fun kk σ H' => Same H1 H' ∧ H' re = some (.lst rv) ∧ ∃ (M : List (List Bool)) (c4 c5 : Option V), RefL rv M (MA (Fr H1 re) H') ∧ WshI (fun k => aks.getD k []) m i kk 0 M ∧ σ = [some (.ref a), some (.int (m : Int)), some (.ref re), some (.int (i : Int)), c4, c5]) ⟨sm, ere1, M, _, _, hM, hW.start, rfl⟩ (fun kk σ H' hkk h => ?_) (fun σ H' h => ?_)⟩
    · clear sm ere1 hM hW M c4 c5
      obtain ⟨sm, ere1, M, c4, c5, hM, hW, rfl⟩ := h
      rw [Int.toNat_natCast] at hkk
      rw [show (0 : Int) + (kk : Int) = (kk : Int) by omega]
      refine ⟨_, rfl, _, rfl, (by omega), (by omega), for_range (fun jj σ H' => Same H1 H' ∧ H' re = some (.lst rv) ∧ ∃ (M : List (List Bool)) (c5 : Option V), RefL rv M (MA (Fr H1 re) H') ∧ WshI (fun k => aks.getD k []) m i kk jj M ∧ σ = [some (.ref a), some (.int (m : Int)), some (.ref re), some (.int (i : Int)), some (.int (kk : Int)), c5]) ⟨sm, ere1, M, _, hM, hW, rfl⟩ (fun jj σ H' hjj h => ?_) (fun σ H' h => ?_)⟩
      · clear sm ere1 hM hW M c5
        obtain ⟨sm, ere1, M, c5, hM, hW, rfl⟩ := h
        rw [Int.toNat_natCast] at hjj
        rw [show (0 : Int) + (jj : Int) = (jj : Int) by omega]
        obtain ⟨row, ek, hrl, _⟩ := hW.w.sq.at hkk
        obtain ⟨rk, erk, nrk, hrk⟩ := hM.2 kk row ek
        obtain ⟨row2, ei, hrl2, _⟩ := hW.w.sq.at hi
        obtain ⟨ri, eri, nri, hri⟩ := hM.2 i row2 ei
        have eb1 := List.getElem?_eq_getElem (l := row) (i := i) (by omega)
        generalize row[i] = b1 at eb1
        have eb2 := List.getElem?_eq_getElem (l := row2) (i := jj) (by omega)
        generalize row2[jj] = b2 at eb2
        have g1 := mget_at ek eb1
        have g2 := mget_at ei eb2
        refine ⟨_, rfl, _, rfl, re, _, _, _, rfl, rfl, SqL.of ere1, atI_nat erk, _, rfl, rk, _, _, _, rfl, rfl, SqL.of hrk, atI_nat (j := i) (by rw [List.getElem?_map, eb1]; rfl), _, rfl, ?_⟩
        cases b1 with
        | false => exact iteF (iteF ⟨sm, ere1, M, _, hM, hW.no hi hkk hjj (fun h => by rw [g1] at h; cases h.1), rfl⟩)
        | true =>
          refine iteT ⟨_, rfl, _, rfl, re, _, _, _, rfl, rfl, SqL.of ere1, atI_nat eri, _, rfl, ri, _, _, _, rfl, rfl, SqL.of hri, atI_nat (j := jj) (by rw [List.getElem?_map, eb2]; rfl), _, rfl, ?_⟩
          cases b2 with
          | false => exact iteF ⟨sm, ere1, M, _, hM, hW.no hi hkk hjj (fun h => by rw [g2] at h; cases h.2), rfl⟩
          | true =>
            refine iteT ⟨_, rfl, _, rfl, re, _, _, _, rfl, rfl, SqL.of ere1, atI_nat erk, _, rfl, rk, _, _, jj, rfl, rfl, hrk, ?_, sm.upd nrk.1, (upd_ne (Ne.symm nrk.2)).trans ere1, mset M kk jj, _, rows_set hM hnd hW.w.sq ek erk, hW.yes hkk hjj g1 g2, rfl⟩
            unfold ixN
            rw [if_pos (by omega), if_pos (by rw [List.length_map]; omega)]
            rfl
      · obtain ⟨sm, ere1, M, c5, hM, hW, rfl⟩ := h
        rw [Int.toNat_natCast] at hW
        exact ⟨sm, ere1, M, _, _, hM, hW.row, rfl⟩
    · obtain ⟨sm, ere1, M, c4, c5, hM, hW, rfl⟩ := h
      rw [Int.toNat_natCast] at hW
      exact ⟨sm, ere1, M, _, _, _, hM, hW.stop, rfl⟩
  rintro σ3 H3 ⟨s3, ere3, M, c3, c4, c5, hM, hW, rfl⟩
  refine ⟨_, rfl, _, rfl, (by omega), (by omega), comp_range (fun D i ys H' => Same H3 H' ∧ H' D = some (.lst ys) ∧ ys = vN ((List.range i).filter fun k => mget M k k)) (fun D hD => ⟨same_new hD _, upd_same, rfl⟩) (fun D i ys H' hD hi h => ?_) (fun D ys H' hD h => ?_)⟩
  · obtain ⟨sm, eD, rfl⟩ := h
    rw [Int.toNat_natCast] at hi
    obtain ⟨row, ek, hrl, _⟩ := hW.sq.at hi
    obtain ⟨rk, erk, nrk, hrk⟩ := hM.2 i row ek
    have eb1 := List.getElem?_eq_getElem (l := row) (i := i) (by omega)
    generalize row[i] = b1 at eb1
    have g1 := mget_at ek eb1
    have hf := List.length_filter_le (fun k => mget M k k) (List.range i)
    rw [List.length_range] at hf
    refine ⟨_, rfl, _, rfl, re, _, _, _, rfl, rfl, SqL.of (sm _ _ ere3), (by rw [Int.zero_add]; exact atI_nat erk), _, rfl, rk, _, _, _, rfl, rfl, SqL.of (sm _ _ hrk), (by rw [Int.zero_add]; exact atI_nat (j := i) (by rw [List.getElem?_map, eb1]; rfl)), _, rfl, ?_⟩
    cases b1 with
    | true =>
      refine iteT ⟨_, rfl, CYes.mk (by rw [Int.toNat_natCast]; exact hi) eD (small1000 (by rw [vN_len]; omega)) ⟨sm.upd hD, upd_same, ?_⟩⟩
      rw [List.range_succ, List.filter_append, List.filter_cons_of_pos (p := fun k => mget M k k) g1, List.filter_nil, ← vN_app, Int.zero_add]
      rfl
    | false =>
      refine iteF (CNext.mk (zs := _) (by rw [Int.toNat_natCast]; exact hi) ⟨sm, eD, ?_⟩)
      rw [List.range_succ, List.filter_append, List.filter_cons_of_neg (p := fun k => mget M k k) (by rw [g1]; exact Bool.false_ne_true), List.filter_nil, List.append_nil]
  · obtain ⟨sm, eD, rfl⟩ := h
    rw [Int.toNat_natCast] at eD
    refine ⟨D, _, rfl, .inl (SqL.of eD), _, _, rfl, rfl, q _ H' (s3.trans sm) ?_⟩
    rw [decide_eq_true_iff, vN_len]
    have hcy := hW.cyc fun k j hj => by
      have hk : k < aks.length := by
        cases e : aks[k]? with
        | none =>
          have hj : j ∈ aks.getD k [] := hj
          rw [List.getD_eq_getElem?_getD, e] at hj
          cases hj
        | some js => exact (List.getElem?_eq_some_iff.mp e).1
      have ek := List.getElem?_eq_getElem hk
      have hj : j ∈ aks.getD k [] := hj
      rw [List.getD_eq_getElem?_getD, ek] at hj
      have := hjs k _ ek j hj
      exact ⟨by omega, by omega⟩
    rw [← hcy]
    constructor
    · intro h
      have hne : (List.range m).filter (fun k => mget M k k) ≠ [] := fun z => by rw [z] at h; exact absurd h (by decide)
      obtain ⟨k, hk⟩ := List.exists_mem_of_ne_nil _ hne
      obtain ⟨h1, h2⟩ := List.mem_filter.mp hk
      exact ⟨k, List.mem_range.mp h1, h2⟩
    · rintro ⟨k, hk, e⟩
      have : k ∈ (List.range m).filter fun k => mget M k k := List.mem_filter.mpr ⟨List.mem_range.mpr hk, e⟩
      have := List.length_pos_of_mem this
      omega
theorem ok_Domain___init___Numbers (F : Fun K "__init__" "Domain.__init__" s_Domain___init___Numbers f fd) (bl : Bl K mg cTableError cUnlike cRing cWay cFirst cOnly cLike cLow cHigh cSum cDomain cNumbers cWords cTable cBook)  : FnOk P w K mg base CX0 1 f fd ["self", "low", "high"] (sp_Domain___init___Numbers K cTableError cUnlike cRing cWay cFirst cOnly cLike cLow cHigh cSum cDomain cNumbers cWords cTable cBook) := by
  refine F.ok sc_Domain___init___Numbers (fun vs H Q E h => ?_) (fun cdv A outer s H vs Q E hr h => ?_)
  · obtain ⟨x, dx, lo, hi, rfl, hx, q⟩ := h
    rfl
  obtain ⟨x, dx, lo, hi, rfl, hx, q⟩ := h
  refine ⟨_, (pss_cons (ps_fld (pv 0) (pv 1) rfl)
     (pss_one (ps_fld (pv 0) (pv 2) rfl))), ?_⟩
  refine ⟨_, rfl, _, rfl, x, _, dx, _, rfl, hx, bl.k_Numbers, bl.na_Numbers_low, (by show 0 < 1000; decide), _, rfl, _, rfl, x, _, dx, _, rfl, upd_same, bl.k_Numbers, bl.na_Numbers_high, (by show 1 < 1000; decide), ?_⟩
  show Q .non (upd (upd H x (.ins cNumbers dx [("low", .int lo)])) x (.ins cNumbers dx (putF "high" (.int hi) [("low", .int lo)])))
  rw [put2]
  exact q
theorem ok_Way___init___First (F : Fun K "__init__" "Way.__init__" s_Way___init___First f fd) (bl : Bl K mg cTableError cUnlike cRing cWay cFirst cOnly cLike cLow cHigh cSum cDomain cNumbers cWords cTable cBook)  : FnOk P w K mg base CX0 1 f fd ["self", "called"] (sp_Way___init___First K cTableError cUnlike cRing cWay cFirst cOnly cLike cLow cHigh cSum cDomain cNumbers cWords cTable cBook) := by
  refine F.ok sc_Way___init___First (fun vs H Q E h => ?_) (fun cdv A outer s H vs Q E hr h => ?_)
  · obtain ⟨x, dx, z, rfl, hx, q⟩ := h
    rfl
  obtain ⟨x, dx, z, rfl, hx, q⟩ := h
  refine ⟨_, (pss_one (ps_fld (pv 0) (pv 1) rfl)), ?_⟩
  exact ⟨_, rfl, _, rfl, x, _, dx, _, rfl, hx, bl.k_First, bl.na_First_called, (by show 0 < 1000; decide), q⟩
theorem ok_Way___init___Only (F : Fun K "__init__" "Way.__init__" s_Way___init___Only f fd) (bl : Bl K mg cTableError cUnlike cRing cWay cFirst cOnly cLike cLow cHigh cSum cDomain cNumbers cWords cTable cBook)  : FnOk P w K mg base CX0 1 f fd ["self", "called"] (sp_Way___init___Only K cTableError cUnlike cRing cWay cFirst cOnly cLike cLow cHigh cSum cDomain cNumbers cWords cTable cBook) := by
  refine F.ok sc_Way___init___Only (fun vs H Q E h => ?_) (fun cdv A outer s H vs Q E hr h => ?_)
  · obtain ⟨x, dx, z, rfl, hx, q⟩ := h
    rfl
  obtain ⟨x, dx, z, rfl, hx, q⟩ := h
  refine ⟨_, (pss_one (ps_fld (pv 0) (pv 1) rfl)), ?_⟩
  exact ⟨_, rfl, _, rfl, x, _, dx, _, rfl, hx, bl.k_Only, bl.na_Only_called, (by show 0 < 1000; decide), q⟩
theorem ok_Way___init___Like (F : Fun K "__init__" "Way.__init__" s_Way___init___Like f fd) (bl : Bl K mg cTableError cUnlike cRing cWay cFirst cOnly cLike cLow cHigh cSum cDomain cNumbers cWords cTable cBook)  : FnOk P w K mg base CX0 1 f fd ["self", "called"] (sp_Way___init___Like K cTableError cUnlike cRing cWay cFirst cOnly cLike cLow cHigh cSum cDomain cNumbers cWords cTable cBook) := by
  refine F.ok sc_Way___init___Like (fun vs H Q E h => ?_) (fun cdv A outer s H vs Q E hr h => ?_)
  · obtain ⟨x, dx, z, rfl, hx, q⟩ := h
    rfl
  obtain ⟨x, dx, z, rfl, hx, q⟩ := h
  refine ⟨_, (pss_one (ps_fld (pv 0) (pv 1) rfl)), ?_⟩
  exact ⟨_, rfl, _, rfl, x, _, dx, _, rfl, hx, bl.k_Like, bl.na_Like_called, (by show 0 < 1000; decide), q⟩
theorem ok_Way___init___Low (F : Fun K "__init__" "Way.__init__" s_Way___init___Low f fd) (bl : Bl K mg cTableError cUnlike cRing cWay cFirst cOnly cLike cLow cHigh cSum cDomain cNumbers cWords cTable cBook)  : FnOk P w K mg base CX0 1 f fd ["self", "called"] (sp_Way___init___Low K cTableError cUnlike cRing cWay cFirst cOnly cLike cLow cHigh cSum cDomain cNumbers cWords cTable cBook) := by
  refine F.ok sc_Way___init___Low (fun vs H Q E h => ?_) (fun cdv A outer s H vs Q E hr h => ?_)
  · obtain ⟨x, dx, z, rfl, hx, q⟩ := h
    rfl
  obtain ⟨x, dx, z, rfl, hx, q⟩ := h
  refine ⟨_, (pss_one (ps_fld (pv 0) (pv 1) rfl)), ?_⟩
  exact ⟨_, rfl, _, rfl, x, _, dx, _, rfl, hx, bl.k_Low, bl.na_Low_called, (by show 0 < 1000; decide), q⟩
theorem ok_Way___init___High (F : Fun K "__init__" "Way.__init__" s_Way___init___High f fd) (bl : Bl K mg cTableError cUnlike cRing cWay cFirst cOnly cLike cLow cHigh cSum cDomain cNumbers cWords cTable cBook)  : FnOk P w K mg base CX0 1 f fd ["self", "called"] (sp_Way___init___High K cTableError cUnlike cRing cWay cFirst cOnly cLike cLow cHigh cSum cDomain cNumbers cWords cTable cBook) := by
  refine F.ok sc_Way___init___High (fun vs H Q E h => ?_) (fun cdv A outer s H vs Q E hr h => ?_)
  · obtain ⟨x, dx, z, rfl, hx, q⟩ := h
    rfl
  obtain ⟨x, dx, z, rfl, hx, q⟩ := h
  refine ⟨_, (pss_one (ps_fld (pv 0) (pv 1) rfl)), ?_⟩
  exact ⟨_, rfl, _, rfl, x, _, dx, _, rfl, hx, bl.k_High, bl.na_High_called, (by show 0 < 1000; decide), q⟩
theorem ok_Way___init___Sum (F : Fun K "__init__" "Way.__init__" s_Way___init___Sum f fd) (bl : Bl K mg cTableError cUnlike cRing cWay cFirst cOnly cLike cLow cHigh cSum cDomain cNumbers cWords cTable cBook)  : FnOk P w K mg base CX0 1 f fd ["self", "called"] (sp_Way___init___Sum K cTableError cUnlike cRing cWay cFirst cOnly cLike cLow cHigh cSum cDomain cNumbers cWords cTable cBook) := by
  refine F.ok sc_Way___init___Sum (fun vs H Q E h => ?_) (fun cdv A outer s H vs Q E hr h => ?_)
  · obtain ⟨x, dx, z, rfl, hx, q⟩ := h
    rfl
  obtain ⟨x, dx, z, rfl, hx, q⟩ := h
  refine ⟨_, (pss_one (ps_fld (pv 0) (pv 1) rfl)), ?_⟩
  exact ⟨_, rfl, _, rfl, x, _, dx, _, rfl, hx, bl.k_Sum, bl.na_Sum_called, (by show 0 < 1000; decide), q⟩
theorem ok_is_word (F : Fun K "is_word" "is_word" s_is_word f fd) (bl : Bl K mg cTableError cUnlike cRing cWay cFirst cOnly cLike cLow cHigh cSum cDomain cNumbers cWords cTable cBook) (c_all_among : Callee P w K mg base 1 "all_among" ["text", "signs"] (sp_all_among K cTableError cUnlike cRing cWay cFirst cOnly cLike cLow cHigh cSum cDomain cNumbers cWords cTable cBook)) : FnOk P w K mg base CX0 2 f fd ["text"] (sp_is_word K cTableError cUnlike cRing cWay cFirst cOnly cLike cLow cHigh cSum cDomain cNumbers cWords cTable cBook) := by
  refine F.ok sc_is_word (fun vs H Q E h => ?_) (fun cdv A outer s H vs Q E hr h => ?_)
  · obtain ⟨z, rfl, hz, q⟩ := h
    rfl
  obtain ⟨z, rfl, hz, q⟩ := h
  refine ⟨_, (pss_one (ps_ret (pe_and (pe_chain op_le op_le pe_int (pe_callB call_len_str rfl bl.len_ PySem.boot_len (pa_cons (pv 0) pa_nil)) (pe_gl rfl bl.MOST_SIGNS_)) (pe_and (pe_cmpR op_ne (pv 0) pe_str (nomark _)) (pe_one (pe_fn c_all_among hr rfl (pa_cons (pv 0) (pa_cons (pe_gl rfl bl.SMALL_LETTERS_) pa_nil)))))))), ?_⟩
  refine ⟨_, rfl, _, rfl, big hz, _, _, rfl, rfl, _, rfl, ?_⟩
  refine ite2 (fun g1 => ?_) (fun g1 => ?_)
  · refine ⟨_, _, rfl, rfl, _, rfl, ?_⟩
    refine ite2 (fun g2 => ?_) (fun g2 => ?_)
    · refine ⟨_, rfl, rfl, _, rfl, ?_⟩
      refine ite2 (fun g3 => ?_) (fun g3 => ?_)
      · refine ⟨_, rfl, z, lets, rfl, ?_⟩
        have e : isw z = allIn z lets := by unfold isw; rw [g1, g2, g3]; rfl
        rw [e] at q; exact q
      · have e : isw z = false := by unfold isw; rw [Bool.eq_false_iff.mpr g3, Bool.false_and, Bool.and_false, Bool.and_false]
        rw [e] at q; exact q
    · have e : isw z = false := by unfold isw; rw [Bool.eq_false_iff.mpr g2, Bool.false_and, Bool.and_false]
      rw [e] at q; exact q
  · have e : isw z = false := by unfold isw; rw [Bool.eq_false_iff.mpr g1, Bool.false_and]
    rw [e] at q; exact ⟨_, rfl, iteF q⟩
theorem ok_refuse_domains (F : Fun K "refuse_domains" "refuse_domains" s_refuse_domains f fd) (bl : Bl K mg cTableError cUnlike cRing cWay cFirst cOnly cLike cLow cHigh cSum cDomain cNumbers cWords cTable cBook) (c_alike : Callee P w K mg base 1 "alike" ["one", "other"] (sp_alike K cTableError cUnlike cRing cWay cFirst cOnly cLike cLow cHigh cSum cDomain cNumbers cWords cTable cBook)) : FnOk P w K mg base CX0 2 f fd ["facts", "tables"] (sp_refuse_domains K cTableError cUnlike cRing cWay cFirst cOnly cLike cLow cHigh cSum cDomain cNumbers cWords cTable cBook) := by
  refine F.ok sc_refuse_domains (fun vs H Q E h => ?_) (fun cdv A outer s H vs Q E hr h => ?_)
  · obtain ⟨fa, ma, fv, mv, zs, ds, ts, fN, L, rfl, efa, ema, hB, q⟩ := h
    rfl
  obtain ⟨fa, ma, fv, mv, zs, ds, ts, fN, L, rfl, efa, ema, hB, q⟩ := h
  refine ⟨_, (pss_cut (ps_set (i := 2) sc_refuse_domains.nd rfl (Or.inl rfl) (pe_callTy (call_dictP rfl) rfl bl.dict_ PyProof.Rows.boot_dict (pa_cons (pe_op op_cat (pv 0) (pe_comp (pi_list (pv 1)) (cmpOk_plain rfl (by decide +kernel) (by decide +kernel) (by decide +kernel) rfl) rfl (fun _ _ _ _ => pif_nil) (fun _ _ _ _ => (pe_tup (pa_cons (pe_fldK (K := K) rfl (pv 0) rfl) (pa_cons (pe_fldK (K := K) rfl (pv 0) rfl) pa_nil)))))) pa_nil)))
     (pss_one (ps_for PassesOwn.never rfl (pi_list (pv 1)) (pg_name (i := 3) sc_refuse_domains.nd rfl (Or.inl rfl))
     (pss_one (ps_for PassesOwn.never rfl (pi_zip rfl bl.zip_ (pa_cons (pe_fld (pv 3) rfl) (pa_cons (pe_fld (pv 3) rfl) pa_nil))) (pg_tup rfl (pgs_cons (pg_name (i := 4) sc_refuse_domains.nd rfl (Or.inl rfl)) (pgs_cons (pg_name (i := 5) sc_refuse_domains.nd rfl (Or.inl rfl)) pgs_nil)))
     (pss_one (ps_if (pt_not (pt_val (pe_fn c_alike hr rfl (pa_cons (pv 5) (pa_cons (pe_ix ix_dict (pv 2) (pv 4) (fun _ _ => rfl)) pa_nil)))))
     (pss_one ps_never)
     pss_nil))))))), ?_⟩
  obtain ⟨b1, b2, b3⟩ := hB.few
  have hfl : fv.length = fN := by rw [hB.facts.1, List.length_range]
  have hml : mv.length = L.length := hB.tabs.1
  have hzd := hB.ok.len
  refine ⟨fun σ' H' => Same H H' ∧ ∃ (da : Addr) (kvs : List (Str × V)), H' da = some (.dK (kvT kvs)) ∧ DueA cNumbers cWords H' zs ds kvs ∧ σ' = [some (.ref fa), some (.ref ma), some (.ref da), none, none, none], ?_, ?_⟩
  · refine ⟨_, rfl, _, rfl, ma, rfl, ⟨_, SqL.of ema⟩, comp_list (xs := mv) (fun D i ys H' => Same H H' ∧ H' D = some (.lst ys) ∧ ys.length = i ∧ ∀ (j k : Nat), j < i → L[j]? = some k → ∃ (t : Addr) (po : PD) (d : Addr), ys[j]? = some (.ref t) ∧ ds[fN + k]? = some po ∧ H' t = some (.tup [.str (tnm zs fN k), .ref d]) ∧ DomD cNumbers cWords H d po.k) (fun D hD => ⟨same_new hD _, upd_same, rfl, fun j k hj => by omega⟩) (fun D i ys H' hD _ h => SqL.of (h.1 _ _ ema)) (fun D i y ys H' hD e h => ?_) (fun D ys H' hD h => ?_)⟩
    · obtain ⟨sm, eD, hl, hy⟩ := h
      obtain ⟨t_, k, rfl, ek, tt, nm, po, ou, dv, g1, g2, g3, g4, g5, g6⟩ := RefL.get hB.tabs e
      obtain ⟨rl, dx, na, dl, fs, xs, ht, f1, f2, f3, f4, f5, f6, ena, edl, erl, hR, h200⟩ := g4
      have hi : i < mv.length := (List.getElem?_eq_some_iff.mp e).1
      refine ⟨_, rfl, t_, _, _, _, _, rfl, sm _ _ ht, bl.k_Table, bl.na_Table_name, f2, _, rfl, t_, _, _, _, _, rfl, sm _ _ ht, bl.k_Table, bl.na_Table_outcome, f4, small2, fun p hp => ?_⟩
      have u := same_new hp (.tup [.str nm, .ref ou])
      have ep : upd H' p (.tup [.str nm, .ref ou]) p = some (.tup [.str nm, .ref ou]) := upd_same
      generalize upd H' p (.tup [.str nm, .ref ou]) = H2 at u ep ⊢
      have eD2 := u _ _ eD
      refine CYes.mk hi eD2 (small1000 (by omega)) ⟨(sm.trans u).upd hD, upd_same, by rw [List.length_append, hl]; rfl, fun j k' hj ek' => ?_⟩
      by_cases hji : j < i
      · obtain ⟨t, po', d, h1, h2, h3, h4⟩ := hy j k' hji ek'
        have h3' := u _ _ h3
        exact ⟨t, po', d, by rw [List.getElem?_append_left (by omega)]; exact h1, h2, (upd_ne (ne_of h3' eD2 (by intro z; cases z))).trans h3', h4⟩
      · have hj2 : j = i := by omega
        subst hj2
        rw [ek] at ek'
        cases ek'
        refine ⟨p, po, ou, by rw [List.getElem?_append_right (by omega), hl, Nat.sub_self]; rfl, g3, ?_, g6⟩
        rw [tnm_at g2]
        exact (upd_ne (ne_of ep eD2 (by intro z; cases z))).trans ep
    · obtain ⟨sm, eD, hl, hy⟩ := h
      rw [hml] at hl
      refine ⟨fa, D, _, _, rfl, rfl, sm _ _ efa, eD, Nat.le_of_lt (small1000 (by omega)), fun p hp => ?_⟩
      have u := same_new hp (.lst (fv ++ ys))
      have ep : upd H' p (.lst (fv ++ ys)) p = some (.lst (fv ++ ys)) := upd_same
      generalize upd H' p (.lst (fv ++ ys)) = H2 at u ep ⊢
      have s2 := sm.trans u
      obtain ⟨kvs, hkl, hkv⟩ := list_of (P := fun j (a : Str × V) => ∃ (t : Addr) (d : Addr) (po : PD), (fv ++ ys)[j]? = some (.ref t) ∧ H2 t = some (.tup [.str a.1, .ref d]) ∧ a.2 = .ref d ∧ (bnm zs fN L)[j]? = some a.1 ∧ DomD cNumbers cWords H2 d po.k ∧ ∀ (i : Nat), zs[i]? = some a.1 → ds[i]? = some po) (fN + L.length) fun j hj => by
        by_cases hjf : j < fN
        · obtain ⟨r, er, nm, po, d, h1, h2, h3, h4⟩ := hB.facts.2 j j (List.getElem?_range hjf)
          refine ⟨(nm, .ref d), r, d, po, by rw [List.getElem?_append_left (by omega)]; exact er, s2 _ _ h3, rfl, ?_, h4.same s2, fun i ei => ?_⟩
          · unfold bnm
            rw [List.getElem?_append_left (by rw [List.length_take]; omega), List.getElem?_take, if_pos hjf]
            exact h1
          · rw [nd_ix hB.ok.nd ei h1]; exact h2
        · have hjl : j - fN < L.length := by omega
          have ek := List.getElem?_eq_getElem hjl
          obtain ⟨t, po, d, h1, h2, h3, h4⟩ := hy (j - fN) _ (by omega) ek
          have htn := hB.tn (List.mem_of_getElem? ek)
          refine ⟨(tnm zs fN L[j - fN], .ref d), t, d, po, by rw [List.getElem?_append_right (by omega), hfl]; exact h1, u _ _ h3, rfl, ?_, h4.same s2, fun i ei => ?_⟩
          · unfold bnm
            rw [List.getElem?_append_right (by rw [List.length_take]; omega), List.length_take, show j - min fN zs.length = j - fN by omega, List.getElem?_map, ek]
            rfl
          · rw [nd_ix hB.ok.nd ei htn]; exact h2
      have hkeys : kvs.map (·.1) = bnm zs fN L := by
        refine List.ext_getElem? fun j => ?_
        rw [List.getElem?_map]
        cases e : kvs[j]? with
        | none =>
          have hlj : kvs.length ≤ j := by rw [List.getElem?_eq_none_iff] at e; exact e
          rw [List.getElem?_eq_none (by unfold bnm; rw [List.length_append, List.length_take, List.length_map]; omega)]
          rfl
        | some a =>
          obtain ⟨t, d, po, _, _, _, e4, _⟩ := hkv j a e
          rw [e4]; rfl
      refine ⟨p, fv ++ ys, kvs, rfl, ep, by rw [List.length_append, hkl]; omega, fun j a ea => ?_, by rw [hkeys]; exact hB.bnd_, fun da hda => ?_⟩
      · obtain ⟨t, d, po, e1, e2, e3, _⟩ := hkv j a ea
        exact ⟨t, e1, by rw [e3]; exact e2⟩
      · have u2 := same_new hda (.dK (kvT kvs))
        refine ⟨s2.trans u2, da, kvs, upd_same, fun j z po ez ed => ?_, rfl⟩
        have hm := hB.has (List.mem_of_getElem? ez)
        rw [← hkeys] at hm
        obtain ⟨a, ha, rfl⟩ := List.mem_map.mp hm
        obtain ⟨i, ei⟩ := List.getElem?_of_mem ha
        obtain ⟨t, d, po', e1, e2, e3, e4, e5, e6⟩ := hkv i a ei
        have := e6 j ez
        rw [ed] at this
        cases this
        refine ⟨d, ?_, e5.same u2⟩
        rw [← e3]
        exact look_at (by rw [hkeys]; exact hB.bnd_) ei
  rintro σ1 H1 ⟨s1, da, kvs, eda, hdue, rfl⟩
  refine ⟨_, rfl, ma, rfl, ⟨_, SqL.of (s1 _ _ ema)⟩, for_list (xs := mv) (fun i σ H' => Same H1 H' ∧ ∃ c3 c4 c5 : Option V, σ = [some (.ref fa), some (.ref ma), some (.ref da), c3, c4, c5]) ⟨Same.refl _, _, _, _, rfl⟩ (fun i σ H' _ h => SqL.of (h.1 _ _ (s1 _ _ ema))) (fun i y σ H' e h => ?_) (fun σ H' h => q H' (s1.trans h.1))⟩
  obtain ⟨sm, c3, c4, c5, rfl⟩ := h
  obtain ⟨t_, k, rfl, ek, tt, nm, po, ou, dv, g1, g2, g3, g4, g5, g6⟩ := RefL.get hB.tabs e
  obtain ⟨rl, dx, na, dl, fs, xs, ht, f1, f2, f3, f4, f5, f6, ena, edl, erl, hR, h200⟩ := g4
  have sA := s1.trans sm
  have hlt := hB.ok.lt g1
  have ltz : ∀ j ∈ tt.cols, j < zs.length := fun j hj => by rw [hzd]; exact hlt j hj
  have gz := prm_get (os := tt.cols) (xs := zs) ltz
  have gk := prm_get (os := tt.cols) (xs := ds.map PD.k) fun j hj => by rw [List.length_map]; exact hlt j hj
  refine ⟨_, rfl, t_, _, _, _, _, rfl, sA _ _ ht, bl.k_Table, bl.na_Table_names, f5, _, rfl, t_, _, _, _, _, rfl, sA _ _ ht, bl.k_Table, bl.na_Table_domains, f6, na, dl, rfl, ⟨_, SqL.of (sA _ _ ena)⟩, ⟨_, SqL.of (sA _ _ edl)⟩, for_zip (xs := (prm tt.cols zs).map V.str) (ys := dv) (fun i σ H2 => Same H' H2 ∧ ∃ c4 c5 : Option V, σ = [some (.ref fa), some (.ref ma), some (.ref da), some (.ref t_), c4, c5]) ⟨Same.refl _, _, _, rfl⟩ (fun i σ H2 h => ⟨SqL.of ((sA.trans h.1) _ _ ena), SqL.of ((sA.trans h.1) _ _ edl)⟩) (fun i x y σ H2 T ex ey h hT => ?_) (fun σ H2 h => ⟨sm.trans h.1, let ⟨c4, c5, e⟩ := h.2; ⟨_, c4, c5, e⟩⟩)⟩
  obtain ⟨s2, d4, d5, rfl⟩ := h
  obtain ⟨z, rfl, ez⟩ := get_strs ex
  obtain ⟨a, kk, rfl, ekk, ha⟩ := RefL.get g5 ey
  have hi : i < tt.cols.length := by rw [← gz.1]; exact (List.getElem?_eq_some_iff.mp ez).1
  have ec := List.getElem?_eq_getElem hi
  rw [gz.2 i _ ec] at ez
  rw [gk.2 i _ ec, List.getElem?_map] at ekk
  obtain ⟨p, ep⟩ : ∃ p, ds[tt.cols[i]]? = some p := ⟨_, List.getElem?_eq_getElem (hlt _ (List.mem_of_getElem? ec))⟩
  rw [ep] at ekk
  cases ekk
  obtain ⟨d, hd1, hd2⟩ := hdue _ z p ez ep
  have u := same_new hT (.tup [.str z, .ref a])
  have eT : upd H2 T (.tup [.str z, .ref a]) T = some (.tup [.str z, .ref a]) := upd_same
  generalize upd H2 T (.tup [.str z, .ref a]) = H3 at u eT ⊢
  have sB := (sm.trans s2).trans u
  refine ⟨T, _, rfl, SqT.of eT, rfl, _, _, rfl, _, _, rfl, rfl, ?_⟩
  exact ⟨_, rfl, _, rfl, _, rfl, da, kvs, z, .ref d, rfl, rfl, sB _ _ eda, hd1, a, d, p.k, rfl, (ha.same s1).same sB, hd2.same sB, _, rfl, iteF ⟨s2.trans u, _, _, rfl⟩⟩
theorem ok_refuse_rings (F : Fun K "refuse_rings" "refuse_rings" s_refuse_rings f fd) (bl : Bl K mg cTableError cUnlike cRing cWay cFirst cOnly cLike cLow cHigh cSum cDomain cNumbers cWords cTable cBook) (c_named_among : Callee P w K mg base 1 "named_among" ["table", "names"] (sp_named_among K cTableError cUnlike cRing cWay cFirst cOnly cLike cLow cHigh cSum cDomain cNumbers cWords cTable cBook)) : FnOk P w K mg base (CX1 P w) 2 f fd ["tables"] (sp_refuse_rings K cTableError cUnlike cRing cWay cFirst cOnly cLike cLow cHigh cSum cDomain cNumbers cWords cTable cBook) := by
  refine F.okE sc_refuse_rings (fun vs H Q E h => ?_) (fun cdv A outer s H vs Q E hr h => ?_)
  · obtain ⟨ma, mv, zs, ds, ts, fN, L, rfl, ema, ok, hm, hlt, h7, hcy0, q, qE⟩ := h
    rfl
  obtain ⟨ma, mv, zs, ds, ts, fN, L, rfl, ema, ok, hm, hlt, h7, hcy0, q, qE⟩ := h
  refine ⟨_, (pss_cons (ps_set (i := 1) sc_refuse_rings.nd rfl (Or.inl rfl) (pv 0))
     (pss_one (ps_while (passes_XE rfl rfl rfl) (pt_truth (pv 1) (by intro _; rfl))
     (pss_cut (ps_set (i := 2) sc_refuse_rings.nd rfl (Or.inr rfl) (pe_comp (pi_list (pv 1)) (cmpOk_plain rfl (by decide +kernel) (by decide +kernel) (by decide +kernel) rfl) rfl (fun _ _ _ _ => pif_nil) (fun _ _ _ _ => (pe_fldK (K := K) rfl (pv 0) rfl))))
     (pss_cut (ps_comp (i := 3) sc_refuse_rings.nd rfl (Or.inl rfl) (pi_list (pv 1)) (cmpOk_free (N := ["table", "names"]) (fr := [2]) (cl := [("names", s.heap.objs.size + 1)]) rfl rfl (by decide +kernel) (by decide +kernel) rfl (by decide +kernel) rfl rfl rfl (List.forall_mem_cons.mpr ⟨rfl, List.forall_mem_nil _⟩) rfl) rfl (fun _ _ _ _ => (pif_one (pt_truthK (K := K) rfl (pe_fn c_named_among hr rfl (pa_cons (pv 0) (pa_cons (pv 1) pa_nil)))))) (fun _ _ _ _ => (pv 0)))
     (pss_cons (ps_if (pt_cmpR op_eq (pe_callB call_len_seq rfl bl.len_ PySem.boot_len (pa_cons (pv 3) pa_nil)) (pe_callB call_len_seq rfl bl.len_ PySem.boot_len (pa_cons (pv 1) pa_nil)) (nomark _))
     (pss_one (ps_raiseE bl.x_Ring hr.hd rfl bl.Ring_ (pa_cons pe_str pa_nil)))
     pss_nil)
     (pss_one (ps_set (i := 1) sc_refuse_rings.nd rfl (Or.inl rfl) (pv 3))))))))), ?_⟩
  refine ⟨_, rfl, ?_⟩
  refine ⟨fun m σ H' => Same H H' ∧ ∃ (la : Addr) (lv : List V) (L' : List Nat) (c2 c3 : Option V), H' la = some (.lst lv) ∧ RefL lv L' (TbA cTable cNumbers cWords H zs ds ts fN) ∧ (∀ k ∈ L', k < ts.length) ∧ L'.length = m ∧ m ≤ 16 ∧ (∀ k, Pth (akT ts fN) k k → k ∈ L') ∧ σ = [some (.ref ma), some (.ref la), c2, c3], ⟨_, Same.refl _, ma, mv, L, _, _, ema, hm, hlt, rfl, h7, hcy0, rfl⟩, ?_⟩
  rintro m σ H1 ⟨s1, la, lv, L', c2, c3, ela, hv, hlt', hlen, hm7, hcy, rfl⟩
  have hvl : lv.length = L'.length := hv.1
  by_cases hne : L' = []
  · have elv : lv = [] := List.length_eq_zero_iff.mp (by rw [hvl, hne]; rfl)
    subst elv
    exact ⟨_, rfl, false, .inl ⟨_, SqL.of ela, rfl⟩, iteF (q (fun ⟨k, hk⟩ => by have := hcy k hk; rw [hne] at this; cases this) H1 s1)⟩
  have hb : (!lv.isEmpty) = true := by
    cases lv with
    | nil => exact absurd (List.length_eq_zero_iff.mp hvl.symm) hne
    | cons => rfl
  refine ⟨_, rfl, true, .inl ⟨_, SqL.of ela, hb.symm⟩, iteT ⟨fun σ' H' => ∃ m', m' < m ∧ Same H H' ∧ ∃ (la : Addr) (lv : List V) (L' : List Nat) (c2 c3 : Option V), H' la = some (.lst lv) ∧ RefL lv L' (TbA cTable cNumbers cWords H zs ds ts fN) ∧ (∀ k ∈ L', k < ts.length) ∧ L'.length = m' ∧ m' ≤ 16 ∧ (∀ k, Pth (akT ts fN) k k → k ∈ L') ∧ σ' = [some (.ref ma), some (.ref la), c2, c3], fun _ _ h => h, ?_⟩⟩
  refine ⟨fun σ' H' => Same H1 H' ∧ ∃ na : Addr, H' na = some (.lst ((L'.map (tnm zs fN)).map V.str)) ∧ σ' = [some (.ref ma), some (.ref la), some (.ref na), c3], ?_, ?_⟩
  · refine ⟨_, rfl, la, rfl, ⟨_, SqL.of ela⟩, comp_list (xs := lv) (fun D2 i ys H2 => Same H1 H2 ∧ H2 D2 = some (.lst ys) ∧ ys = ((L'.take i).map (tnm zs fN)).map V.str) (fun D2 hD2 => ⟨same_new hD2 _, upd_same, rfl⟩) (fun D2 i ys H2 hD2 _ h => SqL.of (h.1 _ _ ela)) (fun D2 i y ys H2 hD2 e h => ?_) (fun D2 ys H2 hD2 h => ?_)⟩
    · obtain ⟨s2, eD2, rfl⟩ := h
      obtain ⟨t_, k, rfl, ek, tt, nm, po, ou, dv, g1, g2, g3, g4, g5, g6⟩ := RefL.get hv e
      obtain ⟨rl, dx, na, dl, fs, xs, ht, f1, f2, f3, f4, f5, f6, ena, edl, erl, hR, h200⟩ := g4
      have hi : i < lv.length := (List.getElem?_eq_some_iff.mp e).1
      refine ⟨_, rfl, t_, _, _, _, _, rfl, (s1.trans s2) _ _ ht, bl.k_Table, bl.na_Table_name, f2, CYes.mk hi eD2 (small1000 (by rw [List.length_map, List.length_map, List.length_take]; omega)) ⟨s2.upd hD2, upd_same, ?_⟩⟩
      rw [take_snoc ek, List.map_append, List.map_append]
      show _ ++ [V.str nm] = _ ++ [V.str (tnm zs fN k)]
      rw [tnm_at g2]
    · obtain ⟨s2, eD2, rfl⟩ := h
      rw [hvl, List.take_length] at eD2
      exact ⟨s2, D2, eD2, rfl⟩
  rintro σ2 H2 ⟨s2, na, ena, rfl⟩
  have s12 := s1.trans s2
  refine ⟨fun σ' H' => Same H2 H' ∧ ∃ (wa : Addr) (wv : List V), H' wa = some (.lst wv) ∧ RefL wv (L'.filter (wts ts fN L')) (TbA cTable cNumbers cWords H zs ds ts fN) ∧ σ' = [some (.ref ma), some (.ref la), some (.ref na), some (.ref wa)], ?_, ?_⟩
  · refine ⟨_, rfl, la, rfl, ⟨_, SqL.of (s2 _ _ ela)⟩, comp_list (xs := lv) (fun D2 i ys H3 => Same H2 H3 ∧ H3 D2 = some (.lst ys) ∧ RefL ys ((L'.take i).filter (wts ts fN L')) (TbA cTable cNumbers cWords H zs ds ts fN)) (fun D2 hD2 => ⟨same_new hD2 _, upd_same, RefL.nil⟩) (fun D2 i ys H3 hD2 _ h => SqL.of ((s2.trans h.1) _ _ ela)) (fun D2 i y ys H3 hD2 e h => ?_) (fun D2 ys H3 hD2 h => ?_)⟩
    · obtain ⟨s3, eD2, hy⟩ := h
      obtain ⟨t_, k, rfl, ek, hT⟩ := RefL.get hv e
      obtain ⟨tt, nm, po, ou, dv, g1, g2, g3, g4, g5, g6⟩ := id hT
      have hi : i < lv.length := (List.getElem?_eq_some_iff.mp e).1
      have sA := s12.trans s3
      have hcl := (ok.tabs k tt g1).ok.few
      have hcl : tt.cols.length ≤ 4 := hcl
      have hpl : (prm tt.cols zs).length = tt.cols.length := (prm_get (os := tt.cols) (xs := zs) fun j hj => by rw [ok.len]; exact ok.lt g1 j hj).1
      refine ⟨_, rfl, _, rfl, t_, na, ou, nm, tt.way, prm tt.cols zs, L'.map (tnm zs fN), dv, tt.rows, rfl, g4.same sA, s3 _ _ ena, by omega, fun l H4 s4 nl el => ?_⟩
      have hw := wts_names ok hlt' g1
      have eD4 := s4 _ _ eD2
      have hfl : ((L'.take i).filter (wts ts fN L')).length ≤ i := Nat.le_trans (List.length_filter_le ..) (by rw [List.length_take]; omega)
      have hf : ((L'.take (i + 1)).filter (wts ts fN L')) = ((L'.take i).filter (wts ts fN L')) ++ (if wts ts fN L' k then [k] else []) := by
        rw [take_snoc ek, List.filter_append]
        congr 1
        cases h : wts ts fN L' k with
        | true => rw [List.filter_cons_of_pos h, List.filter_nil]; rfl
        | false => rw [List.filter_cons_of_neg (by rw [h]; exact Bool.false_ne_true), List.filter_nil]; rfl
      refine ⟨wts ts fN L' k, .inl ⟨_, SqL.of el, ?_⟩, ?_⟩
      · rw [← hw]
        cases (prm tt.cols zs).filter fun z => (L'.map (tnm zs fN)).contains z <;> rfl
      cases hc : wts ts fN L' k with
      | true =>
        rw [hc] at hf
        refine iteT ⟨_, rfl, CYes.mk hi eD4 (small1000 (by rw [hy.1]; omega)) ⟨(s3.trans s4).upd hD2, upd_same, ?_⟩⟩
        rw [hf]
        exact RefL.snoc hy hT
      | false =>
        rw [hc] at hf
        refine iteF (CNext.mk (zs := ys) hi ⟨s3.trans s4, eD4, ?_⟩)
        rw [hf]
        simpa using hy
    · obtain ⟨s3, eD2, hy⟩ := h
      rw [hvl, List.take_length] at hy
      exact ⟨s3, D2, ys, eD2, hy, rfl⟩
  rintro σ3 H3 ⟨s3, wa, wv, ewa, hw, rfl⟩
  have hwl : wv.length = (L'.filter (wts ts fN L')).length := hw.1
  by_cases hst : wv.length = lv.length
  · have hall : ∀ k ∈ L', wts ts fN L' k = true := List.length_filter_eq_length_iff.mp (by omega)
    exact ⟨_, rfl, wa, _, rfl, .inl (SqL.of ewa), _, rfl, la, _, rfl, .inl (SqL.of (s3 _ _ (s2 _ _ ela))), rfl, _, rfl, iteTS (by rw [hst]) ⟨(by show 1 ≤ sizeLine; decide), qE (stuck_cyc hne fun k hk => wts_iff.mp (hall k hk)) H3 (s12.trans s3)⟩⟩
  · have hle := List.length_filter_le (wts ts fN L') L'
    refine ⟨_, rfl, wa, _, rfl, .inl (SqL.of ewa), _, rfl, la, _, rfl, .inl (SqL.of (s3 _ _ (s2 _ _ ela))), rfl, _, rfl, iteFS (fun z => by injection z with z; omega) ?_⟩
    exact ⟨_, rfl, _, by omega, s12.trans s3, wa, wv, _, _, _, ewa, hw, (fun k hk => hlt' k (List.mem_filter.mp hk).1), rfl, by omega, (fun k hk => List.mem_filter.mpr ⟨hcy k hk, wts_iff.mpr (cyc_next hcy hk)⟩), rfl⟩
theorem ok_Numbers___init___Numbers (F : Fun K "__init__" "Numbers.__init__" s_Numbers___init___Numbers f fd) (bl : Bl K mg cTableError cUnlike cRing cWay cFirst cOnly cLike cLow cHigh cSum cDomain cNumbers cWords cTable cBook) (b_Domain___init___Numbers : BCallee CX0 P w K mg base 1 "Domain" "__init__" ["self", "low", "high"] (sp_Domain___init___Numbers K cTableError cUnlike cRing cWay cFirst cOnly cLike cLow cHigh cSum cDomain cNumbers cWords cTable cBook)) : FnOk P w K mg base CX0 2 f fd ["self", "low", "high"] (sp_Numbers___init___Numbers K cTableError cUnlike cRing cWay cFirst cOnly cLike cLow cHigh cSum cDomain cNumbers cWords cTable cBook) := by
  refine F.ok sc_Numbers___init___Numbers (fun vs H Q E h => ?_) (fun cdv A outer s H vs Q E hr h => ?_)
  · obtain ⟨x, dx, lo, hi, rfl, hx, hle, q⟩ := h
    rfl
  obtain ⟨x, dx, lo, hi, rfl, hx, hle, q⟩ := h
  refine ⟨_, (pss_cons (ps_if (pt_cmpR op_gt (pv 1) (pv 2) (nomark _))
     (pss_one ps_never)
     pss_nil)
     (pss_one (ps_expr (pe_base b_Domain___init___Numbers pass0 hr rfl (pa_cons (pv 0) (pa_cons (pv 1) (pa_cons (pv 2) pa_nil))))))), ?_⟩
  exact ⟨_, rfl, _, rfl, _, _, rfl, rfl, _, rfl, iteFS (by omega) ⟨_, rfl, _, rfl, _, rfl, x, dx, lo, hi, rfl, hx, q⟩⟩
theorem ok_First___init___First (F : Fun K "__init__" "First.__init__" s_First___init___First f fd) (bl : Bl K mg cTableError cUnlike cRing cWay cFirst cOnly cLike cLow cHigh cSum cDomain cNumbers cWords cTable cBook) (b_Way___init___First : BCallee CX0 P w K mg base 1 "Way" "__init__" ["self", "called"] (sp_Way___init___First K cTableError cUnlike cRing cWay cFirst cOnly cLike cLow cHigh cSum cDomain cNumbers cWords cTable cBook)) : FnOk P w K mg base CX0 2 f fd ["self"] (sp_First___init___First K cTableError cUnlike cRing cWay cFirst cOnly cLike cLow cHigh cSum cDomain cNumbers cWords cTable cBook) := by
  refine F.ok sc_First___init___First (fun vs H Q E h => ?_) (fun cdv A outer s H vs Q E hr h => ?_)
  · obtain ⟨x, dx, rfl, hx, q⟩ := h
    rfl
  obtain ⟨x, dx, rfl, hx, q⟩ := h
  refine ⟨_, (pss_one (ps_expr (pe_base b_Way___init___First pass0 hr rfl (pa_cons (pv 0) (pa_cons pe_str pa_nil))))), ?_⟩
  exact ⟨_, rfl, x, dx, _, rfl, hx, q⟩
theorem ok_Only___init___Only (F : Fun K "__init__" "Only.__init__" s_Only___init___Only f fd) (bl : Bl K mg cTableError cUnlike cRing cWay cFirst cOnly cLike cLow cHigh cSum cDomain cNumbers cWords cTable cBook) (b_Way___init___Only : BCallee CX0 P w K mg base 1 "Way" "__init__" ["self", "called"] (sp_Way___init___Only K cTableError cUnlike cRing cWay cFirst cOnly cLike cLow cHigh cSum cDomain cNumbers cWords cTable cBook)) : FnOk P w K mg base CX0 2 f fd ["self"] (sp_Only___init___Only K cTableError cUnlike cRing cWay cFirst cOnly cLike cLow cHigh cSum cDomain cNumbers cWords cTable cBook) := by
  refine F.ok sc_Only___init___Only (fun vs H Q E h => ?_) (fun cdv A outer s H vs Q E hr h => ?_)
  · obtain ⟨x, dx, rfl, hx, q⟩ := h
    rfl
  obtain ⟨x, dx, rfl, hx, q⟩ := h
  refine ⟨_, (pss_one (ps_expr (pe_base b_Way___init___Only pass0 hr rfl (pa_cons (pv 0) (pa_cons pe_str pa_nil))))), ?_⟩
  exact ⟨_, rfl, x, dx, _, rfl, hx, q⟩
theorem ok_Like___init___Like (F : Fun K "__init__" "Like.__init__" s_Like___init___Like f fd) (bl : Bl K mg cTableError cUnlike cRing cWay cFirst cOnly cLike cLow cHigh cSum cDomain cNumbers cWords cTable cBook) (b_Way___init___Like : BCallee CX0 P w K mg base 1 "Way" "__init__" ["self", "called"] (sp_Way___init___Like K cTableError cUnlike cRing cWay cFirst cOnly cLike cLow cHigh cSum cDomain cNumbers cWords cTable cBook)) : FnOk P w K mg base CX0 2 f fd ["self"] (sp_Like___init___Like K cTableError cUnlike cRing cWay cFirst cOnly cLike cLow cHigh cSum cDomain cNumbers cWords cTable cBook) := by
  refine F.ok sc_Like___init___Like (fun vs H Q E h => ?_) (fun cdv A outer s H vs Q E hr h => ?_)
  · obtain ⟨x, dx, rfl, hx, q⟩ := h
    rfl
  obtain ⟨x, dx, rfl, hx, q⟩ := h
  refine ⟨_, (pss_one (ps_expr (pe_base b_Way___init___Like pass0 hr rfl (pa_cons (pv 0) (pa_cons pe_str pa_nil))))), ?_⟩
  exact ⟨_, rfl, x, dx, _, rfl, hx, q⟩
theorem ok_Low___init___Low (F : Fun K "__init__" "Low.__init__" s_Low___init___Low f fd) (bl : Bl K mg cTableError cUnlike cRing cWay cFirst cOnly cLike cLow cHigh cSum cDomain cNumbers cWords cTable cBook) (b_Way___init___Low : BCallee CX0 P w K mg base 1 "Way" "__init__" ["self", "called"] (sp_Way___init___Low K cTableError cUnlike cRing cWay cFirst cOnly cLike cLow cHigh cSum cDomain cNumbers cWords cTable cBook)) : FnOk P w K mg base CX0 2 f fd ["self"] (sp_Low___init___Low K cTableError cUnlike cRing cWay cFirst cOnly cLike cLow cHigh cSum cDomain cNumbers cWords cTable cBook) := by
  refine F.ok sc_Low___init___Low (fun vs H Q E h => ?_) (fun cdv A outer s H vs Q E hr h => ?_)
  · obtain ⟨x, dx, rfl, hx, q⟩ := h
    rfl
  obtain ⟨x, dx, rfl, hx, q⟩ := h
  refine ⟨_, (pss_one (ps_expr (pe_base b_Way___init___Low pass0 hr rfl (pa_cons (pv 0) (pa_cons pe_str pa_nil))))), ?_⟩
  exact ⟨_, rfl, x, dx, _, rfl, hx, q⟩
theorem ok_High___init___High (F : Fun K "__init__" "High.__init__" s_High___init___High f fd) (bl : Bl K mg cTableError cUnlike cRing cWay cFirst cOnly cLike cLow cHigh cSum cDomain cNumbers cWords cTable cBook) (b_Way___init___High : BCallee CX0 P w K mg base 1 "Way" "__init__" ["self", "called"] (sp_Way___init___High K cTableError cUnlike cRing cWay cFirst cOnly cLike cLow cHigh cSum cDomain cNumbers cWords cTable cBook)) : FnOk P w K mg base CX0 2 f fd ["self"] (sp_High___init___High K cTableError cUnlike cRing cWay cFirst cOnly cLike cLow cHigh cSum cDomain cNumbers cWords cTable cBook) := by
  refine F.ok sc_High___init___High (fun vs H Q E h => ?_) (fun cdv A outer s H vs Q E hr h => ?_)
  · obtain ⟨x, dx, rfl, hx, q⟩ := h
    rfl
  obtain ⟨x, dx, rfl, hx, q⟩ := h
  refine ⟨_, (pss_one (ps_expr (pe_base b_Way___init___High pass0 hr rfl (pa_cons (pv 0) (pa_cons pe_str pa_nil))))), ?_⟩
  exact ⟨_, rfl, x, dx, _, rfl, hx, q⟩
theorem ok_Sum___init___Sum (F : Fun K "__init__" "Sum.__init__" s_Sum___init___Sum f fd) (bl : Bl K mg cTableError cUnlike cRing cWay cFirst cOnly cLike cLow cHigh cSum cDomain cNumbers cWords cTable cBook) (b_Way___init___Sum : BCallee CX0 P w K mg base 1 "Way" "__init__" ["self", "called"] (sp_Way___init___Sum K cTableError cUnlike cRing cWay cFirst cOnly cLike cLow cHigh cSum cDomain cNumbers cWords cTable cBook)) : FnOk P w K mg base CX0 2 f fd ["self"] (sp_Sum___init___Sum K cTableError cUnlike cRing cWay cFirst cOnly cLike cLow cHigh cSum cDomain cNumbers cWords cTable cBook) := by
  refine F.ok sc_Sum___init___Sum (fun vs H Q E h => ?_) (fun cdv A outer s H vs Q E hr h => ?_)
  · obtain ⟨x, dx, rfl, hx, q⟩ := h
    rfl
  obtain ⟨x, dx, rfl, hx, q⟩ := h
  refine ⟨_, (pss_one (ps_expr (pe_base b_Way___init___Sum pass0 hr rfl (pa_cons (pv 0) (pa_cons pe_str pa_nil))))), ?_⟩
  exact ⟨_, rfl, x, dx, _, rfl, hx, q⟩
theorem ok_Domain_has_code_Numbers (F : Fun K "has_code" "Domain.has_code" s_Domain_has_code_Numbers f fd) (bl : Bl K mg cTableError cUnlike cRing cWay cFirst cOnly cLike cLow cHigh cSum cDomain cNumbers cWords cTable cBook) (c_is_whole : Callee P w K mg base 1 "is_whole" ["value"] (sp_is_whole K cTableError cUnlike cRing cWay cFirst cOnly cLike cLow cHigh cSum cDomain cNumbers cWords cTable cBook)) : FnOk P w K mg base CX0 2 f fd ["self", "value"] (sp_Domain_has_code_Numbers K cTableError cUnlike cRing cWay cFirst cOnly cLike cLow cHigh cSum cDomain cNumbers cWords cTable cBook) := by
  refine F.ok sc_Domain_has_code_Numbers (fun vs H Q E h => ?_) (fun cdv A outer s H vs Q E hr h => ?_)
  · obtain ⟨a, b, i, rfl, ⟨dx, fs, ha, hl, hh, _⟩, h1, h2, q⟩ := h
    rfl
  obtain ⟨a, b, i, rfl, ⟨dx, fs, ha, hl, hh, _⟩, h1, h2, q⟩ := h
  refine ⟨_, (pss_one (ps_ret (pe_and (pe_fn c_is_whole hr rfl (pa_cons (pv 1) pa_nil)) (pe_one (pe_chain op_le op_le (pe_fld (pv 0) rfl) (pv 1) (pe_fld (pv 0) rfl)))))), ?_⟩
  refine ⟨_, rfl, i, rfl, _, rfl, iteT ?_⟩
  refine ⟨_, rfl, a, _, _, _, _, rfl, ha, bl.k_Numbers, bl.na_Numbers_low, hl, _, rfl, _, _, rfl, rfl, _, rfl, iteTS h1 ?_⟩
  refine ⟨_, rfl, a, _, _, _, _, rfl, ha, bl.k_Numbers, bl.na_Numbers_high, hh, _, _, rfl, rfl, ?_⟩
  show Q (.bl (decide (i ≤ b.2))) H
  rw [decide_eq_true h2]
  exact q
theorem ok_Domain_has_code_Words (F : Fun K "has_code" "Domain.has_code" s_Domain_has_code_Words f fd) (bl : Bl K mg cTableError cUnlike cRing cWay cFirst cOnly cLike cLow cHigh cSum cDomain cNumbers cWords cTable cBook) (c_is_whole : Callee P w K mg base 1 "is_whole" ["value"] (sp_is_whole K cTableError cUnlike cRing cWay cFirst cOnly cLike cLow cHigh cSum cDomain cNumbers cWords cTable cBook)) : FnOk P w K mg base CX0 2 f fd ["self", "value"] (sp_Domain_has_code_Words K cTableError cUnlike cRing cWay cFirst cOnly cLike cLow cHigh cSum cDomain cNumbers cWords cTable cBook) := by
  refine F.ok sc_Domain_has_code_Words (fun vs H Q E h => ?_) (fun cdv A outer s H vs Q E hr h => ?_)
  · obtain ⟨a, b, i, rfl, ⟨dx, fs, ha, hl, hh, _⟩, h1, h2, q⟩ := h
    rfl
  obtain ⟨a, b, i, rfl, ⟨dx, fs, ha, hl, hh, _⟩, h1, h2, q⟩ := h
  refine ⟨_, (pss_one (ps_ret (pe_and (pe_fn c_is_whole hr rfl (pa_cons (pv 1) pa_nil)) (pe_one (pe_chain op_le op_le (pe_fld (pv 0) rfl) (pv 1) (pe_fld (pv 0) rfl)))))), ?_⟩
  refine ⟨_, rfl, i, rfl, _, rfl, iteT ?_⟩
  refine ⟨_, rfl, a, _, _, _, _, rfl, ha, bl.k_Words, bl.na_Words_low, hl, _, rfl, _, _, rfl, rfl, _, rfl, iteTS h1 ?_⟩
  refine ⟨_, rfl, a, _, _, _, _, rfl, ha, bl.k_Words, bl.na_Words_high, hh, _, _, rfl, rfl, ?_⟩
  show Q (.bl (decide (i ≤ b.2))) H
  rw [decide_eq_true h2]
  exact q
theorem ok_refuse_names_books (F : Fun K "refuse_names" "refuse_names" s_refuse_names_books f fd) (bl : Bl K mg cTableError cUnlike cRing cWay cFirst cOnly cLike cLow cHigh cSum cDomain cNumbers cWords cTable cBook) (c_is_word : Callee P w K mg base 2 "is_word" ["text"] (sp_is_word K cTableError cUnlike cRing cWay cFirst cOnly cLike cLow cHigh cSum cDomain cNumbers cWords cTable cBook)) : FnOk P w K mg base CX0 3 f fd ["facts", "tables"] (sp_refuse_names_books K cTableError cUnlike cRing cWay cFirst cOnly cLike cLow cHigh cSum cDomain cNumbers cWords cTable cBook) := by
  refine F.ok sc_refuse_names_books (fun vs H Q E h => ?_) (fun cdv A outer s H vs Q E hr h => ?_)
  · obtain ⟨fa, ma, fv, mv, zs, ds, ts, fN, L, rfl, efa, ema, hB, q⟩ := h
    rfl
  obtain ⟨fa, ma, fv, mv, zs, ds, ts, fN, L, rfl, efa, ema, hB, q⟩ := h
  refine ⟨_, (pss_cut (ps_for PassesOwn.never rfl (pi_list (pv 0)) (pg_tup rfl (pgs_cons (pg_name (i := 2) sc_refuse_names_books.nd rfl (Or.inl rfl)) (pgs_cons (pg_name (i := 3) sc_refuse_names_books.nd rfl (Or.inl rfl)) pgs_nil)))
     (pss_one (ps_if (pt_not (pt_val (pe_fn c_is_word hr rfl (pa_cons (pv 2) pa_nil))))
     (pss_one ps_never)
     pss_nil)))
     (pss_cut (ps_set (i := 4) sc_refuse_names_books.nd rfl (Or.inl rfl) (pe_op op_cat (pe_compG (pi_list (pv 0)) (cmpOkG_plain (N := ["name", "domain"]) (k := 2) rfl rfl (by decide +kernel) (by decide +kernel) (by decide +kernel)) rfl (fun _ _ _ _ => (gTupK (K := K) (n := 2) rfl rfl (pgs_cons (pg_name (i := 0) (show (["name", "domain"] : List Str).Nodup by decide +kernel) rfl (Or.inl rfl) (Or.inr rfl)) (pgs_cons (pg_name (i := 1) (show (["name", "domain"] : List Str).Nodup by decide +kernel) rfl (Or.inl rfl) (Or.inr rfl)) pgs_nil)))) (fun _ _ _ _ => pif_nil) (fun _ _ _ _ => (pv 0))) (pe_comp (pi_list (pv 1)) (cmpOk_plain rfl (by decide +kernel) (by decide +kernel) (by decide +kernel) rfl) rfl (fun _ _ _ _ => pif_nil) (fun _ _ _ _ => (pe_fldK (K := K) rfl (pv 0) rfl)))))
     (pss_cons (ps_if (pt_cmpR op_lt (pe_callB call_len_setO rfl bl.len_ PySem.boot_len (pa_cons (pe_callTy (call_set_strs rfl) rfl bl.set_ PyProof.Rows.boot_set (pa_cons (pv 4) pa_nil)) pa_nil)) (pe_callB call_len_seq rfl bl.len_ PySem.boot_len (pa_cons (pv 4) pa_nil)) (nomark _))
     (pss_one ps_never)
     pss_nil)
     (pss_one (ps_for PassesOwn.never rfl (pi_list (pv 1)) (pg_name (i := 5) sc_refuse_names_books.nd rfl (Or.inl rfl))
     (pss_one (ps_for PassesOwn.never rfl (pi_list (pe_fld (pv 5) rfl)) (pg_name (i := 2) sc_refuse_names_books.nd rfl (Or.inl rfl))
     (pss_one (ps_if (pt_cmpR op_notIn_seq (pv 2) (pv 4) (by with_unfolding_all rfl))
     (pss_one ps_never)
     pss_nil))))))))), ?_⟩
  obtain ⟨b1, b2, b3⟩ := hB.few
  have hfl : fv.length = fN := by rw [hB.facts.1, List.length_range]
  have hml : mv.length = L.length := hB.tabs.1
  refine ⟨fun σ' H' => H' = H ∧ ∃ c2 c3 : Option V, σ' = [some (.ref fa), some (.ref ma), c2, c3, none, none], ?_, ?_⟩
  · refine ⟨_, rfl, fa, rfl, ⟨_, SqL.of efa⟩, for_list (xs := fv) (fun i σ H' => H' = H ∧ ∃ c2 c3 : Option V, σ = [some (.ref fa), some (.ref ma), c2, c3, none, none]) ⟨rfl, _, _, rfl⟩ (fun i σ H' _ h => by rw [h.1]; exact SqL.of efa) (fun i y σ H' e h => ?_) (fun σ H' h => h)⟩
    obtain ⟨e0, c2, c3, rfl⟩ := h
    rw [e0]
    obtain ⟨r, k, rfl, ek, nm, po, d, h1, h2, h3, h4⟩ := RefL.get hB.facts e
    have hw := hB.ok.words nm (List.mem_of_getElem? h1)
    refine ⟨r, _, rfl, SqT.of h3, rfl, _, _, rfl, _, _, rfl, rfl, ?_⟩
    refine ⟨_, rfl, nm, rfl, Nat.le_trans (isw_len hw) (by decide), _, rfl, ?_⟩
    rw [hw]
    exact iteF ⟨rfl, _, _, rfl⟩
  rintro σ1 H1 ⟨e1, c2, c3, rfl⟩
  rw [e1]
  clear e1
  refine ⟨fun σ' H' => Same H H' ∧ ∃ na : Addr, H' na = some (.lst ((bnm zs fN L).map V.str)) ∧ σ' = [some (.ref fa), some (.ref ma), c2, c3, some (.ref na), none], ?_, ?_⟩
  · refine ⟨_, rfl, fa, rfl, ⟨_, SqL.of efa⟩, compG_list (xs := fv) (fun D i ys H' => Same H H' ∧ H' D = some (.lst ys) ∧ ys = (zs.take i).map V.str) (fun D hD => ⟨same_new hD _, upd_same, rfl⟩) (fun D i ys H' hD _ h => SqL.of (h.1 _ _ efa)) (fun D i y ys H' hD e h ts_ hts => ?_) (fun D ys H' hD h => ?_)⟩
    · obtain ⟨sm, eD, rfl⟩ := h
      obtain ⟨r, k, rfl, ek, nm, po, d, h1, h2, h3, h4⟩ := RefL.get hB.facts e
      obtain ⟨rfl, hi⟩ := rng_get ek
      obtain ⟨t0, t1, rfl⟩ : ∃ t0 t1, ts_ = [t0, t1] := by
        match ts_, hts with
        | [t0, t1], _ => exact ⟨t0, t1, rfl⟩
      refine ⟨r, _, rfl, SqT.of (sm _ _ h3), rfl, _, _, rfl, _, _, rfl, rfl, ⟨[some (.str nm), some (.ref d)], rfl, rfl⟩, ?_⟩
      refine ⟨_, rfl, CYes.mk (by omega) eD (small1000 (by rw [List.length_map, List.length_take]; omega)) ⟨sm.upd hD, upd_same, ?_⟩⟩
      rw [take_snoc h1, List.map_append]
      rfl
    · obtain ⟨sm, eD, rfl⟩ := h
      rw [hfl] at eD
      refine ⟨_, rfl, ma, rfl, ⟨_, SqL.of (sm _ _ ema)⟩, comp_list (xs := mv) (fun D2 i ys H2 => Same H' H2 ∧ H2 D2 = some (.lst ys) ∧ ys = ((L.take i).map (tnm zs fN)).map V.str) (fun D2 hD2 => ⟨same_new hD2 _, upd_same, rfl⟩) (fun D2 i ys H2 hD2 _ h => SqL.of (h.1 _ _ (sm _ _ ema))) (fun D2 i y ys H2 hD2 e h => ?_) (fun D2 ys H2 hD2 h => ?_)⟩
      · obtain ⟨s2, eD2, rfl⟩ := h
        obtain ⟨t_, k, rfl, ek, tt, nm, po, ou, dv, g1, g2, g3, g4, g5, g6⟩ := RefL.get hB.tabs e
        obtain ⟨rl, dx, na, dl, fs, xs, ht, f1, f2, f3, f4, f5, f6, ena, edl, erl, hR, h200⟩ := g4
        have hi : i < mv.length := (List.getElem?_eq_some_iff.mp e).1
        have sA := sm.trans s2
        refine ⟨_, rfl, t_, _, _, _, _, rfl, sA _ _ ht, bl.k_Table, bl.na_Table_name, f2, CYes.mk hi eD2 (small1000 (by rw [List.length_map, List.length_map, List.length_take]; omega)) ⟨s2.upd hD2, upd_same, ?_⟩⟩
        rw [take_snoc ek, List.map_append, List.map_append]
        show _ ++ [V.str nm] = _ ++ [V.str (tnm zs fN k)]
        rw [tnm_at g2]
      · obtain ⟨s2, eD2, rfl⟩ := h
        rw [hml, List.take_length] at eD2
        refine ⟨D, D2, _, _, rfl, rfl, s2 _ _ eD, eD2, Nat.le_of_lt (small1000 (by rw [List.length_map, List.length_map, List.length_map, List.length_take]; omega)), fun p hp => ⟨(sm.trans s2).trans (same_new hp _), p, ?_, rfl⟩⟩
        rw [upd_same]
        unfold bnm
        rw [List.map_append]
  rintro σ2 H2 ⟨s2, na, ena, rfl⟩
  have hbl : (bnm zs fN L).length ≤ 32 := by unfold bnm; rw [List.length_append, List.length_take, List.length_map]; omega
  have hnl : ((bnm zs fN L).map V.str).length = (bnm zs fN L).length := List.length_map _
  refine ⟨_, rfl, na, bnm zs fN L, rfl, SqL.of ena, by omega, fun l hl2 => ⟨l, bnm zs fN L, rfl, upd_same, by omega, _, rfl, na, _, rfl, .inl (SqL.of (same_new hl2 _ _ _ ena)), _, _, rfl, rfl, _, rfl, ?_⟩⟩
  have cf := cntK_full (bnm zs fN L) (bnm zs fN L).length (Nat.le_refl _)
  rw [List.take_length] at cf
  refine iteFS (by rw [hnl, cf.mpr hB.bnd_]; omega) ?_
  have s3 := s2.trans (same_new hl2 (SetO P w l (bnm zs fN L)))
  have ena3 := same_new hl2 (SetO P w l (bnm zs fN L)) _ _ ena
  refine ⟨_, rfl, ma, rfl, ⟨_, SqL.of (s3 _ _ ema)⟩, for_list (xs := mv) (fun i σ H' => Same H H' ∧ H' na = some (.lst ((bnm zs fN L).map V.str)) ∧ ∃ c2 c5 : Option V, σ = [some (.ref fa), some (.ref ma), c2, c3, some (.ref na), c5]) ⟨s3, ena3, _, _, rfl⟩ (fun i σ H' _ h => SqL.of (h.1 _ _ ema)) (fun i y σ H' e h => ?_) (fun σ H' h => q H' h.1)⟩
  obtain ⟨s4, ena4, d2, d5, rfl⟩ := h
  obtain ⟨t_, k, rfl, ek, tt, nm, po, ou, dv, g1, g2, g3, g4, g5, g6⟩ := RefL.get hB.tabs e
  obtain ⟨rl, dx, na2, dl, fs, xs, ht, f1, f2, f3, f4, f5, f6, ena2, edl, erl, hR, h200⟩ := g4
  refine ⟨_, rfl, t_, _, _, _, _, rfl, s4 _ _ ht, bl.k_Table, bl.na_Table_names, f5, na2, rfl, ⟨_, SqL.of (s4 _ _ ena2)⟩, for_list (xs := (prm tt.cols zs).map V.str) (fun i σ H2 => H2 = H' ∧ ∃ c2 : Option V, σ = [some (.ref fa), some (.ref ma), c2, c3, some (.ref na), some (.ref t_)]) ⟨rfl, _, rfl⟩ (fun i σ H2 _ h => by rw [h.1]; exact SqL.of (s4 _ _ ena2)) (fun i y σ H2 e h => ?_) (fun σ H2 h => by rw [h.1]; exact ⟨s4, ena4, let ⟨c, e⟩ := h.2; ⟨c, _, e⟩⟩)⟩
  obtain ⟨e0, d2', rfl⟩ := h
  rw [e0]
  obtain ⟨z, rfl, ez⟩ := get_strs e
  have hz := hB.has (mem_prm (List.mem_of_getElem? ez))
  refine ⟨_, rfl, _, rfl, na, _, rfl, .inl (SqL.of ena4), rfl, flat_strs _, _, rfl, ?_⟩
  rw [show (if true = true then !inV (V.str z) ((bnm zs fN L).map V.str) else inV (V.str z) ((bnm zs fN L).map V.str)) = false by rw [if_pos rfl, inV_strs]; simpa using hz]
  exact iteF ⟨rfl, _, rfl⟩
theorem ok_refuse_names_tables (F : Fun K "refuse_names" "refuse_names" s_refuse_names_tables f fd) (bl : Bl K mg cTableError cUnlike cRing cWay cFirst cOnly cLike cLow cHigh cSum cDomain cNumbers cWords cTable cBook) (c_is_word : Callee P w K mg base 2 "is_word" ["text"] (sp_is_word K cTableError cUnlike cRing cWay cFirst cOnly cLike cLow cHigh cSum cDomain cNumbers cWords cTable cBook)) : FnOk P w K mg base CX0 3 f fd ["names"] (sp_refuse_names_tables K cTableError cUnlike cRing cWay cFirst cOnly cLike cLow cHigh cSum cDomain cNumbers cWords cTable cBook) := by
  refine F.ok sc_refuse_names_tables (fun vs H Q E h => ?_) (fun cdv A outer s H vs Q E hr h => ?_)
  · obtain ⟨p, zs, rfl, hS, hw, hn, hl, q⟩ := h
    rfl
  obtain ⟨p, zs, rfl, hS, hw, hn, hl, q⟩ := h
  refine ⟨_, (pss_cut (ps_for PassesOwn.never rfl (pi_list (pv 0)) (pg_name (i := 1) sc_refuse_names_tables.nd rfl (Or.inl rfl))
     (pss_one (ps_if (pt_not (pt_val (pe_fn c_is_word hr rfl (pa_cons (pv 1) pa_nil))))
     (pss_one ps_never)
     pss_nil)))
     (pss_one (ps_if (pt_cmpR op_lt (pe_callB call_len_setO rfl bl.len_ PySem.boot_len (pa_cons (pe_callTy (call_set_strs rfl) rfl bl.set_ PyProof.Rows.boot_set (pa_cons (pv 0) pa_nil)) pa_nil)) (pe_callB call_len_seq rfl bl.len_ PySem.boot_len (pa_cons (pv 0) pa_nil)) (nomark _))
     (pss_one ps_never)
     pss_nil))), ?_⟩
  have hlen : (zs.map V.str).length = zs.length := List.length_map _
  refine ⟨fun σ' H' => H' = H ∧ ∃ c1 : Option V, σ' = [some (.ref p), c1], ?_, ?_⟩
  · refine ⟨_, rfl, p, rfl, ⟨_, hS⟩, for_list (xs := zs.map V.str) (fun i σ H' => H' = H ∧ ∃ c1 : Option V, σ = [some (.ref p), c1]) ⟨rfl, _, rfl⟩ (fun i σ H' _ h => by rw [h.1]; exact hS) (fun i y σ H' e h => ?_) (fun σ H' h => h)⟩
    obtain ⟨e0, c1, rfl⟩ := h
    rw [e0]
    obtain ⟨z, rfl, ez⟩ := get_strs e
    have hz1 := hw z (List.mem_of_getElem? ez)
    have hz : z.length ≤ 1000 := by
      have hw2 := hz1
      unfold isw at hw2
      simp only [Bool.and_eq_true, decide_eq_true_eq] at hw2
      omega
    refine ⟨_, rfl, z, rfl, hz, _, rfl, ?_⟩
    rw [hz1]
    exact iteF ⟨rfl, _, rfl⟩
  rintro σ2 H2 ⟨e2, c1, rfl⟩
  rw [e2]
  refine ⟨_, rfl, p, zs, rfl, hS, by omega, fun l hl2 => ⟨l, zs, rfl, upd_same, by omega, _, rfl, p, _, rfl, .inl ((same_new hl2 _).seq hS), _, _, rfl, rfl, _, rfl, ?_⟩⟩
  have cf := cntK_full zs zs.length (Nat.le_refl _)
  rw [List.take_length] at cf
  exact iteFS (by rw [hlen, cf.mpr hn]; omega) (q _ (same_new hl2 _))
theorem ok_refuse_row (F : Fun K "refuse_row" "refuse_row" s_refuse_row f fd) (bl : Bl K mg cTableError cUnlike cRing cWay cFirst cOnly cLike cLow cHigh cSum cDomain cNumbers cWords cTable cBook) (m_Domain_has_code_Numbers : MCallee CX0 P w K mg base 2 cNumbers "has_code" ["self", "value"] (sp_Domain_has_code_Numbers K cTableError cUnlike cRing cWay cFirst cOnly cLike cLow cHigh cSum cDomain cNumbers cWords cTable cBook)) (m_Domain_has_code_Words : MCallee CX0 P w K mg base 2 cWords "has_code" ["self", "value"] (sp_Domain_has_code_Words K cTableError cUnlike cRing cWay cFirst cOnly cLike cLow cHigh cSum cDomain cNumbers cWords cTable cBook)) : FnOk P w K mg base CX0 3 f fd ["domains", "outcome", "cells", "code"] (sp_refuse_row K cTableError cUnlike cRing cWay cFirst cOnly cLike cLow cHigh cSum cDomain cNumbers cWords cTable cBook) := by
  refine F.ok sc_refuse_row (fun vs H Q E h => ?_) (fun cdv A outer s H vs Q E hr h => ?_)
  · obtain ⟨dl, ou, cl, dv, xs, bs, o, w_, rfl, hD, hdv, hO, hC, hcl, ok, q⟩ := h
    rfl
  obtain ⟨dl, ou, cl, dv, xs, bs, o, w_, rfl, hD, hdv, hO, hC, hcl, ok, q⟩ := h
  refine ⟨_, (pss_cons (ps_if (pt_cmpR op_ne (pe_callB call_len_seq rfl bl.len_ PySem.boot_len (pa_cons (pv 2) pa_nil)) (pe_callB call_len_seq rfl bl.len_ PySem.boot_len (pa_cons (pv 0) pa_nil)) (nomark _))
     (pss_one ps_never)
     pss_nil)
     (pss_cut (ps_for PassesOwn.never rfl (pi_zip rfl bl.zip_ (pa_cons (pv 0) (pa_cons (pv 2) pa_nil))) (pg_tup rfl (pgs_cons (pg_name (i := 4) sc_refuse_row.nd rfl (Or.inl rfl)) (pgs_cons (pg_name (i := 5) sc_refuse_row.nd rfl (Or.inl rfl)) pgs_nil)))
     (pss_one (ps_for PassesOwn.never rfl (pi_list (pv 5)) (pg_tup rfl (pgs_cons (pg_name (i := 6) sc_refuse_row.nd rfl (Or.inl rfl)) (pgs_cons (pg_name (i := 7) sc_refuse_row.nd rfl (Or.inl rfl)) pgs_nil)))
     (pss_one (ps_if (PW.pt (pw_or (pt_cmpR op_lt (pv 6) (pe_fld (pv 4) rfl) (nomark _)) (pw_or1 (pt_cmpR op_gt (pv 7) (pe_fld (pv 4) rfl) (nomark _)))))
     (pss_one ps_never)
     pss_nil)))))
     (pss_one (ps_if (pt_not (pt_val (pe_mtP (polc m_Domain_has_code_Numbers bl.k_Numbers (polc m_Domain_has_code_Words bl.k_Words poln)) pass0 hr (pv 1) (pa_cons (pv 3) pa_nil))))
     (pss_one ps_never)
     pss_nil)))), ?_⟩
  have hdf : ∀ (C : Addr), (C = cNumbers ∨ C = cWords) → Cls K C ∧ NoAttr K C (Str.ofString "low") ∧ NoAttr K C (Str.ofString "high") := fun C h => by
    rcases h with rfl | rfl
    · exact ⟨bl.k_Numbers, bl.na_Numbers_low, bl.na_Numbers_high⟩
    · exact ⟨bl.k_Words, bl.na_Words_low, bl.na_Words_high⟩
  have hlen : xs.length = dv.length := by rw [hcl.1, ok.len, hdv.1]
  refine ⟨_, rfl, cl, _, rfl, .inl (SqL.of hC), _, rfl, dl, _, rfl, .inl (hD), rfl, _, rfl, iteNS (by rw [hlen]) ?_⟩
  refine ⟨fun σ' H' => Same H H' ∧ ∃ c4 c5 c6 c7 : Option V, σ' = [some (.ref dl), some (.ref ou), some (.ref cl), some (.int w_.2), c4, c5, c6, c7], ?_, ?_⟩
  · refine ⟨_, rfl, _, rfl, dl, cl, rfl, ⟨_, hD⟩, ⟨_, SqL.of hC⟩, for_zip (xs := dv) (ys := xs) (fun i σ H' => Same H H' ∧ ∃ c4 c5 c6 c7 : Option V, σ = [some (.ref dl), some (.ref ou), some (.ref cl), some (.int w_.2), c4, c5, c6, c7]) ⟨Same.refl _, _, _, _, _, rfl⟩ (fun i σ H' h => ⟨h.1.seq hD, SqL.of (h.1 _ _ hC)⟩) (fun i x y σ H' T ex ey h hT => ?_) (fun σ H' h => h)⟩
    obtain ⟨sm, c4, c5, c6, c7, rfl⟩ := h
    have s2 := sm.trans (same_new hT (.tup [x, y]))
    have eT : upd H' T (.tup [x, y]) T = some (.tup [x, y]) := upd_same
    generalize upd H' T (.tup [x, y]) = H2 at s2 eT ⊢
    obtain ⟨a, b, rfl, eb, hb⟩ := hdv.get ex
    obtain ⟨l, ps, rfl, ep, hl⟩ := RefL.get hcl ey
    obtain ⟨C, hC', dx, fs, ha, f1, f2, _⟩ := hb.same s2
    obtain ⟨k1, k2, k3⟩ := hdf C hC'
    obtain ⟨_, ys, el, hp⟩ := hl.same s2
    refine ⟨T, _, rfl, SqT.of eT, rfl, _, _, rfl, _, _, rfl, rfl, ?_⟩
    refine ⟨_, rfl, l, rfl, ⟨_, SqL.of el⟩, for_list (xs := ys) (fun j σ H' => H' = H2 ∧ ∃ c6 c7 : Option V, σ = [some (.ref dl), some (.ref ou), some (.ref cl), some (.int w_.2), some (.ref a), some (.ref l), c6, c7]) ⟨rfl, _, _, rfl⟩ (fun j σ H' _ h => by rw [h.1]; exact SqL.of el) (fun j y σ H' e h => ?_) (fun σ H' h => ?_)⟩
    · obtain ⟨e0, c6, c7, rfl⟩ := h
      rw [e0]
      obtain ⟨p, r, e1, rfl, hr'⟩ := hp.get e
      obtain ⟨i1, i2⟩ := ok.inn i ps b ep eb p (List.mem_of_getElem? e1)
      refine ⟨r, _, rfl, SqT.of hr', rfl, _, _, rfl, _, _, rfl, rfl, ?_⟩
      refine ⟨_, rfl, _, rfl, a, _, _, _, _, rfl, ha, k1, k2, f1, _, _, rfl, rfl, _, rfl, iteFS (by omega) ?_⟩
      exact ⟨_, rfl, _, rfl, a, _, _, _, _, rfl, ha, k1, k3, f2, _, _, rfl, rfl, _, rfl, iteFS (by omega) ⟨rfl, _, _, rfl⟩⟩
    · obtain ⟨e0, c6, c7, rfl⟩ := h
      rw [e0]
      exact ⟨s2, _, _, _, _, rfl⟩
  rintro σ3 H3 ⟨s3, c4, c5, c6, c7, rfl⟩
  obtain ⟨C, hC', hd⟩ := hO.same s3
  obtain ⟨dx, fs, ha, f1, f2, f3⟩ := id hd
  rcases hC' with rfl | rfl
  · exact ⟨_, rfl, ou, _, dx, fs, rfl, .head _, ha, f3, _, rfl, ou, o, w_.2, rfl, hd, ok.lo, ok.hi, _, rfl, iteF (q _ s3)⟩
  · exact ⟨_, rfl, ou, _, dx, fs, rfl, .tail _ (.head _), ha, f3, _, rfl, ou, o, w_.2, rfl, hd, ok.lo, ok.hi, _, rfl, iteF (q _ s3)⟩
theorem ok_way_by (F : Fun K "way_by" "way_by" s_way_by f fd) (bl : Bl K mg cTableError cUnlike cRing cWay cFirst cOnly cLike cLow cHigh cSum cDomain cNumbers cWords cTable cBook) (k_First : MkCallee CX0 P w K mg base 2 "First" cFirst ["self"] (sp_First___init___First K cTableError cUnlike cRing cWay cFirst cOnly cLike cLow cHigh cSum cDomain cNumbers cWords cTable cBook)) (k_Only : MkCallee CX0 P w K mg base 2 "Only" cOnly ["self"] (sp_Only___init___Only K cTableError cUnlike cRing cWay cFirst cOnly cLike cLow cHigh cSum cDomain cNumbers cWords cTable cBook)) (k_Like : MkCallee CX0 P w K mg base 2 "Like" cLike ["self"] (sp_Like___init___Like K cTableError cUnlike cRing cWay cFirst cOnly cLike cLow cHigh cSum cDomain cNumbers cWords cTable cBook)) (k_Low : MkCallee CX0 P w K mg base 2 "Low" cLow ["self"] (sp_Low___init___Low K cTableError cUnlike cRing cWay cFirst cOnly cLike cLow cHigh cSum cDomain cNumbers cWords cTable cBook)) (k_High : MkCallee CX0 P w K mg base 2 "High" cHigh ["self"] (sp_High___init___High K cTableError cUnlike cRing cWay cFirst cOnly cLike cLow cHigh cSum cDomain cNumbers cWords cTable cBook)) (k_Sum : MkCallee CX0 P w K mg base 2 "Sum" cSum ["self"] (sp_Sum___init___Sum K cTableError cUnlike cRing cWay cFirst cOnly cLike cLow cHigh cSum cDomain cNumbers cWords cTable cBook)) : FnOk P w K mg base CX0 4 f fd ["name"] (sp_way_by K cTableError cUnlike cRing cWay cFirst cOnly cLike cLow cHigh cSum cDomain cNumbers cWords cTable cBook) := by
  refine F.ok sc_way_by (fun vs H Q E h => ?_) (fun cdv A outer s H vs Q E hr h => ?_)
  · obtain ⟨z, rfl, hz, q⟩ := h
    rfl
  obtain ⟨z, rfl, hz, q⟩ := h
  refine ⟨_, (pss_cons (ps_for PassesOwn.never rfl (pi_list (pe_lst (pa_cons (pe_mk0 k_First pass0 hr rfl) (pa_cons (pe_mk0 k_Only pass0 hr rfl) (pa_cons (pe_mk0 k_Like pass0 hr rfl) (pa_cons (pe_mk0 k_Low pass0 hr rfl) (pa_cons (pe_mk0 k_High pass0 hr rfl) (pa_cons (pe_mk0 k_Sum pass0 hr rfl) pa_nil)))))))) (pg_name (i := 1) sc_way_by.nd rfl (Or.inl rfl))
     (pss_one (ps_if (pt_cmpR op_eq (pe_fld (pv 1) rfl) (pv 0) (nomark _))
     (pss_one (ps_ret (pv 1)))
     pss_nil)))
     (pss_one ps_never)), ?_⟩
  refine fun w0 d0 hw hdw hnw => ⟨w0, d0, rfl, upd_same, rfl, ?_⟩
  have t0 : Same H (upd (upd (upd H d0 (.own w0)) w0 (.ins cFirst d0 [])) w0 (.ins cFirst d0 [("called", .str (Str.ofString "first"))])) := ((same_new hdw _).upd hw).upd hw
  have y0 : WyN cFirst (upd (upd (upd H d0 (.own w0)) w0 (.ins cFirst d0 [])) w0 (.ins cFirst d0 [("called", .str (Str.ofString "first"))])) w0 (Str.ofString "first") := ⟨d0, upd_same⟩
  generalize upd (upd (upd H d0 (.own w0)) w0 (.ins cFirst d0 [])) w0 (.ins cFirst d0 [("called", .str (Str.ofString "first"))]) = H0 at t0 y0 ⊢
  clear hw hdw hnw
  refine fun w1 d1 hw hdw hnw => ⟨w1, d1, rfl, upd_same, rfl, ?_⟩
  have t1 : Same H0 (upd (upd (upd H0 d1 (.own w1)) w1 (.ins cOnly d1 [])) w1 (.ins cOnly d1 [("called", .str (Str.ofString "only"))])) := ((same_new hdw _).upd hw).upd hw
  have y1 : WyN cOnly (upd (upd (upd H0 d1 (.own w1)) w1 (.ins cOnly d1 [])) w1 (.ins cOnly d1 [("called", .str (Str.ofString "only"))])) w1 (Str.ofString "only") := ⟨d1, upd_same⟩
  generalize upd (upd (upd H0 d1 (.own w1)) w1 (.ins cOnly d1 [])) w1 (.ins cOnly d1 [("called", .str (Str.ofString "only"))]) = H1 at t1 y1 ⊢
  clear hw hdw hnw
  have y0 := y0.same t1
  refine fun w2 d2 hw hdw hnw => ⟨w2, d2, rfl, upd_same, rfl, ?_⟩
  have t2 : Same H1 (upd (upd (upd H1 d2 (.own w2)) w2 (.ins cLike d2 [])) w2 (.ins cLike d2 [("called", .str (Str.ofString "like"))])) := ((same_new hdw _).upd hw).upd hw
  have y2 : WyN cLike (upd (upd (upd H1 d2 (.own w2)) w2 (.ins cLike d2 [])) w2 (.ins cLike d2 [("called", .str (Str.ofString "like"))])) w2 (Str.ofString "like") := ⟨d2, upd_same⟩
  generalize upd (upd (upd H1 d2 (.own w2)) w2 (.ins cLike d2 [])) w2 (.ins cLike d2 [("called", .str (Str.ofString "like"))]) = H2 at t2 y2 ⊢
  clear hw hdw hnw
  have y0 := y0.same t2
  have y1 := y1.same t2
  refine fun w3 d3 hw hdw hnw => ⟨w3, d3, rfl, upd_same, rfl, ?_⟩
  have t3 : Same H2 (upd (upd (upd H2 d3 (.own w3)) w3 (.ins cLow d3 [])) w3 (.ins cLow d3 [("called", .str (Str.ofString "low"))])) := ((same_new hdw _).upd hw).upd hw
  have y3 : WyN cLow (upd (upd (upd H2 d3 (.own w3)) w3 (.ins cLow d3 [])) w3 (.ins cLow d3 [("called", .str (Str.ofString "low"))])) w3 (Str.ofString "low") := ⟨d3, upd_same⟩
  generalize upd (upd (upd H2 d3 (.own w3)) w3 (.ins cLow d3 [])) w3 (.ins cLow d3 [("called", .str (Str.ofString "low"))]) = H3 at t3 y3 ⊢
  clear hw hdw hnw
  have y0 := y0.same t3
  have y1 := y1.same t3
  have y2 := y2.same t3
  refine fun w4 d4 hw hdw hnw => ⟨w4, d4, rfl, upd_same, rfl, ?_⟩
  have t4 : Same H3 (upd (upd (upd H3 d4 (.own w4)) w4 (.ins cHigh d4 [])) w4 (.ins cHigh d4 [("called", .str (Str.ofString "high"))])) := ((same_new hdw _).upd hw).upd hw
  have y4 : WyN cHigh (upd (upd (upd H3 d4 (.own w4)) w4 (.ins cHigh d4 [])) w4 (.ins cHigh d4 [("called", .str (Str.ofString "high"))])) w4 (Str.ofString "high") := ⟨d4, upd_same⟩
  generalize upd (upd (upd H3 d4 (.own w4)) w4 (.ins cHigh d4 [])) w4 (.ins cHigh d4 [("called", .str (Str.ofString "high"))]) = H4 at t4 y4 ⊢
  clear hw hdw hnw
  have y0 := y0.same t4
  have y1 := y1.same t4
  have y2 := y2.same t4
  have y3 := y3.same t4
  refine fun w5 d5 hw hdw hnw => ⟨w5, d5, rfl, upd_same, rfl, ?_⟩
  have t5 : Same H4 (upd (upd (upd H4 d5 (.own w5)) w5 (.ins cSum d5 [])) w5 (.ins cSum d5 [("called", .str (Str.ofString "sum"))])) := ((same_new hdw _).upd hw).upd hw
  have y5 : WyN cSum (upd (upd (upd H4 d5 (.own w5)) w5 (.ins cSum d5 [])) w5 (.ins cSum d5 [("called", .str (Str.ofString "sum"))])) w5 (Str.ofString "sum") := ⟨d5, upd_same⟩
  generalize upd (upd (upd H4 d5 (.own w5)) w5 (.ins cSum d5 [])) w5 (.ins cSum d5 [("called", .str (Str.ofString "sum"))]) = H5 at t5 y5 ⊢
  clear hw hdw hnw
  have y0 := y0.same t5
  have y1 := y1.same t5
  have y2 := y2.same t5
  have y3 := y3.same t5
  have y4 := y4.same t5
  have s5 : Same H H5 := ((((t0.trans t1).trans t2).trans t3).trans t4).trans t5
  refine ⟨(by show 6 ≤ sizeLine; decide), fun l hl => ?_⟩
  have sl : Same H5 (upd H5 l (.lst [V.ref w0, .ref w1, .ref w2, .ref w3, .ref w4, .ref w5])) := same_new hl _
  have el : upd H5 l (.lst [V.ref w0, .ref w1, .ref w2, .ref w3, .ref w4, .ref w5]) l = some (.lst [V.ref w0, .ref w1, .ref w2, .ref w3, .ref w4, .ref w5]) := upd_same
  generalize upd H5 l (.lst [V.ref w0, .ref w1, .ref w2, .ref w3, .ref w4, .ref w5]) = H6 at sl el ⊢
  have y0 := y0.same sl
  have y1 := y1.same sl
  have y2 := y2.same sl
  have y3 := y3.same sl
  have y4 := y4.same sl
  have y5 := y5.same sl
  have sA := s5.trans sl
  have key : ∀ (i : Nat) (x : V), [V.ref w0, .ref w1, .ref w2, .ref w3, .ref w4, .ref w5][i]? = some x → ∃ (a C : Addr) (y : Str), x = .ref a ∧ (cl6 cFirst cOnly cLike cLow cHigh cSum)[i]? = some C ∧ six[i]? = some y ∧ WyN C H6 a y ∧ Cls K C ∧ NoAttr K C (Str.ofString "called") := fun i x e => by
    match i, e with
    | 0, e => cases e; exact ⟨w0, cFirst, _, rfl, rfl, rfl, y0, bl.k_First, bl.na_First_called⟩
    | 1, e => cases e; exact ⟨w1, cOnly, _, rfl, rfl, rfl, y1, bl.k_Only, bl.na_Only_called⟩
    | 2, e => cases e; exact ⟨w2, cLike, _, rfl, rfl, rfl, y2, bl.k_Like, bl.na_Like_called⟩
    | 3, e => cases e; exact ⟨w3, cLow, _, rfl, rfl, rfl, y3, bl.k_Low, bl.na_Low_called⟩
    | 4, e => cases e; exact ⟨w4, cHigh, _, rfl, rfl, rfl, y4, bl.k_High, bl.na_High_called⟩
    | 5, e => cases e; exact ⟨w5, cSum, _, rfl, rfl, rfl, y5, bl.k_Sum, bl.na_Sum_called⟩
    | n + 6, e => simp at e
  refine ⟨l, rfl, ⟨_, SqL.of el⟩, for_list (xs := [V.ref w0, .ref w1, .ref w2, .ref w3, .ref w4, .ref w5]) (fun i σ H' => (∃ c1 : Option V, σ = [some (.str z), c1]) ∧ H' = H6 ∧ ∀ j : Nat, j < i → six[j]? ≠ some z) ⟨⟨_, rfl⟩, rfl, (fun j h => absurd h (Nat.not_lt_zero j))⟩ (fun i σ H' _ h => by rw [h.2.1]; exact SqL.of el) (fun i x σ H' e h => ?_) (fun σ H' h => ?_)⟩
  · obtain ⟨⟨c1, rfl⟩, e0, hno⟩ := h
    rw [e0]
    obtain ⟨a, C, y, rfl, eC, ey, ⟨dx, ha⟩, hc, hn⟩ := key i x e
    refine ⟨_, rfl, a, _, _, _, _, rfl, ha, hc, hn, rfl, _, rfl, rfl, _, rfl, ?_⟩
    refine ite2 (fun g => ?_) (fun g => ?_)
    · have g' : V.str y = V.str z := dec_t g
      injection g' with g'
      subst g'
      exact ⟨_, rfl, q i ey a C H6 sA eC ⟨dx, ha⟩⟩
    · refine ⟨⟨_, rfl⟩, rfl, fun j hj => ?_⟩
      by_cases hji : j < i
      · exact hno j hji
      · have : j = i := by omega
        subst this
        rw [ey]
        intro q2
        exact (dec_f g) (by injection q2 with q2; rw [q2])
  · obtain ⟨⟨c1, rfl⟩, e0, hno⟩ := h
    rw [e0]
    obtain ⟨j, hj, ej⟩ := List.getElem_of_mem hz
    exact absurd (by rw [List.getElem?_eq_getElem hj, ej]) (hno j hj)
theorem ok_Book___init___Book (F : Fun K "__init__" "Book.__init__" s_Book___init___Book f fd) (bl : Bl K mg cTableError cUnlike cRing cWay cFirst cOnly cLike cLow cHigh cSum cDomain cNumbers cWords cTable cBook) (c_refuse_counts_books : Callee P w K mg base 3 "refuse_counts_books" ["facts", "tables"] (sp_refuse_counts_books K cTableError cUnlike cRing cWay cFirst cOnly cLike cLow cHigh cSum cDomain cNumbers cWords cTable cBook)) (c_refuse_names_books : Callee P w K mg base 3 "refuse_names_books" ["facts", "tables"] (sp_refuse_names_books K cTableError cUnlike cRing cWay cFirst cOnly cLike cLow cHigh cSum cDomain cNumbers cWords cTable cBook)) (c_refuse_domains : Callee P w K mg base 3 "refuse_domains" ["facts", "tables"] (sp_refuse_domains K cTableError cUnlike cRing cWay cFirst cOnly cLike cLow cHigh cSum cDomain cNumbers cWords cTable cBook)) (c_refuse_rings : CalleeX P w K mg base 3 "refuse_rings" ["tables"] (sp_refuse_rings K cTableError cUnlike cRing cWay cFirst cOnly cLike cLow cHigh cSum cDomain cNumbers cWords cTable cBook)) : FnOk P w K mg base (CX1 P w) 4 f fd ["self", "facts", "tables"] (sp_Book___init___Book K cTableError cUnlike cRing cWay cFirst cOnly cLike cLow cHigh cSum cDomain cNumbers cWords cTable cBook) := by
  refine F.okE sc_Book___init___Book (fun vs H Q E h => ?_) (fun cdv A outer s H vs Q E hr h => ?_)
  · obtain ⟨x, dx, fa, ma, fv, mv, zs, ds, ts, fN, L, rfl, hx, efa, ema, hB, q, qE⟩ := h
    rfl
  obtain ⟨x, dx, fa, ma, fv, mv, zs, ds, ts, fN, L, rfl, hx, efa, ema, hB, q, qE⟩ := h
  refine ⟨_, (pss_cons (ps_expr (pe_fn c_refuse_counts_books hr rfl (pa_cons (pv 1) (pa_cons (pv 2) pa_nil))))
     (pss_cons (ps_expr (pe_fn c_refuse_names_books hr rfl (pa_cons (pv 1) (pa_cons (pv 2) pa_nil))))
     (pss_cons (ps_expr (pe_fn c_refuse_domains hr rfl (pa_cons (pv 1) (pa_cons (pv 2) pa_nil))))
     (pss_cons (ps_expr (pe_fnE c_refuse_rings passE hr rfl (pa_cons (pv 2) pa_nil)))
     (pss_cons (ps_fld (pv 0) (pe_compG (pi_list (pv 1)) (cmpOkG_plain (N := ["name", "domain"]) (k := 2) rfl rfl (by decide +kernel) (by decide +kernel) (by decide +kernel)) rfl (fun _ _ _ _ => (gTupK (K := K) (n := 2) rfl rfl (pgs_cons (pg_name (i := 0) (show (["name", "domain"] : List Str).Nodup by decide +kernel) rfl (Or.inl rfl) (Or.inr rfl)) (pgs_cons (pg_name (i := 1) (show (["name", "domain"] : List Str).Nodup by decide +kernel) rfl (Or.inl rfl) (Or.inr rfl)) pgs_nil)))) (fun _ _ _ _ => pif_nil) (fun _ _ _ _ => (pe_tup (pa_cons (pv 0) (pa_cons (pv 1) pa_nil))))) rfl)
     (pss_one (ps_fld (pv 0) (pe_callTy call_list_of rfl bl.list_ PyProof.Rows.boot_list (pa_cons (pv 2) pa_nil)) rfl))))))), ?_⟩
  obtain ⟨b1, b2, b3⟩ := hB.few
  have hfl : fv.length = fN := by rw [hB.facts.1, List.length_range]
  have hml : mv.length = L.length := hB.tabs.1
  refine ⟨_, rfl, _, rfl, fa, ma, fv, mv, rfl, efa, ema, by omega, by omega, ?_⟩
  refine ⟨_, rfl, _, rfl, fa, ma, fv, mv, zs, ds, ts, fN, L, rfl, efa, ema, hB, fun H1 s1 => ?_⟩
  refine ⟨_, rfl, _, rfl, fa, ma, fv, mv, zs, ds, ts, fN, L, rfl, s1 _ _ efa, s1 _ _ ema, hB.same s1, fun H2 s2 => ?_⟩
  have s12 := s1.trans s2
  refine ⟨_, rfl, ma, mv, zs, ds, ts, fN, L, rfl, s12 _ _ ema, hB.ok, (hB.same s12).tabs, hB.lt, by omega, (fun k hk => hB.all k (pth_lt hk)), fun hn H3 s3 => ?_, fun hc H3 s3 => qE hc H3 (s12.trans s3)⟩
  have s13 := s12.trans s3
  have efa3 := s13 _ _ efa
  have hB3 := hB.same s13
  refine ⟨_, rfl, fa, rfl, ⟨_, SqL.of efa3⟩, compG_list (xs := fv) (fun D i ys H' => Same H3 H' ∧ H' D = some (.lst ys) ∧ ys.length = i) (fun D hD => ⟨same_new hD _, upd_same, rfl⟩) (fun D i ys H' hD _ h => SqL.of (h.1 _ _ efa3)) (fun D i y ys H' hD e h ts' hts => ?_) (fun D ys H' hD h => ?_)⟩
  · obtain ⟨sm, eD, hy⟩ := h
    obtain ⟨r, k, rfl, ek, nm, po, d, z1, z2, g1, g2⟩ := RefL.get hB3.facts e
    have hi : i < fv.length := (List.getElem?_eq_some_iff.mp e).1
    obtain ⟨t0, t1, rfl⟩ : ∃ t0 t1, ts' = [t0, t1] := by
      match ts', hts with
      | [t0, t1], _ => exact ⟨t0, t1, rfl⟩
    refine ⟨r, _, rfl, SqT.of (sm _ _ g1), rfl, _, _, rfl, _, _, rfl, rfl, ⟨[some (.str nm), some (.ref d)], rfl, rfl⟩, ?_⟩
    refine ⟨_, rfl, _, rfl, (by show 2 ≤ sizeLine; decide), fun tp htp => ?_⟩
    have u := same_new htp (.tup [.str nm, .ref d])
    exact CYes.mk hi (u _ _ eD) (small1000 (by omega)) ⟨(sm.trans u).upd hD, upd_same, by rw [List.length_append, hy]; rfl⟩
  · obtain ⟨sm, eD, hy⟩ := h
    have hx3 : H3 x = some (.ins cBook dx []) := s13 _ _ hx
    refine ⟨_, rfl, x, _, dx, _, rfl, sm _ _ hx3, bl.k_Book, bl.na_Book_facts, (by show 0 < 1000; decide), ?_⟩
    have nDx : D ≠ x := fun z => by rw [z, hx3] at hD; cases hD
    have nmx : ma ≠ x := fun z => by rw [z, hx] at ema; cases ema
    have g1 : upd H' x (.ins cBook dx (putF (Str.ofString "facts") (V.ref D) [])) = upd H' x (.ins cBook dx [(Str.ofString "facts", V.ref D)]) := rfl
    rw [g1]
    have e2 : upd H' x (.ins cBook dx [(Str.ofString "facts", V.ref D)]) ma = some (.lst mv) := (upd_ne nmx).trans (sm _ _ (s13 _ _ ema))
    have x2 : upd H' x (.ins cBook dx [(Str.ofString "facts", V.ref D)]) x = some (.ins cBook dx [(Str.ofString "facts", V.ref D)]) := upd_same
    have k2 : ∀ b o, b ≠ x → H b = some o → upd H' x (.ins cBook dx [(Str.ofString "facts", V.ref D)]) b = some o := fun b o hb e => (upd_ne hb).trans (sm _ _ (s13 _ _ e))
    generalize upd H' x (.ins cBook dx [(Str.ofString "facts", V.ref D)]) = H4 at e2 x2 k2 ⊢
    refine ⟨_, rfl, ma, mv, rfl, .inl (SqL.of e2), fun c hc => ?_⟩
    have u := same_new hc (.lst mv)
    have ec : upd H4 c (.lst mv) c = some (.lst mv) := upd_same
    generalize upd H4 c (.lst mv) = H5 at u ec ⊢
    refine ⟨_, rfl, x, _, dx, _, rfl, u _ _ x2, bl.k_Book, bl.na_Book_tables, (by show 1 < 1000; decide), ?_⟩
    have ncx : c ≠ x := fun z => by rw [z, x2] at hc; cases hc
    exact q hn _ _ c (fun b o hb e => (upd_ne hb).trans (u _ _ (k2 b o hb e))) upd_same rfl ((upd_ne ncx).trans ec)
theorem ok_refuse_way (F : Fun K "refuse_way" "refuse_way" s_refuse_way f fd) (bl : Bl K mg cTableError cUnlike cRing cWay cFirst cOnly cLike cLow cHigh cSum cDomain cNumbers cWords cTable cBook) (c_way_by : Callee P w K mg base 4 "way_by" ["name"] (sp_way_by K cTableError cUnlike cRing cWay cFirst cOnly cLike cLow cHigh cSum cDomain cNumbers cWords cTable cBook)) : FnOk P w K mg base CX0 5 f fd ["way", "outcome"] (sp_refuse_way K cTableError cUnlike cRing cWay cFirst cOnly cLike cLow cHigh cSum cDomain cNumbers cWords cTable cBook) := by
  refine F.ok sc_refuse_way (fun vs H Q E h => ?_) (fun cdv A outer s H vs Q E hr h => ?_)
  · obtain ⟨z, ou, rfl, hz, hne, q⟩ := h
    rfl
  obtain ⟨z, ou, rfl, hz, hne, q⟩ := h
  refine ⟨_, (pss_one (ps_if (PW.pt (pw_and (pt_cmpR op_eq (pe_fld (pe_fn c_way_by hr rfl (pa_cons (pv 0) pa_nil)) rfl) pe_str (nomark _)) (pw_and1 (pt_val (pe_callB call_isiG rfl bl.isinstance_ PyProof.Rows.boot_isinstance (pa_cons (pv 1) (pa_cons (pe_glob (v := .ref cWords) rfl bl.Words_ rfl) pa_nil)))))))
     (pss_one ps_never)
     pss_nil)), ?_⟩
  refine ⟨_, rfl, z, rfl, hz, fun i ei x C H' s' eC hw => ?_⟩
  have hF : Cls K C ∧ NoAttr K C (Str.ofString "called") := by
    match i, eC with
    | 0, eC => cases eC; exact ⟨bl.k_First, bl.na_First_called⟩
    | 1, eC => cases eC; exact ⟨bl.k_Only, bl.na_Only_called⟩
    | 2, eC => cases eC; exact ⟨bl.k_Like, bl.na_Like_called⟩
    | 3, eC => cases eC; exact ⟨bl.k_Low, bl.na_Low_called⟩
    | 4, eC => cases eC; exact ⟨bl.k_High, bl.na_High_called⟩
    | 5, eC => cases eC; exact ⟨bl.k_Sum, bl.na_Sum_called⟩
    | n + 6, eC => simp [cl6] at eC
  obtain ⟨dx, hx⟩ := hw
  refine ⟨x, _, _, _, _, rfl, hx, hF.1, hF.2, rfl, rfl, _, rfl, ?_⟩
  by_cases hs : z = Str.ofString "sum"
  · obtain ⟨dy, fs, ho⟩ := hne hs
    exact iteTS (by rw [hs]) ⟨_, rfl, _, _, _, _, false, rfl, .ref _, bl.t_Numbers.ty (s' _ _ ho), bl.f_nw, _, rfl, iteF (q _ s')⟩
  · exact iteFS (fun e => by injection e with e; exact hs e) (iteF (q _ s'))
theorem ok_Table___init___Table (F : Fun K "__init__" "Table.__init__" s_Table___init___Table f fd) (bl : Bl K mg cTableError cUnlike cRing cWay cFirst cOnly cLike cLow cHigh cSum cDomain cNumbers cWords cTable cBook) (c_refuse_names_tables : Callee P w K mg base 5 "refuse_names_tables" ["names"] (sp_refuse_names_tables K cTableError cUnlike cRing cWay cFirst cOnly cLike cLow cHigh cSum cDomain cNumbers cWords cTable cBook)) (c_refuse_counts_tables : Callee P w K mg base 5 "refuse_counts_tables" ["names", "rows"] (sp_refuse_counts_tables K cTableError cUnlike cRing cWay cFirst cOnly cLike cLow cHigh cSum cDomain cNumbers cWords cTable cBook)) (c_refuse_way : Callee P w K mg base 5 "refuse_way" ["way", "outcome"] (sp_refuse_way K cTableError cUnlike cRing cWay cFirst cOnly cLike cLow cHigh cSum cDomain cNumbers cWords cTable cBook)) (c_refuse_row : Callee P w K mg base 5 "refuse_row" ["domains", "outcome", "cells", "code"] (sp_refuse_row K cTableError cUnlike cRing cWay cFirst cOnly cLike cLow cHigh cSum cDomain cNumbers cWords cTable cBook)) (c_own_row : Callee P w K mg base 5 "own_row" ["cells", "code"] (sp_own_row K cTableError cUnlike cRing cWay cFirst cOnly cLike cLow cHigh cSum cDomain cNumbers cWords cTable cBook)) : FnOk P w K mg base CX0 6 f fd ["self", "name", "names", "domains", "outcome", "way", "rows"] (sp_Table___init___Table K cTableError cUnlike cRing cWay cFirst cOnly cLike cLow cHigh cSum cDomain cNumbers cWords cTable cBook) := by
  refine F.ok sc_Table___init___Table (fun vs H Q E h => ?_) (fun cdv A outer s H vs Q E hr h => ?_)
  · obtain ⟨x, dx, na, dl, ou, rl, nm, wy, zs, dv, rx, bs, o, rws, rfl, hx, hna, hw, hnd, h1, h4, hwy, hws, hdl, hdv, hou, hrl, hR, h200, hb4, hok, q⟩ := h
    rfl
  obtain ⟨x, dx, na, dl, ou, rl, nm, wy, zs, dv, rx, bs, o, rws, rfl, hx, hna, hw, hnd, h1, h4, hwy, hws, hdl, hdv, hou, hrl, hR, h200, hb4, hok, q⟩ := h
  refine ⟨_, (pss_cons (ps_expr (pe_fn c_refuse_names_tables hr rfl (pa_cons (pe_op op_cat (pe_lst (pa_cons (pv 1) pa_nil)) (pv 2)) pa_nil)))
     (pss_cons (ps_expr (pe_fn c_refuse_counts_tables hr rfl (pa_cons (pv 2) (pa_cons (pv 6) pa_nil))))
     (pss_cons (ps_expr (pe_fn c_refuse_way hr rfl (pa_cons (pv 5) (pa_cons (pv 4) pa_nil))))
     (pss_cut (ps_for PassesOwn.never rfl (pi_list (pv 6)) (pg_tup rfl (pgs_cons (pg_name (i := 7) sc_Table___init___Table.nd rfl (Or.inl rfl)) (pgs_cons (pg_name (i := 8) sc_Table___init___Table.nd rfl (Or.inl rfl)) pgs_nil)))
     (pss_one (ps_expr (pe_fn c_refuse_row hr rfl (pa_cons (pv 3) (pa_cons (pv 4) (pa_cons (pv 7) (pa_cons (pv 8) pa_nil))))))))
     (pss_cons (ps_fld (pv 0) (pv 1) rfl)
     (pss_cons (ps_fld (pv 0) (pe_callTy call_list_of rfl bl.list_ PyProof.Rows.boot_list (pa_cons (pv 2) pa_nil)) rfl)
     (pss_cons (ps_fld (pv 0) (pe_callTy call_list_of rfl bl.list_ PyProof.Rows.boot_list (pa_cons (pv 3) pa_nil)) rfl)
     (pss_cons (ps_fld (pv 0) (pv 4) rfl)
     (pss_cons (ps_fld (pv 0) (pv 5) rfl)
     (pss_one (ps_fld (pv 0) (pe_compG (pi_list (pv 6)) (cmpOkG_plain (N := ["cells", "code"]) (k := 2) rfl rfl (by decide +kernel) (by decide +kernel) (by decide +kernel)) rfl (fun _ _ _ _ => (gTupK (K := K) (n := 2) rfl rfl (pgs_cons (pg_name (i := 0) (show (["cells", "code"] : List Str).Nodup by decide +kernel) rfl (Or.inl rfl) (Or.inr rfl)) (pgs_cons (pg_name (i := 1) (show (["cells", "code"] : List Str).Nodup by decide +kernel) rfl (Or.inl rfl) (Or.inr rfl)) pgs_nil)))) (fun _ _ _ _ => pif_nil) (fun _ _ _ _ => (pe_fn c_own_row hr rfl (pa_cons (pv 0) (pa_cons (pv 1) pa_nil))))) rfl))))))))))), ?_⟩
  have hzl : (zs.map V.str).length = zs.length := List.length_map _
  refine ⟨_, rfl, (by show 1 ≤ sizeLine; decide), fun l1 hl1 => ?_⟩
  have s1 := same_new hl1 (.lst [.str nm])
  have e1 : upd H l1 (.lst [.str nm]) l1 = some (.lst [.str nm]) := upd_same
  generalize upd H l1 (.lst [.str nm]) = H1 at s1 e1 ⊢
  refine ⟨_, rfl, l1, na, _, _, rfl, rfl, e1, s1 _ _ hna, (by rw [hzl]; show 1 + zs.length ≤ sizeLine; exact big (by omega)), fun l2 hl2 => ?_⟩
  have s2 := s1.trans (same_new hl2 (.lst ([V.str nm] ++ zs.map V.str)))
  have e2 : upd H1 l2 (.lst ([V.str nm] ++ zs.map V.str)) l2 = some (.lst ((nm :: zs).map V.str)) := upd_same
  generalize upd H1 l2 (.lst ([V.str nm] ++ zs.map V.str)) = H2 at s2 e2 ⊢
  refine ⟨l2, nm :: zs, rfl, SqL.of e2, hw, hnd, by rw [List.length_cons]; omega, fun H3 t3 => ?_⟩
  have s3 := s2.trans t3
  refine ⟨_, rfl, _, rfl, na, rl, _, _, rfl, SqL.of (s3 _ _ hna), SqL.of (s3 _ _ hrl), by rw [hzl]; exact h1, by rw [hzl]; exact h4, h200, ?_⟩
  refine ⟨_, rfl, _, rfl, wy, ou, rfl, hwy, (fun z => let ⟨dx', fs', e'⟩ := hws z; ⟨dx', fs', s3 _ _ e'⟩), fun H4 t4 => ?_⟩
  have s4 := s3.trans t4
  refine ⟨fun σ' H' => Same H H' ∧ ∃ c7 c8 : Option V, σ' = [some (.ref x), some (.str nm), some (.ref na), some (.ref dl), some (.ref ou), some (.str wy), some (.ref rl), c7, c8], ?_, ?_⟩
  · refine ⟨_, rfl, rl, rfl, ⟨_, SqL.of (s4 _ _ hrl)⟩, for_list (xs := rx) (fun i σ H' => Same H H' ∧ ∃ c7 c8 : Option V, σ = [some (.ref x), some (.str nm), some (.ref na), some (.ref dl), some (.ref ou), some (.str wy), some (.ref rl), c7, c8]) ⟨s4, _, _, rfl⟩ (fun i σ H' _ h => SqL.of (h.1 _ _ hrl)) (fun i y σ H' e h => ?_) (fun σ H' h => h)⟩
    obtain ⟨sm, c7, c8, rfl⟩ := h
    obtain ⟨r, w_, rfl, ew, ce, cv, g1, _, g2, g3⟩ := RefL.get (hR.same sm) e
    refine ⟨r, _, rfl, SqT.of g1, rfl, _, _, rfl, _, _, rfl, rfl, ?_⟩
    exact ⟨_, rfl, _, rfl, _, rfl, _, rfl, dl, ou, ce, dv, cv, bs, o, w_, rfl, SqL.of (sm _ _ hdl), RefL.mono hdv fun _ _ p => p.same sm, hou.same sm, g2, g3, hok w_ (List.mem_of_getElem? ew), fun H2 t2 => ⟨sm.trans t2, _, _, rfl⟩⟩
  rintro σ5 H5 ⟨s5, c7, c8, rfl⟩
  have x5 := s5 _ _ hx
  have nax : na ≠ x := ne_of hna hx (by intro z; cases z)
  have dlx : dl ≠ x := ne_of hdl hx (by intro z; cases z)
  have rlx : rl ≠ x := ne_of hrl hx (by intro z; cases z)
  have k5 : ∀ b o, b ≠ x → H b = some o → H5 b = some o := fun b o _ e => s5 b o e
  have R5 := RL.hide x5 (hR.same s5)
  -- name
  refine ⟨_, rfl, _, rfl, x, _, dx, _, rfl, x5, bl.k_Table, bl.na_Table_name, (by show 0 < 1000; decide), ?_⟩
  have k6 : ∀ b o, b ≠ x → H5 b = some o → upd H5 x (.ins cTable dx [(Str.ofString "name", .str nm)]) b = some o := fun b o hb e => (upd_ne hb).trans e
  have x6 : upd H5 x (.ins cTable dx [(Str.ofString "name", .str nm)]) x = some (.ins cTable dx [(Str.ofString "name", .str nm)]) := upd_same
  have g6 : upd H5 x (.ins cTable dx (putF (Str.ofString "name") (.str nm) [])) = upd H5 x (.ins cTable dx [(Str.ofString "name", .str nm)]) := rfl
  rw [g6]
  clear g6
  generalize upd H5 x (.ins cTable dx [(Str.ofString "name", .str nm)]) = H6 at k6 x6 ⊢
  refine ⟨_, rfl, na, _, rfl, .inl (SqL.of (k6 _ _ nax (s5 _ _ hna))), fun m1 hm1 => ⟨_, rfl, x, _, dx, _, rfl, ret_r1 x6 hm1, bl.k_Table, bl.na_Table_names, (by show 1 < 1000; decide), ?_⟩⟩
  have g7 : upd (upd H6 m1 (.lst (zs.map V.str))) x (.ins cTable dx (putF (Str.ofString "names") (V.ref m1) [(Str.ofString "name", V.str nm)])) = upd (upd H6 m1 (.lst (zs.map V.str))) x (.ins cTable dx [(Str.ofString "name", V.str nm), (Str.ofString "names", V.ref m1)]) := by rw [pf1]
  rw [g7]
  clear g7
  have k7 : ∀ b o, b ≠ x → H5 b = some o → upd (upd H6 m1 (.lst (zs.map V.str))) x (.ins cTable dx [(Str.ofString "name", V.str nm), (Str.ofString "names", V.ref m1)]) b = some o := fun b o hb e => (upd_ne hb).trans (ret_r1 (k6 b o hb e) hm1)
  have x7 : upd (upd H6 m1 (.lst (zs.map V.str))) x (.ins cTable dx [(Str.ofString "name", V.str nm), (Str.ofString "names", V.ref m1)]) x = some (.ins cTable dx [(Str.ofString "name", V.str nm), (Str.ofString "names", V.ref m1)]) := upd_same
  have m1x : m1 ≠ x := fun z => by rw [z, x6] at hm1; cases hm1
  have j7 : upd (upd H6 m1 (.lst (zs.map V.str))) x (.ins cTable dx [(Str.ofString "name", V.str nm), (Str.ofString "names", V.ref m1)]) m1 = some (.lst (zs.map V.str)) := (upd_ne m1x).trans upd_same
  generalize upd (upd H6 m1 (.lst (zs.map V.str))) x (.ins cTable dx [(Str.ofString "name", V.str nm), (Str.ofString "names", V.ref m1)]) = H7 at k7 x7 j7 ⊢
  refine ⟨_, rfl, dl, _, rfl, .inl (SqL.of (k7 _ _ dlx (s5 _ _ hdl))), fun m2 hm2 => ⟨_, rfl, x, _, dx, _, rfl, ret_r1 x7 hm2, bl.k_Table, bl.na_Table_domains, (by show 2 < 1000; decide), ?_⟩⟩
  have g8 : upd (upd H7 m2 (.lst dv)) x (.ins cTable dx (putF (Str.ofString "domains") (V.ref m2) [(Str.ofString "name", V.str nm), (Str.ofString "names", V.ref m1)])) = upd (upd H7 m2 (.lst dv)) x (.ins cTable dx [(Str.ofString "name", V.str nm), (Str.ofString "names", V.ref m1), (Str.ofString "domains", V.ref m2)]) := by rw [pf2]
  rw [g8]
  clear g8
  have k8 : ∀ b o, b ≠ x → H5 b = some o → upd (upd H7 m2 (.lst dv)) x (.ins cTable dx [(Str.ofString "name", V.str nm), (Str.ofString "names", V.ref m1), (Str.ofString "domains", V.ref m2)]) b = some o := fun b o hb e => (upd_ne hb).trans (ret_r1 (k7 b o hb e) hm2)
  have x8 : upd (upd H7 m2 (.lst dv)) x (.ins cTable dx [(Str.ofString "name", V.str nm), (Str.ofString "names", V.ref m1), (Str.ofString "domains", V.ref m2)]) x = some (.ins cTable dx [(Str.ofString "name", V.str nm), (Str.ofString "names", V.ref m1), (Str.ofString "domains", V.ref m2)]) := upd_same
  have m2x : m2 ≠ x := fun z => by rw [z, x7] at hm2; cases hm2
  have j8 : upd (upd H7 m2 (.lst dv)) x (.ins cTable dx [(Str.ofString "name", V.str nm), (Str.ofString "names", V.ref m1), (Str.ofString "domains", V.ref m2)]) m1 = some (.lst (zs.map V.str)) := (upd_ne m1x).trans (ret_r1 j7 hm2)
  have i8 : upd (upd H7 m2 (.lst dv)) x (.ins cTable dx [(Str.ofString "name", V.str nm), (Str.ofString "names", V.ref m1), (Str.ofString "domains", V.ref m2)]) m2 = some (.lst dv) := (upd_ne m2x).trans upd_same
  generalize upd (upd H7 m2 (.lst dv)) x (.ins cTable dx [(Str.ofString "name", V.str nm), (Str.ofString "names", V.ref m1), (Str.ofString "domains", V.ref m2)]) = H8 at k8 x8 j8 i8 ⊢
  refine ⟨_, rfl, _, rfl, x, _, dx, _, rfl, x8, bl.k_Table, bl.na_Table_outcome, (by show 3 < 1000; decide), ?_⟩
  have g9 : upd H8 x (.ins cTable dx (putF (Str.ofString "outcome") (V.ref ou) [(Str.ofString "name", V.str nm), (Str.ofString "names", V.ref m1), (Str.ofString "domains", V.ref m2)])) = upd H8 x (.ins cTable dx [(Str.ofString "name", V.str nm), (Str.ofString "names", V.ref m1), (Str.ofString "domains", V.ref m2), (Str.ofString "outcome", V.ref ou)]) := by rw [pf3]
  rw [g9]
  clear g9
  have k9 : ∀ b o, b ≠ x → H5 b = some o → upd H8 x (.ins cTable dx [(Str.ofString "name", V.str nm), (Str.ofString "names", V.ref m1), (Str.ofString "domains", V.ref m2), (Str.ofString "outcome", V.ref ou)]) b = some o := fun b o hb e => (upd_ne hb).trans (k8 b o hb e)
  have x9 : upd H8 x (.ins cTable dx [(Str.ofString "name", V.str nm), (Str.ofString "names", V.ref m1), (Str.ofString "domains", V.ref m2), (Str.ofString "outcome", V.ref ou)]) x = some (.ins cTable dx [(Str.ofString "name", V.str nm), (Str.ofString "names", V.ref m1), (Str.ofString "domains", V.ref m2), (Str.ofString "outcome", V.ref ou)]) := upd_same
  have j9 : upd H8 x (.ins cTable dx [(Str.ofString "name", V.str nm), (Str.ofString "names", V.ref m1), (Str.ofString "domains", V.ref m2), (Str.ofString "outcome", V.ref ou)]) m1 = some (.lst (zs.map V.str)) := (upd_ne m1x).trans j8
  have i9 : upd H8 x (.ins cTable dx [(Str.ofString "name", V.str nm), (Str.ofString "names", V.ref m1), (Str.ofString "domains", V.ref m2), (Str.ofString "outcome", V.ref ou)]) m2 = some (.lst dv) := (upd_ne m2x).trans i8
  generalize upd H8 x (.ins cTable dx [(Str.ofString "name", V.str nm), (Str.ofString "names", V.ref m1), (Str.ofString "domains", V.ref m2), (Str.ofString "outcome", V.ref ou)]) = H9 at k9 x9 j9 i9 ⊢
  refine ⟨_, rfl, _, rfl, x, _, dx, _, rfl, x9, bl.k_Table, bl.na_Table_way, (by show 4 < 1000; decide), ?_⟩
  have g10 : upd H9 x (.ins cTable dx (putF (Str.ofString "way") (V.str wy) [(Str.ofString "name", V.str nm), (Str.ofString "names", V.ref m1), (Str.ofString "domains", V.ref m2), (Str.ofString "outcome", V.ref ou)])) = upd H9 x (.ins cTable dx [(Str.ofString "name", V.str nm), (Str.ofString "names", V.ref m1), (Str.ofString "domains", V.ref m2), (Str.ofString "outcome", V.ref ou), (Str.ofString "way", V.str wy)]) := by rw [pf4]
  rw [g10]
  clear g10
  have k10 : ∀ b o, b ≠ x → H5 b = some o → upd H9 x (.ins cTable dx [(Str.ofString "name", V.str nm), (Str.ofString "names", V.ref m1), (Str.ofString "domains", V.ref m2), (Str.ofString "outcome", V.ref ou), (Str.ofString "way", V.str wy)]) b = some o := fun b o hb e => (upd_ne hb).trans (k9 b o hb e)
  have x10 : upd H9 x (.ins cTable dx [(Str.ofString "name", V.str nm), (Str.ofString "names", V.ref m1), (Str.ofString "domains", V.ref m2), (Str.ofString "outcome", V.ref ou), (Str.ofString "way", V.str wy)]) x = some (.ins cTable dx [(Str.ofString "name", V.str nm), (Str.ofString "names", V.ref m1), (Str.ofString "domains", V.ref m2), (Str.ofString "outcome", V.ref ou), (Str.ofString "way", V.str wy)]) := upd_same
  have j10 : upd H9 x (.ins cTable dx [(Str.ofString "name", V.str nm), (Str.ofString "names", V.ref m1), (Str.ofString "domains", V.ref m2), (Str.ofString "outcome", V.ref ou), (Str.ofString "way", V.str wy)]) m1 = some (.lst (zs.map V.str)) := (upd_ne m1x).trans j9
  have i10 : upd H9 x (.ins cTable dx [(Str.ofString "name", V.str nm), (Str.ofString "names", V.ref m1), (Str.ofString "domains", V.ref m2), (Str.ofString "outcome", V.ref ou), (Str.ofString "way", V.str wy)]) m2 = some (.lst dv) := (upd_ne m2x).trans i9
  generalize upd H9 x (.ins cTable dx [(Str.ofString "name", V.str nm), (Str.ofString "names", V.ref m1), (Str.ofString "domains", V.ref m2), (Str.ofString "outcome", V.ref ou), (Str.ofString "way", V.str wy)]) = H10 at k10 x10 j10 i10 ⊢
  have R10 : RL NT H10 rx rws := RL.same R5 (hide_same k10)
  have hrl10 := k10 _ _ rlx (s5 _ _ hrl)
  refine ⟨_, rfl, rl, rfl, ⟨_, SqL.of hrl10⟩, compG_list (xs := rx) (fun D i zs H' => Same H10 H' ∧ H' D = some (.lst zs) ∧ RL (Fr H10 D) H' zs (rws.take i))
    (fun D hD => ⟨same_new hD _, upd_same, RefL.nil⟩) (fun D i zs H' hD _ h => SqL.of (h.1 _ _ hrl10)) (fun D i y zs H' hD e h ts hts => ?_) (fun D zs H' hD h => ?_)⟩
  · obtain ⟨sm, eD, hz⟩ := h
    obtain ⟨r, w_, rfl, ew, ce, cv, g1, _, g2, g3⟩ := RefL.get (R10.same sm) e
    have hi : i < rx.length := (List.getElem?_eq_some_iff.mp e).1
    obtain ⟨t0, t1, rfl⟩ : ∃ t0 t1, ts = [t0, t1] := by
      match ts, hts with
      | [t0, t1], _ => exact ⟨t0, t1, rfl⟩
    refine ⟨r, _, rfl, SqT.of g1, rfl, _, _, rfl, _, _, rfl, rfl, ⟨[some (.ref ce), some (.int w_.2)], rfl, rfl⟩, ?_⟩
    refine ⟨_, rfl, _, rfl, ce, cv, w_, rfl, g2, g3, by rw [(hok w_ (List.mem_of_getElem? ew)).len]; omega, fun r2 H2 t2 hr2 hrow => ?_⟩
    have eD2 := t2 _ _ eD
    have hlz : zs.length ≤ 200 := by
      have := hz.1
      rw [List.length_take] at this
      omega
    refine CYes.mk hi eD2 (small1000 (by omega)) ⟨(sm.trans t2).upd hD, upd_same, ?_⟩
    rw [take_snoc ew]
    exact RL.updN (RefL.snoc (hz.same t2) (hrow.wk fun a h => ⟨sm.free h, fun z => by rw [z, eD] at h; cases h⟩)) Fr.out eD2
  · obtain ⟨sm, eD, hz⟩ := h
    rw [hR.1, List.take_length] at hz
    refine ⟨_, rfl, x, _, dx, _, rfl, sm _ _ x10, bl.k_Table, bl.na_Table_rows, (by show 5 < 1000; decide), ?_⟩
    have g11 : upd H' x (.ins cTable dx (putF (Str.ofString "rows") (V.ref D) [(Str.ofString "name", V.str nm), (Str.ofString "names", V.ref m1), (Str.ofString "domains", V.ref m2), (Str.ofString "outcome", V.ref ou), (Str.ofString "way", V.str wy)])) = upd H' x (.ins cTable dx [(Str.ofString "name", V.str nm), (Str.ofString "names", V.ref m1), (Str.ofString "domains", V.ref m2), (Str.ofString "outcome", V.ref ou), (Str.ofString "way", V.str wy), (Str.ofString "rows", V.ref D)]) := by rw [pf5]
    rw [g11]
    have nDx : D ≠ x := fun z => by rw [z, x10] at hD; cases hD
    refine q _ _ D zs (fun b o hb e => (upd_ne hb).trans (sm _ _ (k10 b o hb (s5 _ _ e)))) upd_same rfl rfl rfl rfl ⟨m1, m2, s5.free (free_back k6 x6 hm1), s5.free (free_back k7 x7 hm2), rfl, rfl, (upd_ne m1x).trans (sm _ _ j10), (upd_ne m2x).trans (sm _ _ i10)⟩ (s5.free (free_back k10 x10 hD)) ((upd_ne nDx).trans eD) ?_
    exact RL.same (RL.hideN (sm _ _ x10) (RefL.mono hz fun _ _ p => p.wk fun a h => s5.free (free_back k10 x10 h.1))) (hide_same fun b o hb e => (upd_ne hb).trans e)
theorem ok_law_net_table (F : Fun K "_law_net_table" "_law_net_table" s_law_net_table f fd) (bl : Bl K mg cTableError cUnlike cRing cWay cFirst cOnly cLike cLow cHigh cSum cDomain cNumbers cWords cTable cBook) (k_Numbers : MkCallee CX0 P w K mg base 6 "Numbers" cNumbers ["self", "low", "high"] (sp_Numbers___init___Numbers K cTableError cUnlike cRing cWay cFirst cOnly cLike cLow cHigh cSum cDomain cNumbers cWords cTable cBook)) (k_Table : MkCallee CX0 P w K mg base 6 "Table" cTable ["self", "name", "names", "domains", "outcome", "way", "rows"] (sp_Table___init___Table K cTableError cUnlike cRing cWay cFirst cOnly cLike cLow cHigh cSum cDomain cNumbers cWords cTable cBook)) : FnOk P w K mg base CX0 8 f fd ["name", "heads", "mode"] (sp_law_net_table K cTableError cUnlike cRing cWay cFirst cOnly cLike cLow cHigh cSum cDomain cNumbers cWords cTable cBook) := by
  refine F.ok sc_law_net_table (fun vs H Q E h => ?_) (fun cdv A outer s H vs Q E hr h => ?_)
  · obtain ⟨nm, ha, zs, ds, ts, fN, k, t, md, rfl, hmd, et, enm, epo, hds, hl1, hw, hnd, hcs, hcn, hc1, hc4, hwy, hrw_, eha, q⟩ := h
    rfl
  obtain ⟨nm, ha, zs, ds, ts, fN, k, t, md, rfl, hmd, et, enm, epo, hds, hl1, hw, hnd, hcs, hcn, hc1, hc4, hwy, hrw_, eha, q⟩ := h
  refine ⟨_, (pss_cut (ps_set (i := 3) sc_law_net_table.nd rfl (Or.inl rfl) (pe_mk k_Numbers pass0 hr rfl (pa_cons pe_int (pa_cons (pe_op op_add pe_int (pv 2)) pa_nil))))
     (pss_cut (ps_compN (i := 4) sc_law_net_table.nd rfl (Or.inl rfl) (pi_range1 rfl bl.range_ (pa_cons pe_int pa_nil)) (cmpOkN_mk (N := ["k", "heads"]) (k := 1) (fr := [1]) (cl := [("heads", s.heap.objs.size + 1)]) rfl rfl (by decide +kernel) rfl ⟨⟨_, _, rfl, rfl, rfl, rfl, rfl, fun _ => rfl⟩, trivial⟩ (List.forall_mem_cons.mpr ⟨rfl, List.forall_mem_nil _⟩) (fun _ => rfl)) rfl (fun _ C1 _ _ => (pg_name (i := 0) (show (["k", "heads"] : List Str).Nodup by decide +kernel) rfl (Or.inr rfl) (Or.inl rfl))) (fun _ C1 _ _ => pif_nil) (fun _ C1 _ _ => (pe_tup (pa_cons (pe_compG (pi_listK (K := K) rfl (pv 1)) (cmpOkG_free (N := ["head", "k"]) (k := 1) (fr := [0]) (cl := [("k", C1 + 1)]) rfl rfl (by decide +kernel) (by decide +kernel) rfl rfl (List.forall_mem_cons.mpr ⟨rfl, List.forall_mem_nil _⟩) rfl) rfl (fun _ C2 _ _ => (pg_name (i := 0) (show (["head", "k"] : List Str).Nodup by decide +kernel) rfl (Or.inl rfl) (Or.inr rfl))) (fun _ C2 _ _ => pif_nil) (fun _ C2 _ _ => (pe_lst (pa_cons (pe_tup (pa_cons (pv 1) (pa_cons (pe_op op_add (pv 1) pe_int) pa_nil))) pa_nil)))) (pa_cons (pe_op op_sub pe_int (pv 0)) pa_nil)))))
     (pss_one (ps_ret (pe_mk k_Table pass0 hr rfl (pa_cons (pv 0) (pa_cons (pv 1) (pa_cons (pe_comp (pi_list (pv 1)) (cmpOk_free (N := ["head", "mode"]) (fr := [2]) (cl := [("mode", s.heap.objs.size + 1 + 1)]) rfl rfl (by decide +kernel) (by decide +kernel) rfl (by decide +kernel) rfl rfl rfl (List.forall_mem_cons.mpr ⟨rfl, List.forall_mem_nil _⟩) rfl) rfl (fun _ _ _ _ => pif_nil) (fun _ _ _ _ => (pe_mk k_Numbers pass0 hr rfl (pa_cons pe_int (pa_cons (pe_op op_add pe_int (pv 1)) pa_nil))))) (pa_cons (pv 3) (pa_cons pe_str (pa_cons (pv 4) pa_nil))))))))))), ?_⟩
  have ltz : ∀ j ∈ t.cols, j < zs.length := fun j hj => (hcs j hj).1
  have gz := prm_get (os := t.cols) (xs := zs) ltz
  have hzl : ((prm t.cols zs).map V.str).length = t.cols.length := by rw [List.length_map, gz.1]
  refine ⟨fun σ' H' => Same H H' ∧ ∃ ou : Addr, NumD cNumbers H' ou 0 (9 + md) ∧ σ' = [some (.str nm), some (.ref ha), some (.int md), some (.ref ou), none], ?_, ?_⟩
  · refine ⟨_, rfl, _, _, rfl, rfl, fun x dx hx hdx hne => ⟨x, dx, 0, 9 + md, rfl, upd_same, by omega, rfl, ?_, x, ?_, rfl⟩⟩
    · unfold mkd
      exact (((same_new hdx _).upd hx).upd hx).upd hx
    · exact ⟨dx, upd_same⟩
  rintro σ1 H1 ⟨s1, ou, hou, rfl⟩
  refine ⟨fun σ' H' => Same H1 H' ∧ ∃ (ro : Addr) (zx : List V), H' ro = some (.lst zx) ∧ RL NT H' zx (nrw t.cols.length) ∧ σ' = [some (.str nm), some (.ref ha), some (.int md), some (.ref ou), some (.ref ro)], ?_, ?_⟩
  · refine ⟨_, rfl, (by decide), (by decide), compG_range (fun D i ys H' => Same H1 H' ∧ H' D = some (.lst ys) ∧ RefL ys ((nrw t.cols.length).take i) (RowA NT (hide H' D))) (fun D hD => ⟨same_new hD _, upd_same, RefL.nil⟩) (fun D i ys H' hD hi h ts_ hts => ?_) (fun D ys H' hD h => ?_)⟩
    · obtain ⟨sm, eD, hz⟩ := h
      obtain ⟨v0, rfl⟩ : ∃ v0, ts_ = [v0] := by
        match ts_, hts with
        | [v0], _ => exact ⟨v0, rfl⟩
      have hi2 : i < 2 := hi
      have ew := nrw_at (n := t.cols.length) hi2
      have hyl : ys.length ≤ 2 := by have := hz.1; rw [List.length_take] at this; omega
      have s1m := s1.trans sm
      refine ⟨⟨[some (.int (0 + (i : Int)))], rfl, rfl⟩, _, rfl, ha, rfl, ⟨_, SqL.of (s1m _ _ eha)⟩, compG_list (xs := (prm t.cols zs).map V.str) (fun D2 j ws H4 => Same H' H4 ∧ H4 D2 = some (.lst ws) ∧ CL (Fr H' D2) H4 ws (List.replicate j [(0 + (i : Int), 0 + (i : Int) + 1)])) (fun D2 hD2 => ⟨same_new hD2 _, upd_same, RefL.nil⟩) (fun D2 j ws H4 hD2 _ h => SqL.of ((s1m.trans h.1) _ _ eha)) (fun D2 j y ws H4 hD2 e2 h ts2 hts2 => ?_) (fun D2 ws H4 hD2 h => ?_)⟩
      · obtain ⟨s4, eD2, hw_⟩ := h
        obtain ⟨v1, rfl⟩ : ∃ v1, ts2 = [v1] := by
          match ts2, hts2 with
          | [v1], _ => exact ⟨v1, rfl⟩
        have hj : j < ((prm t.cols zs).map V.str).length := (List.getElem?_eq_some_iff.mp e2).1
        refine ⟨⟨[some y], rfl, rfl⟩, _, rfl, _, rfl, _, _, rfl, rfl, small2, fun tp htp => ?_⟩
        have u0 := same_new htp (.tup [.int (0 + (i : Int)), .int (0 + (i : Int) + 1)])
        have etp : upd H4 tp (.tup [.int (0 + (i : Int)), .int (0 + (i : Int) + 1)]) tp = some (.tup [.int (0 + (i : Int)), .int (0 + (i : Int) + 1)]) := upd_same
        generalize upd H4 tp (.tup [.int (0 + (i : Int)), .int (0 + (i : Int) + 1)]) = H5 at u0 etp ⊢
        refine ⟨(by show 1 ≤ sizeLine; decide), fun p hp => ?_⟩
        have u1 := same_new hp (.lst [.ref tp])
        have ep : upd H5 p (.lst [.ref tp]) p = some (.lst [.ref tp]) := upd_same
        generalize upd H5 p (.lst [.ref tp]) = H6 at u1 ep ⊢
        have sB := u0.trans u1
        have eD6 := sB _ _ eD2
        have nD2 : p ≠ D2 := fun z => by rw [z, u0 _ _ eD2] at hp; cases hp
        have hp' : H' p = none := s4.free (u0.free hp)
        have hw2 : CL (Fr H' D2) H6 (ws ++ [.ref p]) (List.replicate j [(0 + (i : Int), 0 + (i : Int) + 1)] ++ [[(0 + (i : Int), 0 + (i : Int) + 1)]]) := RefL.snoc (hw_.same sB) ⟨⟨hp', nD2⟩, [.ref tp], ep, .cons ⟨tp, rfl, u1 _ _ etp⟩ .nil⟩
        refine CYes.mk hj eD6 (small1000 (by have := hw_.1; rw [List.length_replicate] at this; omega)) ⟨(s4.trans sB).upd hD2, upd_same, ?_⟩
        rw [List.replicate_succ']
        exact hw2.updN Fr.out eD6
      · obtain ⟨s4, eD2, hw_⟩ := h
        rw [hzl] at hw_
        have nD2 : D2 ≠ D := fun z => by rw [z, eD] at hD2; cases hD2
        refine ⟨_, rfl, _, _, rfl, rfl, small2, fun tt_ htt => ?_⟩
        have u5 := same_new htt (.tup [.ref D2, .int (9 - (0 + (i : Int)))])
        have eT : upd H4 tt_ (.tup [.ref D2, .int (9 - (0 + (i : Int)))]) tt_ = some (.tup [.ref D2, .int (9 - (0 + (i : Int)))]) := upd_same
        generalize upd H4 tt_ (.tup [.ref D2, .int (9 - (0 + (i : Int)))]) = H5 at u5 eT ⊢
        have uA := s4.trans u5
        have eD5 := uA _ _ eD
        have hrow : RowA NT (hide H5 D) tt_ (nrwR t.cols.length i) := ⟨D2, ws, hide_tups eD5 _ _ eT, trivial, hide_of (u5 _ _ eD2) nD2, RefL.mono (hw_.same u5) fun l ps ⟨⟨n1, _⟩, yl, el, hpl⟩ => ⟨trivial, yl, hide_of el (fun z => by rw [z, eD] at n1; cases n1), hpl.mono (hide_tups eD5)⟩⟩
        refine CYes.mk hi eD5 (small1000 (by omega)) ⟨(sm.trans uA).upd hD, upd_same, ?_⟩
        rw [hide_upd, take_snoc ew]
        exact RefL.snoc (RefL.mono hz fun _ _ p => p.same (hide_mono uA)) hrow
    · obtain ⟨sm, eD, hz⟩ := h
      have e2 : (nrw t.cols.length).take (Int.toNat 2) = nrw t.cols.length := rfl
      rw [e2] at hz
      exact ⟨sm, D, ys, eD, RefL.mono hz (fun _ _ p => p.same (hide_le H' D)), rfl⟩
  rintro σ2 H2 ⟨s2, ro, zx, ero, hro, rfl⟩
  have s12 := s1.trans s2
  refine ⟨_, rfl, _, rfl, _, rfl, ha, rfl, ⟨_, SqL.of (s12 _ _ eha)⟩, comp_list (xs := (prm t.cols zs).map V.str) (fun D i ys H' => Same H2 H' ∧ H' D = some (.lst ys) ∧ RefL ys (List.replicate i (pdm md).k) (DomN (Fr H2 D) cNumbers cWords H')) (fun D hD => ⟨same_new hD _, upd_same, RefL.nil⟩) (fun D i ys H' hD _ h => SqL.of ((s12.trans h.1) _ _ eha)) (fun D i y ys H' hD e h => ?_) (fun D ys H' hD h => ?_)⟩
  · obtain ⟨sm, eD, hz⟩ := h
    have hi : i < ((prm t.cols zs).map V.str).length := (List.getElem?_eq_some_iff.mp e).1
    refine ⟨_, rfl, _, _, rfl, rfl, fun x dx hx hdx hne => ⟨x, dx, 0, 9 + md, rfl, upd_same, by omega, rfl, ?_⟩⟩
    have s6 : Same H' (mkd cNumbers (upd (upd H' dx (.own x)) x (.ins cNumbers dx [])) x dx 0 (9 + md)) := by unfold mkd; exact (((same_new hdx _).upd hx).upd hx).upd hx
    have e6 : NumD cNumbers (mkd cNumbers (upd (upd H' dx (.own x)) x (.ins cNumbers dx [])) x dx 0 (9 + md)) x 0 (9 + md) := ⟨dx, upd_same⟩
    generalize mkd cNumbers (upd (upd H' dx (.own x)) x (.ins cNumbers dx [])) x dx 0 (9 + md) = H6 at s6 e6 ⊢
    have eD6 := s6 _ _ eD
    have hz2 : RefL (ys ++ [.ref x]) (List.replicate i (pdm md).k ++ [(pdm md).k]) (DomN (Fr H2 D) cNumbers cWords H6) := RefL.snoc (RefL.mono hz fun _ _ p => p.same s6) e6
    refine CYes.mk hi eD6 (small1000 (by rw [hz.1, List.length_replicate]; omega)) ⟨(sm.trans s6).upd hD, upd_same, ?_⟩
    rw [List.replicate_succ']
    exact RefL.mono hz2 fun _ _ p => p.upd Fr.out eD6
  · obtain ⟨sm, eD, hz⟩ := h
    rw [hzl] at hz
    refine ⟨_, rfl, _, rfl, fun x dx hx hdx hne => ?_⟩
    have s8 : Same H' (upd (upd H' dx (.own x)) x (.ins cTable dx [])) := (same_new hdx _).upd hx
    have s28 := sm.trans s8
    have s18 := s2.trans s28
    have nzs : nm ∉ prm t.cols zs := fun hm => by
      obtain ⟨j, ej⟩ := List.getElem?_of_mem hm
      have hj : j < t.cols.length := by rw [← gz.1]; exact (List.getElem?_eq_some_iff.mp ej).1
      have ec := List.getElem?_eq_getElem hj
      rw [gz.2 j _ ec] at ej
      exact (hcs _ (List.mem_of_getElem? ec)).2 (nd_ix hnd ej enm)
    refine ⟨x, dx, ha, D, ou, ro, nm, Str.ofString "first", prm t.cols zs, ys, zx, List.replicate t.cols.length (0, 9 + md), (0, 9 + md), nrw t.cols.length, rfl, upd_same, (s1.trans s18) _ _ eha, ?_, List.nodup_cons.mpr ⟨nzs, prm_nodup hcn hnd ltz⟩, by rw [gz.1]; exact hc1, by rw [gz.1]; exact hc4, by decide +kernel, fun z => absurd z (by decide +kernel), s8 _ _ eD, ?_, (show DomD cNumbers cWords _ ou (none, 0, 9 + md) from NumD.same hou s18).dom, s28 _ _ ero, hro.same s28, ?_, by rw [List.length_replicate]; exact hc4, nrw_ok hmd, fun H9 fs rl' xs' k1 k2 k3 k3a k3b k3c ⟨na', dl', fn, fd, k3d, k3e, k3f, k3g⟩ fr k4 k5 => ?_⟩
    · intro z hz
      rcases List.mem_cons.mp hz with rfl | hz
      · exact hw _ (List.mem_of_getElem? enm)
      · exact hw z (mem_prm hz)
    · refine ⟨by rw [List.length_replicate, hz.1, List.length_replicate], fun j b eb => ?_⟩
      have hb := (List.mem_replicate.mp (List.mem_of_getElem? eb)).2
      have hj := (List.getElem?_eq_some_iff.mp eb).1
      rw [List.length_replicate] at hj
      obtain ⟨r1, e1, p1⟩ := hz.2 j (pdm md).k (by rw [List.getElem?_replicate, if_pos hj])
      subst hb
      exact ⟨r1, e1, (p1.dom.same s8).dom⟩
    · rw [hro.1]; exact (by decide : 2 ≤ 200)
    · have s9 : Same H' H9 := fun b u e => k1 b u (ne_of_none e hx) (s8 _ _ e)
      have s29 := sm.trans s9
      have sF : ∀ {a : Addr}, upd (upd H' dx (.own x)) x (.ins cTable dx []) a = none → H a = none := fun h => ((s12.trans sm).trans s8).free h
      refine ⟨rfl, q x H9 (s12.trans s29) ⟨t, nm, pdm md, ou, ys, rl', dx, na', dl', fs, xs', et, enm, epo, k2, k3, k3c, by rw [hwy]; exact k3a, k3b, k3d, k3e, sF fn, sF fd, sF fr, k3f, k3g, k4, by rw [hrw_]; exact RefL.mono k5 (fun _ _ p => p.wk fun a h => sF h), by rw [k5.1]; exact (by decide : 2 ≤ 200), ?_, NumD.same hou (s2.trans s29)⟩⟩
      rw [prm_pdm hds fun c hc => by rw [← hl1]; exact ltz c hc]
      exact RefL.mono hz fun _ _ p => (p.same s9).wk fun a h => s12.free h.1
theorem ok_law (F : Fun K "law" "law" s_law f fd) (bl : Bl K mg cTableError cUnlike cRing cWay cFirst cOnly cLike cLow cHigh cSum cDomain cNumbers cWords cTable cBook) (c__law_folded : Callee P w K mg base 8 "_law_folded" ["script", "most"] (sp_law_folded K cTableError cUnlike cRing cWay cFirst cOnly cLike cLow cHigh cSum cDomain cNumbers cWords cTable cBook)) (c__law_names : Callee P w K mg base 8 "_law_names" ["most"] (sp_law_names K cTableError cUnlike cRing cWay cFirst cOnly cLike cLow cHigh cSum cDomain cNumbers cWords cTable cBook)) (c__law_ring : Callee P w K mg base 8 "_law_ring" ["asked"] (sp_law_ring K cTableError cUnlike cRing cWay cFirst cOnly cLike cLow cHigh cSum cDomain cNumbers cWords cTable cBook)) (c__law_asked : Callee P w K mg base 8 "_law_asked" ["number", "k", "most", "mode"] (sp_law_asked K cTableError cUnlike cRing cWay cFirst cOnly cLike cLow cHigh cSum cDomain cNumbers cWords cTable cBook)) (k_Book : MkCallee (CX1 P w) P w K mg base 7 "Book" cBook ["self", "facts", "tables"] (sp_Book___init___Book K cTableError cUnlike cRing cWay cFirst cOnly cLike cLow cHigh cSum cDomain cNumbers cWords cTable cBook)) (c__law_at : Callee P w K mg base 8 "_law_at" ["script", "k"] (sp_law_at K cTableError cUnlike cRing cWay cFirst cOnly cLike cLow cHigh cSum cDomain cNumbers cWords cTable cBook)) (c__law_net_table : Callee P w K mg base 8 "_law_net_table" ["name", "heads", "mode"] (sp_law_net_table K cTableError cUnlike cRing cWay cFirst cOnly cLike cLow cHigh cSum cDomain cNumbers cWords cTable cBook)) (k_Numbers : MkCallee CX0 P w K mg base 7 "Numbers" cNumbers ["self", "low", "high"] (sp_Numbers___init___Numbers K cTableError cUnlike cRing cWay cFirst cOnly cLike cLow cHigh cSum cDomain cNumbers cWords cTable cBook)) : FnOk P w K mg base CX0 9 f fd ["script"] (sp_law K) := by
  refine F.ok sc_law (fun vs H Q E h => ?_) (fun cdv A outer s H vs Q E hr h => ?_)
  · obtain ⟨a, ns, rfl, hS, h63, q⟩ := h
    rfl
  obtain ⟨a, ns, rfl, hS, h63, q⟩ := h
  refine ⟨_, (pss_cut (ps_set (i := 1) sc_law.nd rfl (Or.inr rfl) (pe_op op_add pe_int (pe_op op_mod (pe_fn c__law_at hr rfl (pa_cons (pv 0) (pa_cons pe_int pa_nil))) pe_int)))
     (pss_cut (ps_set (i := 2) sc_law.nd rfl (Or.inr rfl) (pe_op op_mod (pe_op op_fdiv (pe_fn c__law_at hr rfl (pa_cons (pv 0) (pa_cons pe_int pa_nil))) pe_int) pe_int))
     (pss_cut (ps_set (i := 3) sc_law.nd rfl (Or.inl rfl) (pe_op op_mod (pe_op op_fdiv (pe_fn c__law_at hr rfl (pa_cons (pv 0) (pa_cons pe_int pa_nil))) pe_int) (pv 1)))
     (pss_cut (ps_set (i := 4) sc_law.nd rfl (Or.inr rfl) (pe_fn c__law_folded hr rfl (pa_cons (pv 0) (pa_cons (pv 1) pa_nil))))
     (pss_cut (ps_set (i := 5) sc_law.nd rfl (Or.inr rfl) (pe_fn c__law_names hr rfl (pa_cons (pv 1) pa_nil)))
     (pss_cut (ps_comp (i := 6) sc_law.nd rfl (Or.inl rfl) (pi_range1 rfl bl.range_ (pa_cons (pv 1) pa_nil)) (cmpOk_free (N := ["k", "most", "mode", "numbers"]) (fr := [1, 2, 4]) (cl := [("numbers", s.heap.objs.size + 1 + 1 + 1), ("most", s.heap.objs.size + 1), ("mode", s.heap.objs.size + 1 + 1)]) rfl rfl (by decide +kernel) (by decide +kernel) rfl (by decide +kernel) rfl rfl rfl (List.forall_mem_cons.mpr ⟨rfl, List.forall_mem_cons.mpr ⟨rfl, List.forall_mem_cons.mpr ⟨rfl, List.forall_mem_nil _⟩⟩⟩) rfl) rfl (fun _ _ _ _ => pif_nil) (fun _ _ _ _ => (pe_fn c__law_asked hr rfl (pa_cons (pe_ix (ix_listK (K := K) rfl) (pv 3) (pv 0) (fun _ _ => rfl)) (pa_cons (pv 0) (pa_cons (pv 1) (pa_cons (pv 2) pa_nil)))))))
     (pss_cut (ps_set (i := 7) sc_law.nd rfl (Or.inl rfl) (pe_lst pa_nil))
     (pss_cut (ps_for PassesOwn.never rfl (pi_range1 rfl bl.range_ (pa_cons (pv 1) pa_nil)) (pg_name (i := 8) sc_law.nd rfl (Or.inl rfl))
     (pss_cut (ps_comp (i := 9) sc_law.nd rfl (Or.inl rfl) (pi_list (pe_ix ix_list (pv 6) (pv 8) (fun _ _ => rfl))) (cmpOk_free (N := ["j", "names"]) (fr := [5]) (cl := [("names", s.heap.objs.size + 1 + 1 + 1 + 1)]) rfl rfl (by decide +kernel) (by decide +kernel) rfl (by decide +kernel) rfl rfl rfl (List.forall_mem_cons.mpr ⟨rfl, List.forall_mem_nil _⟩) rfl) rfl (fun _ _ _ _ => pif_nil) (fun _ _ _ _ => (pe_ix (ix_listK (K := K) rfl) (pv 1) (pv 0) (fun _ _ => rfl))))
     (pss_cut (ps_if (PW.pt (pw_or (pt_cmpR op_eq (pe_op op_mod (pe_op op_fdiv (pe_ix ix_list (pv 4) (pv 8) (fun _ _ => rfl)) pe_int) pe_int) pe_int (nomark _)) (pw_or1 (pt_cmpR op_eq (pe_callB call_len_seq rfl bl.len_ PySem.boot_len (pa_cons (pv 9) pa_nil)) pe_int (nomark _)))))
     (pss_one (ps_set (i := 9) sc_law.nd rfl (Or.inl rfl) (pe_op op_cat (pe_lst (pa_cons pe_str pa_nil)) (pv 9))))
     (pss_one (ps_if (pt_cmpR op_eq (pe_op op_mod (pe_op op_fdiv (pe_ix ix_list (pv 4) (pv 8) (fun _ _ => rfl)) pe_int) pe_int) pe_int (nomark _))
     (pss_one (ps_set (i := 9) sc_law.nd rfl (Or.inl rfl) (pe_op op_cat (pv 9) (pe_lst (pa_cons pe_str pa_nil)))))
     pss_nil)))
     (pss_one (ps_expr (pe_bm PySem.F.plainAttrs_list PySem.F.slot_list_append PySem.F.type_list_append mt_append (pv 7) (pa_cons (pe_fn c__law_net_table hr rfl (pa_cons (pe_ix ix_list (pv 5) (pv 8) (fun _ _ => rfl)) (pa_cons (pv 9) (pa_cons (pv 2) pa_nil)))) pa_nil)))))))
     (pss_cut (ps_set (i := 10) sc_law.nd rfl (Or.inl rfl) (pe_lst pa_nil))
     (pss_cut (ps_try (G := fun C => ExcLook K C) (i := 11) (psx_expr (pex_mk k_Book rfl hr rfl (pa_cons (pe_lst (pa_cons (pe_tup (pa_cons pe_str (pa_cons (pe_mk k_Numbers pass0 hr rfl (pa_cons pe_int (pa_cons (pe_op op_add pe_int (pv 2)) pa_nil))) pa_nil))) pa_nil)) (pa_cons (pe_op op_cat (pe_slice sl_list (pv 7) (po_some (pv 3)) po_none) (pe_slice sl_list (pv 7) po_none (po_some (pv 3)))) pa_nil)))) rfl rfl rfl rfl bl.Ring_ sc_law.nd rfl rfl (fun C e oe hG hc => (pss_one (ps_set (i := 10) sc_law.nd rfl (Or.inl rfl) (pe_lst (pa_cons (pe_callB (call_isiX hc hG) rfl bl.isinstance_ PyProof.Rows.boot_isinstance (pa_cons (pv 11) (pa_cons (pe_glob (v := .ref cTableError) rfl bl.TableError_ rfl) pa_nil))) (pa_cons (pe_callB (call_isiX hc hG) rfl bl.isinstance_ PyProof.Rows.boot_isinstance (pa_cons (pv 11) (pa_cons (pe_bltn (v := .ty "ValueError") rfl bl.ValueError_ PyProof.Rows.Boot.ValueError rfl) pa_nil))) (pa_cons (pe_callB (call_isiX hc hG) rfl bl.isinstance_ PyProof.Rows.boot_isinstance (pa_cons (pv 11) (pa_cons (pe_glob (v := .ref cUnlike) rfl bl.Unlike_ rfl) pa_nil))) pa_nil))))))))
     (pss_cons (ps_if (pt_val (pe_fn c__law_ring hr rfl (pa_cons (pv 6) pa_nil)))
     (pss_one (ps_ret (pe_cmpR (op_eqL hr) (pv 10) (pe_lst (pa_cons pe_bl (pa_cons pe_bl (pa_cons pe_bl pa_nil)))) (nomark _))))
     pss_nil)
     (pss_one (ps_ret (pe_cmpR (op_eqL hr) (pv 10) (pe_lst pa_nil) (nomark _))))))))))))))), ?_⟩
  refine ⟨fun σ' H' => H' = H ∧ ∃ m : Nat, 1 ≤ m ∧ m ≤ 12 ∧ σ' = [some (.ref a), some (.int (m : Int)), none, none, none, none, none, none, none, none, none, none], ?_, ?_⟩
  · refine ⟨_, rfl, a, ns, 0, rfl, hS, Int.le_refl _, fun c => ⟨_, _, rfl, rfl, (by show (0 : Int) < 12; decide), _, _, rfl, rfl, rfl, (1 + c % 12).toNat, by omega, by omega, ?_⟩⟩
    rw [show (((1 + c % 12).toNat : Nat) : Int) = 1 + c % 12 by omega]
    rfl
  rintro σ1 H1 ⟨rfl, m, hm1, hm2, rfl⟩
  have hmp : (0 : Int) < (m : Int) := by omega
  refine ⟨fun σ' H' => H' = H1 ∧ ∃ md : Int, 0 ≤ md ∧ md ≤ 2 ∧ σ' = [some (.ref a), some (.int (m : Int)), some (.int md), none, none, none, none, none, none, none, none, none], ?_, ?_⟩
  · exact ⟨_, rfl, a, ns, 0, rfl, hS, Int.le_refl _, fun c => ⟨_, _, rfl, rfl, ⟨by decide, by decide⟩, _, _, rfl, rfl, (by show (0 : Int) < 3; decide), rfl, c / 12 % 3, by omega, by omega, rfl⟩⟩
  rintro σ1 H1' ⟨e1', md, hmd0, hmd2, rfl⟩
  subst e1'
  refine ⟨fun σ' H' => H' = H1' ∧ ∃ tu : Nat, tu < m ∧ σ' = [some (.ref a), some (.int (m : Int)), some (.int md), some (.int (tu : Int)), none, none, none, none, none, none, none, none], ?_, ?_⟩
  · refine ⟨_, rfl, a, ns, 0, rfl, hS, Int.le_refl _, fun c => ⟨_, _, rfl, rfl, ⟨by decide, by decide⟩, _, rfl, _, _, rfl, rfl, hmp, rfl, (c / 36 % (m : Int)).toNat, ?_, ?_⟩⟩
    · have := Int.emod_nonneg (c / 36) (Int.ne_of_gt hmp)
      have := Int.emod_lt_of_pos (c / 36) hmp
      omega
    · have := Int.emod_nonneg (c / 36) (Int.ne_of_gt hmp)
      rw [show (((c / 36 % (m : Int)).toNat : Nat) : Int) = c / 36 % (m : Int) by omega]
      rfl
  rintro σ2 H2 ⟨e2', tu, htu, rfl⟩
  subst e2'
  refine ⟨fun σ' H' => Same H2 H' ∧ ∃ (nu : Addr) (ms : List Int), H' nu = some (.lst (ms.map V.int)) ∧ ms.length = m ∧ (∀ x ∈ ms, 0 ≤ x) ∧ σ' = [some (.ref a), some (.int (m : Int)), some (.int md), some (.int (tu : Int)), some (.ref nu), none, none, none, none, none, none, none], ⟨_, rfl, _, rfl, a, ns, m, rfl, hS, h63, hm1, hm2, fun l ms H' s nl el hl hnn => ⟨s, l, ms, el, hl, hnn, rfl⟩⟩, ?_⟩
  rintro σ3 H3 ⟨s3, nu, ms, enu, hml, hms, rfl⟩
  refine ⟨fun σ' H' => Same H3 H' ∧ ∃ na : Addr, H' na = some (.lst ((nms m).map V.str)) ∧ σ' = [some (.ref a), some (.int (m : Int)), some (.int md), some (.int (tu : Int)), some (.ref nu), some (.ref na), none, none, none, none, none, none], ⟨_, rfl, m, rfl, hm2, fun l H' s nl el => ⟨s, l, el, rfl⟩⟩, ?_⟩
  rintro σ4 H4 ⟨s4, na, ena, rfl⟩
  refine ⟨fun σ' H' => Same H4 H' ∧ ∃ (aa : Addr) (av : List V) (aks : List (List Nat)), H' aa = some (.lst av) ∧ RefL av aks (AkL NT H') ∧ aks.length = m ∧ RksOk m aks ∧ σ' = [some (.ref a), some (.int (m : Int)), some (.int md), some (.int (tu : Int)), some (.ref nu), some (.ref na), some (.ref aa), none, none, none, none, none], ?_, ?_⟩
  · refine ⟨_, rfl, _, rfl, (by omega), (by omega), comp_range (fun D i ys H' => Same H4 H' ∧ H' D = some (.lst ys) ∧ ∃ aks : List (List Nat), RefL ys aks (AkL (Fr H4 D) H') ∧ aks.length = i ∧ RksOk m aks) (fun D hD => ⟨same_new hD _, upd_same, [], RefL.nil, rfl, fun j js e => by simp at e⟩) (fun D i ys H' hD hi h => ?_) (fun D ys H' hD h => ?_)⟩
    · obtain ⟨sm, eD, aks, hy, hal, hok⟩ := h
      rw [Int.toNat_natCast] at hi
      have s34 := s4.trans sm
      have ex := List.getElem?_eq_getElem (l := ms) (i := i) (by omega)
      generalize ms[i] = x at ex
      have hx0 := hms x (List.mem_of_getElem? ex)
      refine ⟨_, rfl, _, rfl, nu, _, _, _, rfl, rfl, SqL.of (s34 _ _ enu), (by rw [Int.zero_add]; exact atI_nat (get_map ex)), _, rfl, _, rfl, _, rfl, x, i, m, md, (by rw [Int.zero_add]), hx0, hm1, hm2, fun l js H5 s5 nl el hnd hlt hle => ?_⟩
      have eD5 := s5 _ _ eD
      have hyl : ys.length = i := by rw [hy.1, hal]
      have hy2 : RefL (ys ++ [.ref l]) (aks ++ [js]) (AkL (Fr H4 D) H5) := RefL.snoc (RefL.mono hy fun _ _ p => ⟨p.1, s5 _ _ p.2⟩) ⟨⟨sm.free nl, fun z => by rw [z, eD] at nl; cases nl⟩, el⟩
      refine CYes.mk (by rw [Int.toNat_natCast]; exact hi) eD5 (small1000 (by omega)) ⟨(sm.trans s5).upd hD, upd_same, aks ++ [js], RefL.mono hy2 (fun r _ p => ⟨p.1, (upd_ne p.1.2).trans p.2⟩), by rw [List.length_append, hal]; rfl, fun j js' e => ?_⟩
      by_cases hj : j < aks.length
      · rw [List.getElem?_append_left hj] at e
        exact hok j js' e
      · have hj2 := (List.getElem?_eq_some_iff.mp e).1
        rw [List.length_append] at hj2
        have hj3 : j = aks.length := by have : j < aks.length + 1 := hj2; omega
        rw [List.getElem?_append_right (by omega), hj3, Nat.sub_self] at e
        cases e
        rw [hj3, hal]
        exact ⟨hnd, hlt, hle⟩
    · obtain ⟨sm, eD, aks, hy, hal, hok⟩ := h
      rw [Int.toNat_natCast] at hal
      exact ⟨sm, D, ys, aks, eD, RefL.mono hy (fun _ _ p => ⟨trivial, p.2⟩), hal, hok, rfl⟩
  rintro σ6 H6 ⟨s6, aa, av, aks, eaa6, hav6, hal, haok, rfl⟩
  have s36 := s4.trans s6
  have enu6 := s36 _ _ enu
  have ena6 := s6 _ _ ena
  have hzl := rzs_len m
  refine ⟨fun σ' H' => Same H6 H' ∧ ∃ ma : Addr, H6 ma = none ∧ H' ma = some (.lst []) ∧ σ' = [some (.ref a), some (.int (m : Int)), some (.int md), some (.int (tu : Int)), some (.ref nu), some (.ref na), some (.ref aa), some (.ref ma), none, none, none, none], ⟨(by show 0 ≤ sizeLine; decide), fun l hl => ⟨same_new hl _, l, hl, upd_same, rfl⟩⟩, ?_⟩
  rintro σ7 H7 ⟨s7, ma, nma, ema, rfl⟩
  refine ⟨fun σ' H' => Same H6 H' ∧ ∃ (mv : List V) (ts : List PT), H' ma = some (.lst mv) ∧ ts.length = m ∧ RefL mv (List.range m) (TbN (Fr H6 ma) cTable cNumbers cWords H' (rzs m) (nds 1 m md) ts 1) ∧ RsO m aks ts ∧ ∃ c8 c9 : Option V, σ' = [some (.ref a), some (.int (m : Int)), some (.int md), some (.int (tu : Int)), some (.ref nu), some (.ref na), some (.ref aa), some (.ref ma), c8, c9, none, none], ?_, ?_⟩
  · refine ⟨_, rfl, _, rfl, (by omega), (by omega), for_range (fun i σ H' => Same H6 H' ∧ ∃ (mv : List V) (ts : List PT), H' ma = some (.lst mv) ∧ ts.length = i ∧ RefL mv (List.range i) (TbN (Fr H6 ma) cTable cNumbers cWords H' (rzs m) (nds 1 m md) ts 1) ∧ RsO m aks ts ∧ ∃ c8 c9 : Option V, σ = [some (.ref a), some (.int (m : Int)), some (.int md), some (.int (tu : Int)), some (.ref nu), some (.ref na), some (.ref aa), some (.ref ma), c8, c9, none, none]) ⟨s7, [], [], ema, rfl, RefL.nil, (fun j t e => by simp at e), _, _, rfl⟩ (fun i σ H' hi hh => ?_) (fun σ H' hh => by rw [Int.toNat_natCast] at hh; exact hh)⟩
    obtain ⟨sm, mv, ts, ema2, htl, hmv, hts, c8, c9, rfl⟩ := hh
    rw [Int.toNat_natCast] at hi
    rw [show (0 : Int) + (i : Int) = (i : Int) by omega]
    have hmvl : mv.length = i := by rw [hmv.1, List.length_range]
    have eak := List.getElem?_eq_getElem (l := aks) (i := i) (by omega)
    generalize aks[i] = ak at eak
    have egd : aks.getD i [] = ak := by rw [List.getD_eq_getElem?_getD, eak]; rfl
    obtain ⟨and_, alt, ale⟩ := haok i ak eak
    obtain ⟨ra, era, _, hra⟩ := hav6.2 i ak eak
    have ex := List.getElem?_eq_getElem (l := ms) (i := i) (by omega)
    generalize ms[i] = x at ex
    have ixn : atI (ms.map V.int) (i : Int) = some (.int x) := atI_nat (get_map ex)
    refine ⟨fun σ' H'' => Same H' H'' ∧ ∃ ha : Addr, H'' ha = some (.lst ((ak.map nmK).map V.str)) ∧ σ' = [some (.ref a), some (.int (m : Int)), some (.int md), some (.int (tu : Int)), some (.ref nu), some (.ref na), some (.ref aa), some (.ref ma), some (.int (i : Int)), some (.ref ha), none, none], ?_, ?_⟩
    · refine ⟨_, rfl, _, rfl, aa, _, _, _, rfl, rfl, SqL.of (sm _ _ eaa6), atI_nat era, ra, rfl, ⟨_, SqL.of (sm _ _ hra)⟩, comp_list (xs := vN ak) (fun D i ys H'' => Same H' H'' ∧ H'' D = some (.lst ys) ∧ ys = ((ak.take i).map nmK).map V.str) (fun D hD => ⟨same_new hD _, upd_same, rfl⟩) (fun D i ys H'' hD _ h => SqL.of ((sm.trans h.1) _ _ hra)) (fun D k y ys H'' hD e h => ?_) (fun D ys H'' hD h => ?_)⟩
      · obtain ⟨sn, eD, rfl⟩ := h
        obtain ⟨j, rfl, ej⟩ := vN_of e
        have hj := alt j (List.mem_of_getElem? ej)
        have ez : (nms m)[j]? = some (nmK j) := nms_at (by omega)
        have hk : k < (vN ak).length := (List.getElem?_eq_some_iff.mp e).1
        refine ⟨_, rfl, _, rfl, na, _, _, _, rfl, rfl, SqL.of ((sm.trans sn) _ _ ena6), atI_nat (put_strs ez), CYes.mk hk eD (small1000 (by rw [List.length_map, List.length_map, List.length_take]; omega)) ⟨sn.upd hD, upd_same, ?_⟩⟩
        rw [take_snoc ej, List.map_append, List.map_append]; rfl
      · obtain ⟨sn, eD, rfl⟩ := h
        rw [vN_len, List.take_length] at eD
        exact ⟨sn, D, eD, rfl⟩
    rintro σ9 H9 ⟨s8, ha, eha, rfl⟩
    have s68 := sm.trans s8
    have altm : ∀ j ∈ ak, j < m := fun j hj => (alt j hj).1
    have pt := prm_rtabs (m := m) altm
    have efz : (rzs m)[0]? = some (Str.ofString "fact") := rfl
    have hfz : 0 < (rzs m).length := by omega
    have efz' : (rzs m)[0] = Str.ofString "fact" := rfl
    refine ⟨fun σ' H'' => Same H9 H'' ∧ ∃ (hb : Addr) (cols : List Nat), RcX m i ak cols ∧ H'' hb = some (.lst ((prm cols (rzs m)).map V.str)) ∧ σ' = [some (.ref a), some (.int (m : Int)), some (.int md), some (.int (tu : Int)), some (.ref nu), some (.ref na), some (.ref aa), some (.ref ma), some (.int (i : Int)), some (.ref hb), none, none], ?_, ?_⟩
    · refine ⟨_, rfl, _, rfl, nu, _, _, _, rfl, rfl, SqL.of (s68 _ _ enu6), ixn, _, _, rfl, rfl, ⟨by decide, by decide⟩, _, _, rfl, rfl, (by show (0 : Int) < 3; decide), rfl, _, rfl, ite2 (fun g => iteT ?_) (fun g => ?_)⟩
      · refine ⟨(by show 1 ≤ sizeLine; decide), fun l1 hl1 => ?_⟩
        have u1 := same_new hl1 (.lst [.str (Str.ofString "fact")])
        refine ⟨_, rfl, l1, ha, _, _, rfl, rfl, upd_same, u1 _ _ eha, Nat.le_of_lt (small1000 (by rw [List.length_map, List.length_map]; show 1 + _ ≤ 1000; omega)), fun p hp => ?_⟩
        refine ⟨u1.trans (same_new hp _), p, _, RcX.front alt and_ ale, ?_, rfl⟩
        rw [upd_same, prm_cons hfz, efz', pt]
        rfl
      · refine ⟨_, rfl, ha, _, rfl, .inl (SqL.of eha), rfl, _, rfl, ite2 (fun g2 => ?_) (fun g2 => ?_)⟩
        · refine ⟨(by show 1 ≤ sizeLine; decide), fun l1 hl1 => ?_⟩
          have u1 := same_new hl1 (.lst [.str (Str.ofString "fact")])
          refine ⟨_, rfl, l1, ha, _, _, rfl, rfl, upd_same, u1 _ _ eha, Nat.le_of_lt (small1000 (by rw [List.length_map, List.length_map]; show 1 + _ ≤ 1000; omega)), fun p hp => ?_⟩
          refine ⟨u1.trans (same_new hp _), p, _, RcX.front alt and_ ale, ?_, rfl⟩
          rw [upd_same, prm_cons hfz, efz', pt]
          rfl
        · have hne : ak ≠ [] := fun z => g2 (by rw [z]; exact decide_eq_true rfl)
          refine ⟨_, rfl, _, rfl, nu, _, _, _, rfl, rfl, SqL.of (s68 _ _ enu6), ixn, _, _, rfl, rfl, ⟨by decide, by decide⟩, _, _, rfl, rfl, (by show (0 : Int) < 3; decide), rfl, _, rfl, ite2 (fun g3 => ?_) (fun g3 => ?_)⟩
          · refine ⟨_, rfl, (by show 1 ≤ sizeLine; decide), fun l1 hl1 => ?_⟩
            have u1 := same_new hl1 (.lst [.str (Str.ofString "fact")])
            refine ⟨ha, l1, _, _, rfl, rfl, u1 _ _ eha, upd_same, Nat.le_of_lt (small1000 (by rw [List.length_map, List.length_map]; show _ + 1 ≤ 1000; omega)), fun p hp => ?_⟩
            refine ⟨u1.trans (same_new hp _), p, _, RcX.back alt and_ ale, ?_, rfl⟩
            rw [upd_same, prm_snoc efz, pt, List.map_append]
            rfl
          · exact ⟨Same.refl _, ha, _, RcX.map alt and_ ale hne, by rw [pt]; exact eha, rfl⟩
    rintro σ10 H10 ⟨s10, hb, cols, hcx, ehb, rfl⟩
    have s610 := s68.trans s10
    have s710 := s8.trans s10
    have et : (ts ++ [(⟨cols, Str.ofString "first", nrw cols.length⟩ : PT)])[i]? = some ⟨cols, Str.ofString "first", nrw cols.length⟩ := by rw [List.getElem?_append_right (by omega), htl, Nat.sub_self]; rfl
    have ema10 := s710 _ _ ema2
    refine ⟨_, rfl, .inl ⟨rfl, _, SqL.of ema10⟩, _, rfl, _, rfl, na, _, _, _, rfl, rfl, SqL.of (s610 _ _ ena6), atI_nat (put_strs (nms_at hi)), _, rfl, _, rfl, nmK i, hb, rzs m, nds 1 m md, _, 1, i, _, md, rfl, hmd0, et, rzs_tab hi, nds_at (by omega), (fun p hp => (List.mem_replicate.mp hp).2), by rw [hzl, nds_len], rzs_isw hm2, rzs_nd hm2, (fun c hc => by have := hcx.lt c hc; rw [hzl]; exact ⟨by omega, by omega⟩), hcx.nd, hcx.one, hcx.few, rfl, rfl, ehb, fun tb H11 s11 hT => ?_⟩
    have ema11 := s11 _ _ ema10
    refine ⟨ma, _, _, rfl, rfl, ema11, small1000 (by omega), (s610.trans s11).upd nma, mv ++ [.ref tb], ts ++ [(⟨cols, Str.ofString "first", nrw cols.length⟩ : PT)], upd_same, by rw [List.length_append, htl]; rfl, ?_, ?_, _, _, rfl⟩
    · rw [List.range_succ]
      exact RefL.mono (RefL.snoc (RefL.mono hmv fun _ _ p => (p.same (s710.trans s11)).more) (hT.wk fun b h => ⟨s610.free h, fun z => by rw [z, ema10] at h; cases h⟩)) fun _ _ p => p.upd Fr.out ema11
    · intro j t ej
      by_cases hj : j < ts.length
      · rw [List.getElem?_append_left hj] at ej
        exact hts j t ej
      · have hj2 := (List.getElem?_eq_some_iff.mp ej).1
        rw [List.length_append] at hj2
        have hj3 : j = i := by have : j < ts.length + 1 := hj2; omega
        rw [hj3, et] at ej
        cases ej
        rw [hj3, egd]
        exact ⟨⟨fun c hc => (hcx.lt c hc).1, hcx.few, hcx.nd⟩, hcx.ak⟩
  rintro σ8 H8 ⟨s8, mv, ts, ema8, htl, hmv, hts, c8, c9, rfl⟩
  have ok := hts.ok (md := md) htl hm1 hm2
  obtain ⟨rnd, rlen, rmem⟩ := rot_ok m tu
  have hall : ∀ k, k < ts.length → k ∈ (List.range m).drop tu ++ (List.range m).take tu := fun k hk => (rmem k).mpr (by omega)
  have hmvl : mv.length = m := by rw [hmv.1, List.length_range]
  have hakf := hts.ak (by omega)
  refine ⟨fun σ' H' => Same H8 H' ∧ ∃ tl : Addr, H' tl = some (.lst []) ∧ σ' = [some (.ref a), some (.int (m : Int)), some (.int md), some (.int (tu : Int)), some (.ref nu), some (.ref na), some (.ref aa), some (.ref ma), c8, c9, some (.ref tl), none], ⟨(by show 0 ≤ sizeLine; decide), fun l hl => ⟨same_new hl _, l, upd_same, rfl⟩⟩, ?_⟩
  rintro σ9 H9 ⟨s9, tl, etl, rfl⟩
  refine ⟨fun σ' H' => Same H9 H' ∧ ∃ (tl : Addr) (bs : List Bool), H' tl = some (.lst (bs.map V.bl)) ∧ (((¬ ∃ k, Pth (akT ts 1) k k) ∧ bs = []) ∨ ((∃ k, Pth (akT ts 1) k k) ∧ bs = [true, true, false])) ∧ σ' = [some (.ref a), some (.int (m : Int)), some (.int md), some (.int (tu : Int)), some (.ref nu), some (.ref na), some (.ref aa), some (.ref ma), c8, c9, some (.ref tl), none], ?_, ?_⟩
  · refine ⟨_, rfl, _, _, rfl, rfl, fun x dx hx hdx hne => ⟨x, dx, 0, 9 + md, rfl, upd_same, by omega, rfl, small2, fun tp htp => ?_⟩⟩
    have s6' : Same H9 (mkd cNumbers (upd (upd H9 dx (.own x)) x (.ins cNumbers dx [])) x dx 0 (9 + md)) := by unfold mkd; exact (((same_new hdx _).upd hx).upd hx).upd hx
    have e6 : NumD cNumbers (mkd cNumbers (upd (upd H9 dx (.own x)) x (.ins cNumbers dx [])) x dx 0 (9 + md)) x 0 (9 + md) := ⟨dx, upd_same⟩
    generalize mkd cNumbers (upd (upd H9 dx (.own x)) x (.ins cNumbers dx [])) x dx 0 (9 + md) = HH at s6' e6 htp ⊢
    have u7 := same_new htp (.tup [.str (Str.ofString "fact"), .ref x])
    have eT : upd HH tp (.tup [.str (Str.ofString "fact"), .ref x]) tp = some (.tup [.str (Str.ofString "fact"), .ref x]) := upd_same
    generalize upd HH tp (.tup [.str (Str.ofString "fact"), .ref x]) = HI at u7 eT ⊢
    refine ⟨(by show 1 ≤ sizeLine; decide), fun lf hlf => ?_⟩
    have u8 := same_new hlf (.lst [.ref tp])
    have elf : upd HI lf (.lst [.ref tp]) lf = some (.lst [.ref tp]) := upd_same
    generalize upd HI lf (.lst [.ref tp]) = HJ at u8 elf ⊢
    have sJ := s6'.trans (u7.trans u8)
    have ema9 := (s9.trans sJ) _ _ ema8
    refine ⟨_, rfl, _, rfl, _, rfl, ma, _, rfl, SqL.of ema9, fun p hp => ?_⟩
    have u1 := same_new hp (.lst (cutV mv (some (tu : Int)) none))
    have e1 : upd HJ p (.lst (cutV mv (some (tu : Int)) none)) p = some (.lst (mv.drop tu)) := by rw [upd_same, cutV_from _ (by omega)]
    generalize upd HJ p (.lst (cutV mv (some (tu : Int)) none)) = HA at u1 e1 ⊢
    refine ⟨_, rfl, _, rfl, _, rfl, ma, _, rfl, SqL.of (u1 _ _ ema9), fun p2 hp2 => ?_⟩
    have u2 := same_new hp2 (.lst (cutV mv none (some (tu : Int))))
    have e2 : upd HA p2 (.lst (cutV mv none (some (tu : Int)))) p2 = some (.lst (mv.take tu)) := by rw [upd_same, cutV_to _ (by omega)]
    generalize upd HA p2 (.lst (cutV mv none (some (tu : Int)))) = HB at u2 e2 ⊢
    refine ⟨p, p2, _, _, rfl, rfl, u2 _ _ e1, e2, Nat.le_of_lt (small1000 (by rw [List.length_drop, List.length_take]; omega)), fun p3 hp3 => ?_⟩
    have u3 := same_new hp3 (.lst (mv.drop tu ++ mv.take tu))
    have e3 : upd HB p3 (.lst (mv.drop tu ++ mv.take tu)) p3 = some (.lst (mv.drop tu ++ mv.take tu)) := upd_same
    generalize upd HB p3 (.lst (mv.drop tu ++ mv.take tu)) = HC at u3 e3 ⊢
    have sB := (u1.trans u2).trans u3
    intro y dy hy hdy hney
    have s9c : Same HC (upd (upd HC dy (.own y)) y (.ins cBook dy [])) := (same_new hdy _).upd hy
    have hmw : RefL (mv.drop tu ++ mv.take tu) ((List.range m).drop tu ++ (List.range m).take tu) (TbA cTable cNumbers cWords H8 (rzs m) (nds 1 m md) ts 1) := RefL.mono (RefL.app (RefL.drop hmv tu) (RefL.take hmv tu)) fun _ _ p => p.tb
    have sC := sJ.trans sB
    have hfv : RefL [V.ref tp] (List.range 1) (FcA cNumbers cWords HC (rzs m) (nds 1 m md)) := RefL.snoc (xs := []) (as := []) RefL.nil ⟨Str.ofString "fact", pdm md, x, rfl, nds_at (i := 0) (by show 0 < 1 + m; omega), (u8.trans sB) _ _ eT, NumD.same e6 ((u7.trans u8).trans sB)⟩
    refine ⟨y, dy, lf, p3, [.ref tp], mv.drop tu ++ mv.take tu, rzs m, nds 1 m md, ts, 1, _, rfl, upd_same, (sB.trans s9c) _ _ elf, s9c _ _ e3, ⟨ok, RefL.mono hfv (fun _ _ p => p.same s9c), RefL.mono hmw (fun _ _ p => p.same ((s9.trans sC).trans s9c)), (fun k hk => by have := (rmem k).mp hk; omega), rnd, by omega, hall⟩, fun hn HD fs ta k1 k2 k3 k4 => ⟨rfl, ?_⟩, fun hc HD sD => ⟨_, rfl, bl.e2_Ring, bl.l_Ring, fun e => ?_⟩⟩
    · have s99 : Same HC HD := fun b u e => k1 b u (ne_of_none e hy) (s9c _ _ e)
      exact ⟨sC.trans s99, tl, [], (sC.trans s99) _ _ etl, .inl ⟨hn, rfl⟩, rfl⟩
    · refine ⟨_, rfl, _, true, rfl, .inl ⟨_, rfl, bl.v1_Ring⟩, _, rfl, _, true, rfl, .inr (.inl ⟨_, rfl, bl.v2_Ring⟩), _, rfl, _, false, rfl, .inl ⟨_, rfl, bl.v3_Ring⟩, (by show 3 ≤ sizeLine; decide), fun p9 hp9 => ?_⟩
      exact ⟨((sC.trans s9c).trans sD).trans (same_new hp9 _), p9, [true, true, false], upd_same, .inr ⟨hc, rfl⟩, rfl⟩
  rintro σ10 H10 ⟨s10, tl2, bs, etl2, hbs, rfl⟩
  have sX := (s8.trans s9).trans s10
  refine ⟨_, rfl, aa, av, aks, rfl, sX _ _ eaa6, RefL.mono hav6 (fun _ _ p => ⟨p.1, sX _ _ p.2⟩), by omega, (fun k js e j hj => by have := (haok k js e).2.1 j hj; omega), fun b H' s' hb => ⟨_, rfl, ?_⟩⟩
  rw [← hakf] at hb
  cases b with
  | true =>
    have hc := hb.mp rfl
    have hbs : bs = [true, true, false] := by
      rcases hbs with ⟨hn, _⟩ | ⟨_, h⟩
      · exact absurd hc hn
      · exact h
    subst hbs
    exact iteT ⟨_, rfl, (by show 3 ≤ sizeLine; decide), fun p hp => rEqL_bls (xs := [true, true, false]) (ys := [true, true, false]) (r := true) (SqL.of (same_new hp _ _ _ (s' _ _ etl2))) (SqL.of upd_same) (by simp) (q _)⟩
  | false =>
    have hbs : bs = [] := by
      rcases hbs with ⟨_, h⟩ | ⟨hc, _⟩
      · exact h
      · have := hb.mpr hc
        cases this
    subst hbs
    exact iteF ⟨_, rfl, (Nat.zero_le _), fun p hp => rEqL_bls (xs := []) (ys := []) (r := true) (SqL.of (same_new hp _ _ _ (s' _ _ etl2))) (SqL.of upd_same) (by simp) (q _)⟩
end
theorem all_mk {l : PySem.W.OpenLaw} {w : World} {K : PySem.W.Frag} {h : Heap} {mg : Str → Option Value} {fa f0 f1 f2 f3 f4 f5 f6 f7 f8 f9 f10 f11 f12 f13 f14 f15 f16 f17 f18 f19 f20 f21 f22 f23 f24 f25 f26 f27 f28 f29 f30 f31 f32 f33 f34 f35 f36 f37 f38 f39 : Addr} (X : K.In h) (G : h.Ns mainGlobals mg) (hfa : mg "law" = some (.ref fa))
    {od0 an0 od1 an1 od2 an2 od3 an3 od4 an4 od5 an5 od6 an6 od7 an7 od8 an8 od9 an9 od10 an10 od11 an11 od12 an12 od13 an13 od14 an14 od15 an15 od16 an16 od17 an17 od18 an18 od19 an19 od20 an20 od21 an21 od22 an22 od23 an23 od24 an24 od25 an25 od26 an26 od27 an27 od28 an28 od29 an29 od30 an30 od31 an31 od32 an32 od33 an33 od34 an34 od35 an35 od36 an36 od37 an37 od38 an38 od39 an39 : Option Addr} {sl0 sl1 sl2 sl3 sl4 sl5 sl6 sl7 sl8 sl9 sl10 sl11 sl12 sl13 sl14 sl15 sl16 sl17 sl18 sl19 sl20 sl21 sl22 sl23 sl24 sl25 sl26 sl27 sl28 sl29 sl30 sl31 sl32 sl33 sl34 sl35 sl36 sl37 sl38 sl39 : Array (Option Value)} {oc0 kV0 dc0 pm0 cd0 ct0 oc1 kV1 dc1 pm1 cd1 ct1 oc2 kV2 dc2 pm2 cd2 ct2 oc3 kV3 dc3 pm3 cd3 ct3 oc4 kV4 dc4 pm4 cd4 ct4 oc5 kV5 dc5 pm5 cd5 ct5 oc6 kV6 dc6 pm6 cd6 ct6 oc7 kV7 dc7 pm7 cd7 ct7 oc8 kV8 dc8 pm8 cd8 ct8 oc9 kV9 dc9 pm9 cd9 ct9 oc10 kV10 dc10 pm10 cd10 ct10 oc11 kV11 dc11 pm11 cd11 ct11 oc12 kV12 dc12 pm12 cd12 ct12 oc13 kV13 dc13 pm13 cd13 ct13 oc14 kV14 dc14 pm14 cd14 ct14 oc15 kV15 dc15 pm15 cd15 ct15 oc16 kV16 dc16 pm16 cd16 ct16 oc17 kV17 dc17 pm17 cd17 ct17 oc18 kV18 dc18 pm18 cd18 ct18 oc19 kV19 dc19 pm19 cd19 ct19 oc20 kV20 dc20 pm20 cd20 ct20 oc21 kV21 dc21 pm21 cd21 ct21 oc22 kV22 dc22 pm22 cd22 ct22 oc23 kV23 dc23 pm23 cd23 ct23 oc24 kV24 dc24 pm24 cd24 ct24 oc25 kV25 dc25 pm25 cd25 ct25 oc26 kV26 dc26 pm26 cd26 ct26 oc27 kV27 dc27 pm27 cd27 ct27 oc28 kV28 dc28 pm28 cd28 ct28 oc29 kV29 dc29 pm29 cd29 ct29 oc30 kV30 dc30 pm30 cd30 ct30 oc31 kV31 dc31 pm31 cd31 ct31 oc32 kV32 dc32 pm32 cd32 ct32 oc33 kV33 dc33 pm33 cd33 ct33 oc34 kV34 dc34 pm34 cd34 ct34 oc35 kV35 dc35 pm35 cd35 ct35 oc36 kV36 dc36 pm36 cd36 ct36 oc37 kV37 dc37 pm37 cd37 ct37 oc38 kV38 dc38 pm38 cd38 ct38 oc39 kV39 dc39 pm39 cd39 ct39 : Value}
    {cTableError cUnlike cRing cWay cFirst cOnly cLike cLow cHigh cSum cDomain cNumbers cWords cTable cBook : Addr}
    (n_TableError : PySem.W.nsIn K mainGlobals "TableError" = some (some (.ref cTableError)))
    (n_Unlike : PySem.W.nsIn K mainGlobals "Unlike" = some (some (.ref cUnlike)))
    (n_Ring : PySem.W.nsIn K mainGlobals "Ring" = some (some (.ref cRing)))
    (n_Way : PySem.W.nsIn K mainGlobals "Way" = some (some (.ref cWay)))
    (n_First : PySem.W.nsIn K mainGlobals "First" = some (some (.ref cFirst)))
    (n_Only : PySem.W.nsIn K mainGlobals "Only" = some (some (.ref cOnly)))
    (n_Like : PySem.W.nsIn K mainGlobals "Like" = some (some (.ref cLike)))
    (n_Low : PySem.W.nsIn K mainGlobals "Low" = some (some (.ref cLow)))
    (n_High : PySem.W.nsIn K mainGlobals "High" = some (some (.ref cHigh)))
    (n_Sum : PySem.W.nsIn K mainGlobals "Sum" = some (some (.ref cSum)))
    (n_Domain : PySem.W.nsIn K mainGlobals "Domain" = some (some (.ref cDomain)))
    (n_Numbers : PySem.W.nsIn K mainGlobals "Numbers" = some (some (.ref cNumbers)))
    (n_Words : PySem.W.nsIn K mainGlobals "Words" = some (some (.ref cWords)))
    (n_Table : PySem.W.nsIn K mainGlobals "Table" = some (some (.ref cTable)))
    (n_Book : PySem.W.nsIn K mainGlobals "Book" = some (some (.ref cBook)))
    (a0 : PySem.W.nsIn K mainGlobals "all_among" = some (some (.ref f0))) (l0 : K.lookup f0 = some ⟨oc0, od0, .func (PySem.W.fnOf "all_among" "all_among" (defArgs s_all_among) (defBody s_all_among) (defScope s_all_among) .none kV0 dc0 pm0 an0 cd0 ct0), sl0⟩) (c0 : PySem.W.codeIn K cd0 "all_among" = true) (k0 : PySem.W.keepIn K (.ref f0) = true)
    (a1 : PySem.W.nsIn K mainGlobals "is_word" = some (some (.ref f1))) (l1 : K.lookup f1 = some ⟨oc1, od1, .func (PySem.W.fnOf "is_word" "is_word" (defArgs s_is_word) (defBody s_is_word) (defScope s_is_word) .none kV1 dc1 pm1 an1 cd1 ct1), sl1⟩) (c1 : PySem.W.codeIn K cd1 "is_word" = true) (k1 : PySem.W.keepIn K (.ref f1) = true)
    (a2 : PySem.W.nsIn K mainGlobals "is_whole" = some (some (.ref f2))) (l2 : K.lookup f2 = some ⟨oc2, od2, .func (PySem.W.fnOf "is_whole" "is_whole" (defArgs s_is_whole) (defBody s_is_whole) (defScope s_is_whole) .none kV2 dc2 pm2 an2 cd2 ct2), sl2⟩) (c2 : PySem.W.codeIn K cd2 "is_whole" = true) (k2 : PySem.W.keepIn K (.ref f2) = true)
    (a3 : PySem.W.nsIn K mainGlobals "alike" = some (some (.ref f3))) (l3 : K.lookup f3 = some ⟨oc3, od3, .func (PySem.W.fnOf "alike" "alike" (defArgs s_alike) (defBody s_alike) (defScope s_alike) .none kV3 dc3 pm3 an3 cd3 ct3), sl3⟩) (c3 : PySem.W.codeIn K cd3 "alike" = true) (k3 : PySem.W.keepIn K (.ref f3) = true)
    (a4 : PySem.W.nsIn K mainGlobals "refuse_counts_books" = some (some (.ref f4))) (l4 : K.lookup f4 = some ⟨oc4, od4, .func (PySem.W.fnOf "refuse_counts" "refuse_counts" (defArgs s_refuse_counts_books) (defBody s_refuse_counts_books) (defScope s_refuse_counts_books) .none kV4 dc4 pm4 an4 cd4 ct4), sl4⟩) (c4 : PySem.W.codeIn K cd4 "refuse_counts" = true) (k4 : PySem.W.keepIn K (.ref f4) = true)
    (a5 : PySem.W.nsIn K mainGlobals "refuse_names_books" = some (some (.ref f5))) (l5 : K.lookup f5 = some ⟨oc5, od5, .func (PySem.W.fnOf "refuse_names" "refuse_names" (defArgs s_refuse_names_books) (defBody s_refuse_names_books) (defScope s_refuse_names_books) .none kV5 dc5 pm5 an5 cd5 ct5), sl5⟩) (c5 : PySem.W.codeIn K cd5 "refuse_names" = true) (k5 : PySem.W.keepIn K (.ref f5) = true)
    (a6 : PySem.W.nsIn K mainGlobals "refuse_domains" = some (some (.ref f6))) (l6 : K.lookup f6 = some ⟨oc6, od6, .func (PySem.W.fnOf "refuse_domains" "refuse_domains" (defArgs s_refuse_domains) (defBody s_refuse_domains) (defScope s_refuse_domains) .none kV6 dc6 pm6 an6 cd6 ct6), sl6⟩) (c6 : PySem.W.codeIn K cd6 "refuse_domains" = true) (k6 : PySem.W.keepIn K (.ref f6) = true)
    (a7 : PySem.W.nsIn K mainGlobals "refuse_rings" = some (some (.ref f7))) (l7 : K.lookup f7 = some ⟨oc7, od7, .func (PySem.W.fnOf "refuse_rings" "refuse_rings" (defArgs s_refuse_rings) (defBody s_refuse_rings) (defScope s_refuse_rings) .none kV7 dc7 pm7 an7 cd7 ct7), sl7⟩) (c7 : PySem.W.codeIn K cd7 "refuse_rings" = true) (k7 : PySem.W.keepIn K (.ref f7) = true)
    (a8 : PySem.W.nsIn K mainGlobals "named_among" = some (some (.ref f8))) (l8 : K.lookup f8 = some ⟨oc8, od8, .func (PySem.W.fnOf "named_among" "named_among" (defArgs s_named_among) (defBody s_named_among) (defScope s_named_among) .none kV8 dc8 pm8 an8 cd8 ct8), sl8⟩) (c8 : PySem.W.codeIn K cd8 "named_among" = true) (k8 : PySem.W.keepIn K (.ref f8) = true)
    (a9 : PySem.W.nsIn K mainGlobals "way_by" = some (some (.ref f9))) (l9 : K.lookup f9 = some ⟨oc9, od9, .func (PySem.W.fnOf "way_by" "way_by" (defArgs s_way_by) (defBody s_way_by) (defScope s_way_by) .none kV9 dc9 pm9 an9 cd9 ct9), sl9⟩) (c9 : PySem.W.codeIn K cd9 "way_by" = true) (k9 : PySem.W.keepIn K (.ref f9) = true)
    (a10 : PySem.W.nsIn K mainGlobals "refuse_names_tables" = some (some (.ref f10))) (l10 : K.lookup f10 = some ⟨oc10, od10, .func (PySem.W.fnOf "refuse_names" "refuse_names" (defArgs s_refuse_names_tables) (defBody s_refuse_names_tables) (defScope s_refuse_names_tables) .none kV10 dc10 pm10 an10 cd10 ct10), sl10⟩) (c10 : PySem.W.codeIn K cd10 "refuse_names" = true) (k10 : PySem.W.keepIn K (.ref f10) = true)
    (a11 : PySem.W.nsIn K mainGlobals "refuse_counts_tables" = some (some (.ref f11))) (l11 : K.lookup f11 = some ⟨oc11, od11, .func (PySem.W.fnOf "refuse_counts" "refuse_counts" (defArgs s_refuse_counts_tables) (defBody s_refuse_counts_tables) (defScope s_refuse_counts_tables) .none kV11 dc11 pm11 an11 cd11 ct11), sl11⟩) (c11 : PySem.W.codeIn K cd11 "refuse_counts" = true) (k11 : PySem.W.keepIn K (.ref f11) = true)
    (a12 : PySem.W.nsIn K mainGlobals "refuse_way" = some (some (.ref f12))) (l12 : K.lookup f12 = some ⟨oc12, od12, .func (PySem.W.fnOf "refuse_way" "refuse_way" (defArgs s_refuse_way) (defBody s_refuse_way) (defScope s_refuse_way) .none kV12 dc12 pm12 an12 cd12 ct12), sl12⟩) (c12 : PySem.W.codeIn K cd12 "refuse_way" = true) (k12 : PySem.W.keepIn K (.ref f12) = true)
    (a13 : PySem.W.nsIn K mainGlobals "refuse_row" = some (some (.ref f13))) (l13 : K.lookup f13 = some ⟨oc13, od13, .func (PySem.W.fnOf "refuse_row" "refuse_row" (defArgs s_refuse_row) (defBody s_refuse_row) (defScope s_refuse_row) .none kV13 dc13 pm13 an13 cd13 ct13), sl13⟩) (c13 : PySem.W.codeIn K cd13 "refuse_row" = true) (k13 : PySem.W.keepIn K (.ref f13) = true)
    (a14 : PySem.W.nsIn K mainGlobals "own_row" = some (some (.ref f14))) (l14 : K.lookup f14 = some ⟨oc14, od14, .func (PySem.W.fnOf "own_row" "own_row" (defArgs s_own_row) (defBody s_own_row) (defScope s_own_row) .none kV14 dc14 pm14 an14 cd14 ct14), sl14⟩) (c14 : PySem.W.codeIn K cd14 "own_row" = true) (k14 : PySem.W.keepIn K (.ref f14) = true)
    (a15 : PySem.W.nsIn K mainGlobals "_law_at" = some (some (.ref f15))) (l15 : K.lookup f15 = some ⟨oc15, od15, .func (PySem.W.fnOf "_law_at" "_law_at" (defArgs s_law_at) (defBody s_law_at) (defScope s_law_at) .none kV15 dc15 pm15 an15 cd15 ct15), sl15⟩) (c15 : PySem.W.codeIn K cd15 "_law_at" = true) (k15 : PySem.W.keepIn K (.ref f15) = true)
    (a16 : PySem.W.nsIn K mainGlobals "_law_folded" = some (some (.ref f16))) (l16 : K.lookup f16 = some ⟨oc16, od16, .func (PySem.W.fnOf "_law_folded" "_law_folded" (defArgs s_law_folded) (defBody s_law_folded) (defScope s_law_folded) .none kV16 dc16 pm16 an16 cd16 ct16), sl16⟩) (c16 : PySem.W.codeIn K cd16 "_law_folded" = true) (k16 : PySem.W.keepIn K (.ref f16) = true)
    (a17 : PySem.W.nsIn K mainGlobals "_law_asked" = some (some (.ref f17))) (l17 : K.lookup f17 = some ⟨oc17, od17, .func (PySem.W.fnOf "_law_asked" "_law_asked" (defArgs s_law_asked) (defBody s_law_asked) (defScope s_law_asked) .none kV17 dc17 pm17 an17 cd17 ct17), sl17⟩) (c17 : PySem.W.codeIn K cd17 "_law_asked" = true) (k17 : PySem.W.keepIn K (.ref f17) = true)
    (a18 : PySem.W.nsIn K mainGlobals "_law_names" = some (some (.ref f18))) (l18 : K.lookup f18 = some ⟨oc18, od18, .func (PySem.W.fnOf "_law_names" "_law_names" (defArgs s_law_names) (defBody s_law_names) (defScope s_law_names) .none kV18 dc18 pm18 an18 cd18 ct18), sl18⟩) (c18 : PySem.W.codeIn K cd18 "_law_names" = true) (k18 : PySem.W.keepIn K (.ref f18) = true)
    (a19 : PySem.W.nsIn K mainGlobals "_law_net_table" = some (some (.ref f19))) (l19 : K.lookup f19 = some ⟨oc19, od19, .func (PySem.W.fnOf "_law_net_table" "_law_net_table" (defArgs s_law_net_table) (defBody s_law_net_table) (defScope s_law_net_table) .none kV19 dc19 pm19 an19 cd19 ct19), sl19⟩) (c19 : PySem.W.codeIn K cd19 "_law_net_table" = true) (k19 : PySem.W.keepIn K (.ref f19) = true)
    (a20 : PySem.W.nsIn K mainGlobals "_law_ring" = some (some (.ref f20))) (l20 : K.lookup f20 = some ⟨oc20, od20, .func (PySem.W.fnOf "_law_ring" "_law_ring" (defArgs s_law_ring) (defBody s_law_ring) (defScope s_law_ring) .none kV20 dc20 pm20 an20 cd20 ct20), sl20⟩) (c20 : PySem.W.codeIn K cd20 "_law_ring" = true) (k20 : PySem.W.keepIn K (.ref f20) = true)
    (i21 : PySem.W.findIn K (.ref cBook) "__init__" = some (some (.ref f21))) (if21 : PySem.W.isFn K (.ref f21) = true) (im21 : PySem.W.makesIn K cBook = true) (ik21 : PySem.W.keepIn K (.ref cBook) = true) (l21 : K.lookup f21 = some ⟨oc21, od21, .func (PySem.W.fnOf "__init__" "Book.__init__" (defArgs s_Book___init___Book) (defBody s_Book___init___Book) (defScope s_Book___init___Book) .none kV21 dc21 pm21 an21 cd21 ct21), sl21⟩) (c21 : PySem.W.codeIn K cd21 "Book.__init__" = true) (k21 : PySem.W.keepIn K (.ref f21) = true)
    (i22 : PySem.W.findIn K (.ref cNumbers) "__init__" = some (some (.ref f22))) (if22 : PySem.W.isFn K (.ref f22) = true) (im22 : PySem.W.makesIn K cNumbers = true) (ik22 : PySem.W.keepIn K (.ref cNumbers) = true) (l22 : K.lookup f22 = some ⟨oc22, od22, .func (PySem.W.fnOf "__init__" "Numbers.__init__" (defArgs s_Numbers___init___Numbers) (defBody s_Numbers___init___Numbers) (defScope s_Numbers___init___Numbers) .none kV22 dc22 pm22 an22 cd22 ct22), sl22⟩) (c22 : PySem.W.codeIn K cd22 "Numbers.__init__" = true) (k22 : PySem.W.keepIn K (.ref f22) = true)
    (b_s23 : PySem.W.specialIn K (.ref cDomain) "__getattribute__" = some (some (.builtin "type.__getattribute__"))) (b_r23 : PySem.W.readsIn K cDomain (.type "type") = true) (b_a23 : PySem.W.findCls K (.ref cDomain) (.type "type") "__init__" = some (.val (.ref f23))) (l23 : K.lookup f23 = some ⟨oc23, od23, .func (PySem.W.fnOf "__init__" "Domain.__init__" (defArgs s_Domain___init___Numbers) (defBody s_Domain___init___Numbers) (defScope s_Domain___init___Numbers) .none kV23 dc23 pm23 an23 cd23 ct23), sl23⟩) (c23 : PySem.W.codeIn K cd23 "Domain.__init__" = true) (k23 : PySem.W.keepIn K (.ref f23) = true)
    (i24 : PySem.W.findIn K (.ref cTable) "__init__" = some (some (.ref f24))) (if24 : PySem.W.isFn K (.ref f24) = true) (im24 : PySem.W.makesIn K cTable = true) (ik24 : PySem.W.keepIn K (.ref cTable) = true) (l24 : K.lookup f24 = some ⟨oc24, od24, .func (PySem.W.fnOf "__init__" "Table.__init__" (defArgs s_Table___init___Table) (defBody s_Table___init___Table) (defScope s_Table___init___Table) .none kV24 dc24 pm24 an24 cd24 ct24), sl24⟩) (c24 : PySem.W.codeIn K cd24 "Table.__init__" = true) (k24 : PySem.W.keepIn K (.ref f24) = true)
    (i25 : PySem.W.findIn K (.ref cFirst) "__init__" = some (some (.ref f25))) (if25 : PySem.W.isFn K (.ref f25) = true) (im25 : PySem.W.makesIn K cFirst = true) (ik25 : PySem.W.keepIn K (.ref cFirst) = true) (l25 : K.lookup f25 = some ⟨oc25, od25, .func (PySem.W.fnOf "__init__" "First.__init__" (defArgs s_First___init___First) (defBody s_First___init___First) (defScope s_First___init___First) .none kV25 dc25 pm25 an25 cd25 ct25), sl25⟩) (c25 : PySem.W.codeIn K cd25 "First.__init__" = true) (k25 : PySem.W.keepIn K (.ref f25) = true)
    (b_s26 : PySem.W.specialIn K (.ref cWay) "__getattribute__" = some (some (.builtin "type.__getattribute__"))) (b_r26 : PySem.W.readsIn K cWay (.type "type") = true) (b_a26 : PySem.W.findCls K (.ref cWay) (.type "type") "__init__" = some (.val (.ref f26))) (l26 : K.lookup f26 = some ⟨oc26, od26, .func (PySem.W.fnOf "__init__" "Way.__init__" (defArgs s_Way___init___First) (defBody s_Way___init___First) (defScope s_Way___init___First) .none kV26 dc26 pm26 an26 cd26 ct26), sl26⟩) (c26 : PySem.W.codeIn K cd26 "Way.__init__" = true) (k26 : PySem.W.keepIn K (.ref f26) = true)
    (i27 : PySem.W.findIn K (.ref cOnly) "__init__" = some (some (.ref f27))) (if27 : PySem.W.isFn K (.ref f27) = true) (im27 : PySem.W.makesIn K cOnly = true) (ik27 : PySem.W.keepIn K (.ref cOnly) = true) (l27 : K.lookup f27 = some ⟨oc27, od27, .func (PySem.W.fnOf "__init__" "Only.__init__" (defArgs s_Only___init___Only) (defBody s_Only___init___Only) (defScope s_Only___init___Only) .none kV27 dc27 pm27 an27 cd27 ct27), sl27⟩) (c27 : PySem.W.codeIn K cd27 "Only.__init__" = true) (k27 : PySem.W.keepIn K (.ref f27) = true)
    (b_s28 : PySem.W.specialIn K (.ref cWay) "__getattribute__" = some (some (.builtin "type.__getattribute__"))) (b_r28 : PySem.W.readsIn K cWay (.type "type") = true) (b_a28 : PySem.W.findCls K (.ref cWay) (.type "type") "__init__" = some (.val (.ref f28))) (l28 : K.lookup f28 = some ⟨oc28, od28, .func (PySem.W.fnOf "__init__" "Way.__init__" (defArgs s_Way___init___Only) (defBody s_Way___init___Only) (defScope s_Way___init___Only) .none kV28 dc28 pm28 an28 cd28 ct28), sl28⟩) (c28 : PySem.W.codeIn K cd28 "Way.__init__" = true) (k28 : PySem.W.keepIn K (.ref f28) = true)
    (i29 : PySem.W.findIn K (.ref cLike) "__init__" = some (some (.ref f29))) (if29 : PySem.W.isFn K (.ref f29) = true) (im29 : PySem.W.makesIn K cLike = true) (ik29 : PySem.W.keepIn K (.ref cLike) = true) (l29 : K.lookup f29 = some ⟨oc29, od29, .func (PySem.W.fnOf "__init__" "Like.__init__" (defArgs s_Like___init___Like) (defBody s_Like___init___Like) (defScope s_Like___init___Like) .none kV29 dc29 pm29 an29 cd29 ct29), sl29⟩) (c29 : PySem.W.codeIn K cd29 "Like.__init__" = true) (k29 : PySem.W.keepIn K (.ref f29) = true)
    (b_s30 : PySem.W.specialIn K (.ref cWay) "__getattribute__" = some (some (.builtin "type.__getattribute__"))) (b_r30 : PySem.W.readsIn K cWay (.type "type") = true) (b_a30 : PySem.W.findCls K (.ref cWay) (.type "type") "__init__" = some (.val (.ref f30))) (l30 : K.lookup f30 = some ⟨oc30, od30, .func (PySem.W.fnOf "__init__" "Way.__init__" (defArgs s_Way___init___Like) (defBody s_Way___init___Like) (defScope s_Way___init___Like) .none kV30 dc30 pm30 an30 cd30 ct30), sl30⟩) (c30 : PySem.W.codeIn K cd30 "Way.__init__" = true) (k30 : PySem.W.keepIn K (.ref f30) = true)
    (i31 : PySem.W.findIn K (.ref cLow) "__init__" = some (some (.ref f31))) (if31 : PySem.W.isFn K (.ref f31) = true) (im31 : PySem.W.makesIn K cLow = true) (ik31 : PySem.W.keepIn K (.ref cLow) = true) (l31 : K.lookup f31 = some ⟨oc31, od31, .func (PySem.W.fnOf "__init__" "Low.__init__" (defArgs s_Low___init___Low) (defBody s_Low___init___Low) (defScope s_Low___init___Low) .none kV31 dc31 pm31 an31 cd31 ct31), sl31⟩) (c31 : PySem.W.codeIn K cd31 "Low.__init__" = true) (k31 : PySem.W.keepIn K (.ref f31) = true)
    (b_s32 : PySem.W.specialIn K (.ref cWay) "__getattribute__" = some (some (.builtin "type.__getattribute__"))) (b_r32 : PySem.W.readsIn K cWay (.type "type") = true) (b_a32 : PySem.W.findCls K (.ref cWay) (.type "type") "__init__" = some (.val (.ref f32))) (l32 : K.lookup f32 = some ⟨oc32, od32, .func (PySem.W.fnOf "__init__" "Way.__init__" (defArgs s_Way___init___Low) (defBody s_Way___init___Low) (defScope s_Way___init___Low) .none kV32 dc32 pm32 an32 cd32 ct32), sl32⟩) (c32 : PySem.W.codeIn K cd32 "Way.__init__" = true) (k32 : PySem.W.keepIn K (.ref f32) = true)
    (i33 : PySem.W.findIn K (.ref cHigh) "__init__" = some (some (.ref f33))) (if33 : PySem.W.isFn K (.ref f33) = true) (im33 : PySem.W.makesIn K cHigh = true) (ik33 : PySem.W.keepIn K (.ref cHigh) = true) (l33 : K.lookup f33 = some ⟨oc33, od33, .func (PySem.W.fnOf "__init__" "High.__init__" (defArgs s_High___init___High) (defBody s_High___init___High) (defScope s_High___init___High) .none kV33 dc33 pm33 an33 cd33 ct33), sl33⟩) (c33 : PySem.W.codeIn K cd33 "High.__init__" = true) (k33 : PySem.W.keepIn K (.ref f33) = true)
    (b_s34 : PySem.W.specialIn K (.ref cWay) "__getattribute__" = some (some (.builtin "type.__getattribute__"))) (b_r34 : PySem.W.readsIn K cWay (.type "type") = true) (b_a34 : PySem.W.findCls K (.ref cWay) (.type "type") "__init__" = some (.val (.ref f34))) (l34 : K.lookup f34 = some ⟨oc34, od34, .func (PySem.W.fnOf "__init__" "Way.__init__" (defArgs s_Way___init___High) (defBody s_Way___init___High) (defScope s_Way___init___High) .none kV34 dc34 pm34 an34 cd34 ct34), sl34⟩) (c34 : PySem.W.codeIn K cd34 "Way.__init__" = true) (k34 : PySem.W.keepIn K (.ref f34) = true)
    (i35 : PySem.W.findIn K (.ref cSum) "__init__" = some (some (.ref f35))) (if35 : PySem.W.isFn K (.ref f35) = true) (im35 : PySem.W.makesIn K cSum = true) (ik35 : PySem.W.keepIn K (.ref cSum) = true) (l35 : K.lookup f35 = some ⟨oc35, od35, .func (PySem.W.fnOf "__init__" "Sum.__init__" (defArgs s_Sum___init___Sum) (defBody s_Sum___init___Sum) (defScope s_Sum___init___Sum) .none kV35 dc35 pm35 an35 cd35 ct35), sl35⟩) (c35 : PySem.W.codeIn K cd35 "Sum.__init__" = true) (k35 : PySem.W.keepIn K (.ref f35) = true)
    (b_s36 : PySem.W.specialIn K (.ref cWay) "__getattribute__" = some (some (.builtin "type.__getattribute__"))) (b_r36 : PySem.W.readsIn K cWay (.type "type") = true) (b_a36 : PySem.W.findCls K (.ref cWay) (.type "type") "__init__" = some (.val (.ref f36))) (l36 : K.lookup f36 = some ⟨oc36, od36, .func (PySem.W.fnOf "__init__" "Way.__init__" (defArgs s_Way___init___Sum) (defBody s_Way___init___Sum) (defScope s_Way___init___Sum) .none kV36 dc36 pm36 an36 cd36 ct36), sl36⟩) (c36 : PySem.W.codeIn K cd36 "Way.__init__" = true) (k36 : PySem.W.keepIn K (.ref f36) = true)
    (m37 : PySem.W.findIn K (.ref cNumbers) "has_code" = some (some (.ref f37))) (mf37 : PySem.W.isFn K (.ref f37) = true) (l37 : K.lookup f37 = some ⟨oc37, od37, .func (PySem.W.fnOf "has_code" "Domain.has_code" (defArgs s_Domain_has_code_Numbers) (defBody s_Domain_has_code_Numbers) (defScope s_Domain_has_code_Numbers) .none kV37 dc37 pm37 an37 cd37 ct37), sl37⟩) (c37 : PySem.W.codeIn K cd37 "Domain.has_code" = true) (k37 : PySem.W.keepIn K (.ref f37) = true)
    (m38 : PySem.W.findIn K (.ref cWords) "has_code" = some (some (.ref f38))) (mf38 : PySem.W.isFn K (.ref f38) = true) (l38 : K.lookup f38 = some ⟨oc38, od38, .func (PySem.W.fnOf "has_code" "Domain.has_code" (defArgs s_Domain_has_code_Words) (defBody s_Domain_has_code_Words) (defScope s_Domain_has_code_Words) .none kV38 dc38 pm38 an38 cd38 ct38), sl38⟩) (c38 : PySem.W.codeIn K cd38 "Domain.has_code" = true) (k38 : PySem.W.keepIn K (.ref f38) = true)
    (a39 : PySem.W.nsIn K mainGlobals "law" = some (some (.ref f39))) (l39 : K.lookup f39 = some ⟨oc39, od39, .func (PySem.W.fnOf "law" "law" (defArgs s_law) (defBody s_law) (defScope s_law) .none kV39 dc39 pm39 an39 cd39 ct39), sl39⟩) (c39 : PySem.W.codeIn K cd39 "law" = true) (k39 : PySem.W.keepIn K (.ref f39) = true)
    (z0 : PySem.W.nsIn K mainGlobals "len" = some none)
    (z1 : PySem.W.nsIn K mainGlobals "isinstance" = some none)
    (z2 : PySem.W.nsIn K mainGlobals "int" = some none)
    (z3 : PySem.W.nsIn K mainGlobals "bool" = some none)
    (z4 : PySem.W.nsIn K mainGlobals "set" = some none)
    (z5 : PySem.W.nsIn K mainGlobals "dict" = some none)
    (z6 : PySem.W.nsIn K mainGlobals "zip" = some none)
    (z7 : PySem.W.nsIn K mainGlobals "list" = some none)
    (z8 : PySem.W.nsIn K mainGlobals "range" = some none)
    (z9 : PySem.W.nsIn K mainGlobals "ValueError" = some none)
    {w0 : Value} (y0 : PySem.W.nsIn K mainGlobals "MOST_SIGNS" = some (some w0)) (x0 : RelV (V.int 12) w0)
    {w1 : Value} (y1 : PySem.W.nsIn K mainGlobals "SMALL_LETTERS" = some (some w1)) (x1 : RelV (V.str "abcdefghijklmnopqrstuvwxyz") w1)
    {w2 : Value} (y2 : PySem.W.nsIn K mainGlobals "MOST_FACTS" = some (some w2)) (x2 : RelV (V.int 20) w2)
    {w3 : Value} (y3 : PySem.W.nsIn K mainGlobals "MOST_TABLES" = some (some w3)) (x3 : RelV (V.int 30) w3)
    {w4 : Value} (y4 : PySem.W.nsIn K mainGlobals "MOST_ROWS" = some (some w4)) (x4 : RelV (V.int 200) w4)
    {w5 : Value} (y5 : PySem.W.nsIn K mainGlobals "MOST_COLUMNS" = some (some w5)) (x5 : RelV (V.int 4) w5)
    (x_Ring : PySem.W.excIn K cRing [.type "ValueError", .type "Exception", .type "BaseException", .type "object"] "ValueError.__new__" = true)
    (l0_Ring : PySem.W.findIn K (.ref cRing) "__getattribute__" = some (some (.builtin "BaseException.__getattribute__")))
    (l1_Ring : PySem.W.findIn K (.ref cRing) "__getattr__" = some none)
    (l2_Ring : PySem.W.findIn K (.ref cRing) "__class__" = some (some (.builtin "object.__class__")))
    (l3_Ring : PySem.W.specialIn K (.builtin "object.__class__") "__get__" = some (some (.builtin "getset_descriptor.__get__")))
    (l4_Ring : PySem.W.takesIn K (.builtin "object.__class__") = some true)
    (l5_Ring : PySem.W.mroIn K cRing (.type "object") = some true)
    (l6_Ring : PySem.W.mroIn K cRing (.type "BaseException") = some true)
    (l7_Ring : PySem.W.kitCls K (.ref cRing) (.ref cRing) = some true)
    (pg_First : PySem.W.plainGet K cFirst Str.empty = true) (hd_First : PySem.W.hasDictIn K cFirst = true) (po_First : PySem.W.plainOver K cFirst = true) (sa_First : PySem.W.findIn K (.ref cFirst) "__setattr__" = some (some (.builtin "object.__setattr__")))
    (pg_Only : PySem.W.plainGet K cOnly Str.empty = true) (hd_Only : PySem.W.hasDictIn K cOnly = true) (po_Only : PySem.W.plainOver K cOnly = true) (sa_Only : PySem.W.findIn K (.ref cOnly) "__setattr__" = some (some (.builtin "object.__setattr__")))
    (pg_Like : PySem.W.plainGet K cLike Str.empty = true) (hd_Like : PySem.W.hasDictIn K cLike = true) (po_Like : PySem.W.plainOver K cLike = true) (sa_Like : PySem.W.findIn K (.ref cLike) "__setattr__" = some (some (.builtin "object.__setattr__")))
    (pg_Low : PySem.W.plainGet K cLow Str.empty = true) (hd_Low : PySem.W.hasDictIn K cLow = true) (po_Low : PySem.W.plainOver K cLow = true) (sa_Low : PySem.W.findIn K (.ref cLow) "__setattr__" = some (some (.builtin "object.__setattr__")))
    (pg_High : PySem.W.plainGet K cHigh Str.empty = true) (hd_High : PySem.W.hasDictIn K cHigh = true) (po_High : PySem.W.plainOver K cHigh = true) (sa_High : PySem.W.findIn K (.ref cHigh) "__setattr__" = some (some (.builtin "object.__setattr__")))
    (pg_Sum : PySem.W.plainGet K cSum Str.empty = true) (hd_Sum : PySem.W.hasDictIn K cSum = true) (po_Sum : PySem.W.plainOver K cSum = true) (sa_Sum : PySem.W.findIn K (.ref cSum) "__setattr__" = some (some (.builtin "object.__setattr__")))
    (pg_Numbers : PySem.W.plainGet K cNumbers Str.empty = true) (hd_Numbers : PySem.W.hasDictIn K cNumbers = true) (po_Numbers : PySem.W.plainOver K cNumbers = true) (sa_Numbers : PySem.W.findIn K (.ref cNumbers) "__setattr__" = some (some (.builtin "object.__setattr__")))
    (pg_Words : PySem.W.plainGet K cWords Str.empty = true) (hd_Words : PySem.W.hasDictIn K cWords = true) (po_Words : PySem.W.plainOver K cWords = true) (sa_Words : PySem.W.findIn K (.ref cWords) "__setattr__" = some (some (.builtin "object.__setattr__")))
    (pg_Table : PySem.W.plainGet K cTable Str.empty = true) (hd_Table : PySem.W.hasDictIn K cTable = true) (po_Table : PySem.W.plainOver K cTable = true) (sa_Table : PySem.W.findIn K (.ref cTable) "__setattr__" = some (some (.builtin "object.__setattr__")))
    (pg_Book : PySem.W.plainGet K cBook Str.empty = true) (hd_Book : PySem.W.hasDictIn K cBook = true) (po_Book : PySem.W.plainOver K cBook = true) (sa_Book : PySem.W.findIn K (.ref cBook) "__setattr__" = some (some (.builtin "object.__setattr__")))
    (ta_First : PySem.W.findIn K (.ref cFirst) "__class__" = some (some (.builtin "object.__class__"))) (tn_First : PySem.W.specialIn K (.builtin "object.__class__") "__get__" = some (some (.builtin "getset_descriptor.__get__"))) (tt_First : PySem.W.takesIn K (.builtin "object.__class__") = some true) (tm_First : PySem.W.mroIn K cFirst (.type "object") = some true)
    (ta_Only : PySem.W.findIn K (.ref cOnly) "__class__" = some (some (.builtin "object.__class__"))) (tn_Only : PySem.W.specialIn K (.builtin "object.__class__") "__get__" = some (some (.builtin "getset_descriptor.__get__"))) (tt_Only : PySem.W.takesIn K (.builtin "object.__class__") = some true) (tm_Only : PySem.W.mroIn K cOnly (.type "object") = some true)
    (ta_Like : PySem.W.findIn K (.ref cLike) "__class__" = some (some (.builtin "object.__class__"))) (tn_Like : PySem.W.specialIn K (.builtin "object.__class__") "__get__" = some (some (.builtin "getset_descriptor.__get__"))) (tt_Like : PySem.W.takesIn K (.builtin "object.__class__") = some true) (tm_Like : PySem.W.mroIn K cLike (.type "object") = some true)
    (ta_Low : PySem.W.findIn K (.ref cLow) "__class__" = some (some (.builtin "object.__class__"))) (tn_Low : PySem.W.specialIn K (.builtin "object.__class__") "__get__" = some (some (.builtin "getset_descriptor.__get__"))) (tt_Low : PySem.W.takesIn K (.builtin "object.__class__") = some true) (tm_Low : PySem.W.mroIn K cLow (.type "object") = some true)
    (ta_High : PySem.W.findIn K (.ref cHigh) "__class__" = some (some (.builtin "object.__class__"))) (tn_High : PySem.W.specialIn K (.builtin "object.__class__") "__get__" = some (some (.builtin "getset_descriptor.__get__"))) (tt_High : PySem.W.takesIn K (.builtin "object.__class__") = some true) (tm_High : PySem.W.mroIn K cHigh (.type "object") = some true)
    (ta_Sum : PySem.W.findIn K (.ref cSum) "__class__" = some (some (.builtin "object.__class__"))) (tn_Sum : PySem.W.specialIn K (.builtin "object.__class__") "__get__" = some (some (.builtin "getset_descriptor.__get__"))) (tt_Sum : PySem.W.takesIn K (.builtin "object.__class__") = some true) (tm_Sum : PySem.W.mroIn K cSum (.type "object") = some true)
    (ta_Numbers : PySem.W.findIn K (.ref cNumbers) "__class__" = some (some (.builtin "object.__class__"))) (tn_Numbers : PySem.W.specialIn K (.builtin "object.__class__") "__get__" = some (some (.builtin "getset_descriptor.__get__"))) (tt_Numbers : PySem.W.takesIn K (.builtin "object.__class__") = some true) (tm_Numbers : PySem.W.mroIn K cNumbers (.type "object") = some true)
    (ta_Words : PySem.W.findIn K (.ref cWords) "__class__" = some (some (.builtin "object.__class__"))) (tn_Words : PySem.W.specialIn K (.builtin "object.__class__") "__get__" = some (some (.builtin "getset_descriptor.__get__"))) (tt_Words : PySem.W.takesIn K (.builtin "object.__class__") = some true) (tm_Words : PySem.W.mroIn K cWords (.type "object") = some true)
    (ta_Table : PySem.W.findIn K (.ref cTable) "__class__" = some (some (.builtin "object.__class__"))) (tn_Table : PySem.W.specialIn K (.builtin "object.__class__") "__get__" = some (some (.builtin "getset_descriptor.__get__"))) (tt_Table : PySem.W.takesIn K (.builtin "object.__class__") = some true) (tm_Table : PySem.W.mroIn K cTable (.type "object") = some true)
    (ta_Book : PySem.W.findIn K (.ref cBook) "__class__" = some (some (.builtin "object.__class__"))) (tn_Book : PySem.W.specialIn K (.builtin "object.__class__") "__get__" = some (some (.builtin "getset_descriptor.__get__"))) (tt_Book : PySem.W.takesIn K (.builtin "object.__class__") = some true) (tm_Book : PySem.W.mroIn K cBook (.type "object") = some true)
    (na_First_called : PySem.W.findIn K (.ref cFirst) "called" = some none)
    (na_Only_called : PySem.W.findIn K (.ref cOnly) "called" = some none)
    (na_Like_called : PySem.W.findIn K (.ref cLike) "called" = some none)
    (na_Low_called : PySem.W.findIn K (.ref cLow) "called" = some none)
    (na_High_called : PySem.W.findIn K (.ref cHigh) "called" = some none)
    (na_Sum_called : PySem.W.findIn K (.ref cSum) "called" = some none)
    (na_Numbers_low : PySem.W.findIn K (.ref cNumbers) "low" = some none)
    (na_Numbers_high : PySem.W.findIn K (.ref cNumbers) "high" = some none)
    (na_Numbers_words : PySem.W.findIn K (.ref cNumbers) "words" = some none)
    (na_Words_low : PySem.W.findIn K (.ref cWords) "low" = some none)
    (na_Words_high : PySem.W.findIn K (.ref cWords) "high" = some none)
    (na_Words_words : PySem.W.findIn K (.ref cWords) "words" = some none)
    (na_Table_name : PySem.W.findIn K (.ref cTable) "name" = some none)
    (na_Table_names : PySem.W.findIn K (.ref cTable) "names" = some none)
    (na_Table_domains : PySem.W.findIn K (.ref cTable) "domains" = some none)
    (na_Table_outcome : PySem.W.findIn K (.ref cTable) "outcome" = some none)
    (na_Table_way : PySem.W.findIn K (.ref cTable) "way" = some none)
    (na_Table_rows : PySem.W.findIn K (.ref cTable) "rows" = some none)
    (na_Book_facts : PySem.W.findIn K (.ref cBook) "facts" = some none)
    (na_Book_tables : PySem.W.findIn K (.ref cBook) "tables" = some none)
    (f_nn : PySem.W.kitOne K (.ref cNumbers) (.ref cNumbers) = some true)
    (f_wn : PySem.W.kitOne K (.ref cWords) (.ref cNumbers) = some false)
    (f_ww : PySem.W.kitOne K (.ref cWords) (.ref cWords) = some true)
    (f_tt : PySem.W.kitOne K (.ref cTable) (.ref cTable) = some true)
    (f_nw : PySem.W.kitOne K (.ref cNumbers) (.ref cWords) = some false)
    (e2_Ring : PySem.W.exmOne K (.ref cRing) (.ref cRing) = some true)
    (v1_Ring : PySem.W.kitOne K (.ref cRing) (.ref cTableError) = some true)
    (v2_Ring : PySem.W.kitOne K (.ref cRing) (.type "ValueError") = some true)
    (v3_Ring : PySem.W.kitOne K (.ref cRing) (.ref cUnlike) = some false)
    : ∃ fd : FuncData, (∀ (s : Shared) (v : Value), BindsTo s fd ⟨[v], []⟩ [("script", v)]) ∧ ∀ base : Heap, K.In base → base.Ns mainGlobals mg → FnOk l.prog w K mg base CX0 9 fa fd ["script"] (sp_law K) := by
  have e := hfa.symm.trans (PySem.W.mg_of X G a39)
  cases e
  have F0 := fun_mk (st := s_all_among) l0 c0 k0
  have b0 := F0.binds (ps := ["text", "signs"]) fun _ _ _ _ _ _ us hl => match us, hl with | [_, _], _ => rfl
  have F1 := fun_mk (st := s_is_word) l1 c1 k1
  have b1 := F1.binds (ps := ["text"]) fun _ _ _ _ _ _ us hl => match us, hl with | [_], _ => rfl
  have F2 := fun_mk (st := s_is_whole) l2 c2 k2
  have b2 := F2.binds (ps := ["value"]) fun _ _ _ _ _ _ us hl => match us, hl with | [_], _ => rfl
  have F3 := fun_mk (st := s_alike) l3 c3 k3
  have b3 := F3.binds (ps := ["one", "other"]) fun _ _ _ _ _ _ us hl => match us, hl with | [_, _], _ => rfl
  have F4 := fun_mk (st := s_refuse_counts_books) l4 c4 k4
  have b4 := F4.binds (ps := ["facts", "tables"]) fun _ _ _ _ _ _ us hl => match us, hl with | [_, _], _ => rfl
  have F5 := fun_mk (st := s_refuse_names_books) l5 c5 k5
  have b5 := F5.binds (ps := ["facts", "tables"]) fun _ _ _ _ _ _ us hl => match us, hl with | [_, _], _ => rfl
  have F6 := fun_mk (st := s_refuse_domains) l6 c6 k6
  have b6 := F6.binds (ps := ["facts", "tables"]) fun _ _ _ _ _ _ us hl => match us, hl with | [_, _], _ => rfl
  have F7 := fun_mk (st := s_refuse_rings) l7 c7 k7
  have b7 := F7.binds (ps := ["tables"]) fun _ _ _ _ _ _ us hl => match us, hl with | [_], _ => rfl
  have F8 := fun_mk (st := s_named_among) l8 c8 k8
  have b8 := F8.binds (ps := ["table", "names"]) fun _ _ _ _ _ _ us hl => match us, hl with | [_, _], _ => rfl
  have F9 := fun_mk (st := s_way_by) l9 c9 k9
  have b9 := F9.binds (ps := ["name"]) fun _ _ _ _ _ _ us hl => match us, hl with | [_], _ => rfl
  have F10 := fun_mk (st := s_refuse_names_tables) l10 c10 k10
  have b10 := F10.binds (ps := ["names"]) fun _ _ _ _ _ _ us hl => match us, hl with | [_], _ => rfl
  have F11 := fun_mk (st := s_refuse_counts_tables) l11 c11 k11
  have b11 := F11.binds (ps := ["names", "rows"]) fun _ _ _ _ _ _ us hl => match us, hl with | [_, _], _ => rfl
  have F12 := fun_mk (st := s_refuse_way) l12 c12 k12
  have b12 := F12.binds (ps := ["way", "outcome"]) fun _ _ _ _ _ _ us hl => match us, hl with | [_, _], _ => rfl
  have F13 := fun_mk (st := s_refuse_row) l13 c13 k13
  have b13 := F13.binds (ps := ["domains", "outcome", "cells", "code"]) fun _ _ _ _ _ _ us hl => match us, hl with | [_, _, _, _], _ => rfl
  have F14 := fun_mk (st := s_own_row) l14 c14 k14
  have b14 := F14.binds (ps := ["cells", "code"]) fun _ _ _ _ _ _ us hl => match us, hl with | [_, _], _ => rfl
  have F15 := fun_mk (st := s_law_at) l15 c15 k15
  have b15 := F15.binds (ps := ["script", "k"]) fun _ _ _ _ _ _ us hl => match us, hl with | [_, _], _ => rfl
  have F16 := fun_mk (st := s_law_folded) l16 c16 k16
  have b16 := F16.binds (ps := ["script", "most"]) fun _ _ _ _ _ _ us hl => match us, hl with | [_, _], _ => rfl
  have F17 := fun_mk (st := s_law_asked) l17 c17 k17
  have b17 := F17.binds (ps := ["number", "k", "most", "mode"]) fun _ _ _ _ _ _ us hl => match us, hl with | [_, _, _, _], _ => rfl
  have F18 := fun_mk (st := s_law_names) l18 c18 k18
  have b18 := F18.binds (ps := ["most"]) fun _ _ _ _ _ _ us hl => match us, hl with | [_], _ => rfl
  have F19 := fun_mk (st := s_law_net_table) l19 c19 k19
  have b19 := F19.binds (ps := ["name", "heads", "mode"]) fun _ _ _ _ _ _ us hl => match us, hl with | [_, _, _], _ => rfl
  have F20 := fun_mk (st := s_law_ring) l20 c20 k20
  have b20 := F20.binds (ps := ["asked"]) fun _ _ _ _ _ _ us hl => match us, hl with | [_], _ => rfl
  have F21 := fun_mk (st := s_Book___init___Book) l21 c21 k21
  have b21 := F21.binds (ps := ["self", "facts", "tables"]) fun _ _ _ _ _ _ us hl => match us, hl with | [_, _, _], _ => rfl
  have F22 := fun_mk (st := s_Numbers___init___Numbers) l22 c22 k22
  have b22 := F22.binds (ps := ["self", "low", "high"]) fun _ _ _ _ _ _ us hl => match us, hl with | [_, _, _], _ => rfl
  have F23 := fun_mk (st := s_Domain___init___Numbers) l23 c23 k23
  have b23 := F23.binds (ps := ["self", "low", "high"]) fun _ _ _ _ _ _ us hl => match us, hl with | [_, _, _], _ => rfl
  have F24 := fun_mk (st := s_Table___init___Table) l24 c24 k24
  have b24 := F24.binds (ps := ["self", "name", "names", "domains", "outcome", "way", "rows"]) fun _ _ _ _ _ _ us hl => match us, hl with | [_, _, _, _, _, _, _], _ => rfl
  have F25 := fun_mk (st := s_First___init___First) l25 c25 k25
  have b25 := F25.binds (ps := ["self"]) fun _ _ _ _ _ _ us hl => match us, hl with | [_], _ => rfl
  have F26 := fun_mk (st := s_Way___init___First) l26 c26 k26
  have b26 := F26.binds (ps := ["self", "called"]) fun _ _ _ _ _ _ us hl => match us, hl with | [_, _], _ => rfl
  have F27 := fun_mk (st := s_Only___init___Only) l27 c27 k27
  have b27 := F27.binds (ps := ["self"]) fun _ _ _ _ _ _ us hl => match us, hl with | [_], _ => rfl
  have F28 := fun_mk (st := s_Way___init___Only) l28 c28 k28
  have b28 := F28.binds (ps := ["self", "called"]) fun _ _ _ _ _ _ us hl => match us, hl with | [_, _], _ => rfl
  have F29 := fun_mk (st := s_Like___init___Like) l29 c29 k29
  have b29 := F29.binds (ps := ["self"]) fun _ _ _ _ _ _ us hl => match us, hl with | [_], _ => rfl
  have F30 := fun_mk (st := s_Way___init___Like) l30 c30 k30
  have b30 := F30.binds (ps := ["self", "called"]) fun _ _ _ _ _ _ us hl => match us, hl with | [_, _], _ => rfl
  have F31 := fun_mk (st := s_Low___init___Low) l31 c31 k31
  have b31 := F31.binds (ps := ["self"]) fun _ _ _ _ _ _ us hl => match us, hl with | [_], _ => rfl
  have F32 := fun_mk (st := s_Way___init___Low) l32 c32 k32
  have b32 := F32.binds (ps := ["self", "called"]) fun _ _ _ _ _ _ us hl => match us, hl with | [_, _], _ => rfl
  have F33 := fun_mk (st := s_High___init___High) l33 c33 k33
  have b33 := F33.binds (ps := ["self"]) fun _ _ _ _ _ _ us hl => match us, hl with | [_], _ => rfl
  have F34 := fun_mk (st := s_Way___init___High) l34 c34 k34
  have b34 := F34.binds (ps := ["self", "called"]) fun _ _ _ _ _ _ us hl => match us, hl with | [_, _], _ => rfl
  have F35 := fun_mk (st := s_Sum___init___Sum) l35 c35 k35
  have b35 := F35.binds (ps := ["self"]) fun _ _ _ _ _ _ us hl => match us, hl with | [_], _ => rfl
  have F36 := fun_mk (st := s_Way___init___Sum) l36 c36 k36
  have b36 := F36.binds (ps := ["self", "called"]) fun _ _ _ _ _ _ us hl => match us, hl with | [_, _], _ => rfl
  have F37 := fun_mk (st := s_Domain_has_code_Numbers) l37 c37 k37
  have b37 := F37.binds (ps := ["self", "value"]) fun _ _ _ _ _ _ us hl => match us, hl with | [_, _], _ => rfl
  have F38 := fun_mk (st := s_Domain_has_code_Words) l38 c38 k38
  have b38 := F38.binds (ps := ["self", "value"]) fun _ _ _ _ _ _ us hl => match us, hl with | [_, _], _ => rfl
  have F39 := fun_mk (st := s_law) l39 c39 k39
  have b39 := F39.binds (ps := ["script"]) fun _ _ _ _ _ _ us hl => match us, hl with | [_], _ => rfl
  have bl : Bl K mg cTableError cUnlike cRing cWay cFirst cOnly cLike cLow cHigh cSum cDomain cNumbers cWords cTable cBook := ⟨PySem.W.mg_of X G n_TableError, n_TableError, PySem.W.mg_of X G n_Unlike, n_Unlike, PySem.W.mg_of X G n_Ring, n_Ring, PySem.W.mg_of X G n_Way, n_Way, PySem.W.mg_of X G n_First, n_First, PySem.W.mg_of X G n_Only, n_Only, PySem.W.mg_of X G n_Like, n_Like, PySem.W.mg_of X G n_Low, n_Low, PySem.W.mg_of X G n_High, n_High, PySem.W.mg_of X G n_Sum, n_Sum, PySem.W.mg_of X G n_Domain, n_Domain, PySem.W.mg_of X G n_Numbers, n_Numbers, PySem.W.mg_of X G n_Words, n_Words, PySem.W.mg_of X G n_Table, n_Table, PySem.W.mg_of X G n_Book, n_Book, ExcCls.value x_Ring, ⟨l0_Ring, l1_Ring, l2_Ring, l3_Ring, l4_Ring, l5_Ring, l6_Ring, l7_Ring⟩, ⟨pg_First, hd_First, po_First, sa_First⟩, ⟨pg_Only, hd_Only, po_Only, sa_Only⟩, ⟨pg_Like, hd_Like, po_Like, sa_Like⟩, ⟨pg_Low, hd_Low, po_Low, sa_Low⟩, ⟨pg_High, hd_High, po_High, sa_High⟩, ⟨pg_Sum, hd_Sum, po_Sum, sa_Sum⟩, ⟨pg_Numbers, hd_Numbers, po_Numbers, sa_Numbers⟩, ⟨pg_Words, hd_Words, po_Words, sa_Words⟩, ⟨pg_Table, hd_Table, po_Table, sa_Table⟩, ⟨pg_Book, hd_Book, po_Book, sa_Book⟩, ⟨⟨pg_First, hd_First, po_First, sa_First⟩, ta_First, tn_First, tt_First, tm_First⟩, ⟨⟨pg_Only, hd_Only, po_Only, sa_Only⟩, ta_Only, tn_Only, tt_Only, tm_Only⟩, ⟨⟨pg_Like, hd_Like, po_Like, sa_Like⟩, ta_Like, tn_Like, tt_Like, tm_Like⟩, ⟨⟨pg_Low, hd_Low, po_Low, sa_Low⟩, ta_Low, tn_Low, tt_Low, tm_Low⟩, ⟨⟨pg_High, hd_High, po_High, sa_High⟩, ta_High, tn_High, tt_High, tm_High⟩, ⟨⟨pg_Sum, hd_Sum, po_Sum, sa_Sum⟩, ta_Sum, tn_Sum, tt_Sum, tm_Sum⟩, ⟨⟨pg_Numbers, hd_Numbers, po_Numbers, sa_Numbers⟩, ta_Numbers, tn_Numbers, tt_Numbers, tm_Numbers⟩, ⟨⟨pg_Words, hd_Words, po_Words, sa_Words⟩, ta_Words, tn_Words, tt_Words, tm_Words⟩, ⟨⟨pg_Table, hd_Table, po_Table, sa_Table⟩, ta_Table, tn_Table, tt_Table, tm_Table⟩, ⟨⟨pg_Book, hd_Book, po_Book, sa_Book⟩, ta_Book, tn_Book, tt_Book, tm_Book⟩, na_First_called, na_Only_called, na_Like_called, na_Low_called, na_High_called, na_Sum_called, na_Numbers_low, na_Numbers_high, na_Numbers_words, na_Words_low, na_Words_high, na_Words_words, na_Table_name, na_Table_names, na_Table_domains, na_Table_outcome, na_Table_way, na_Table_rows, na_Book_facts, na_Book_tables, f_nn, f_wn, f_ww, f_tt, f_nw, e2_Ring, v1_Ring, v2_Ring, v3_Ring, PySem.W.mg_none_of X G z0, PySem.W.mg_none_of X G z1, PySem.W.mg_none_of X G z2, PySem.W.mg_none_of X G z3, PySem.W.mg_none_of X G z4, PySem.W.mg_none_of X G z5, PySem.W.mg_none_of X G z6, PySem.W.mg_none_of X G z7, PySem.W.mg_none_of X G z8, PySem.W.mg_none_of X G z9, ⟨_, PySem.W.mg_of X G y0, x0⟩, ⟨_, PySem.W.mg_of X G y1, x1⟩, ⟨_, PySem.W.mg_of X G y2, x2⟩, ⟨_, PySem.W.mg_of X G y3, x3⟩, ⟨_, PySem.W.mg_of X G y4, x4⟩, ⟨_, PySem.W.mg_of X G y5, x5⟩⟩
  refine ⟨PySem.W.fnOf "law" "law" (defArgs s_law) (defBody s_law) (defScope s_law) .none kV39 dc39 pm39 an39 cd39 ct39, fun s v => .of_eq rfl, fun base _ _ => ?_⟩
  have O0 := ok_all_among (P := l.prog) (w := w) (base := base) F0 bl 
  have C_all_among : Callee l.prog w K mg base 1 "all_among" ["text", "signs"] (sp_all_among K cTableError cUnlike cRing cWay cFirst cOnly cLike cLow cHigh cSum cDomain cNumbers cWords cTable cBook) := ⟨_, _, O0, b0, k0, PySem.W.mg_of X G a0⟩
  have O2 := ok_is_whole (P := l.prog) (w := w) (base := base) F2 bl 
  have C_is_whole : Callee l.prog w K mg base 1 "is_whole" ["value"] (sp_is_whole K cTableError cUnlike cRing cWay cFirst cOnly cLike cLow cHigh cSum cDomain cNumbers cWords cTable cBook) := ⟨_, _, O2, b2, k2, PySem.W.mg_of X G a2⟩
  have O3 := ok_alike (P := l.prog) (w := w) (base := base) F3 bl 
  have C_alike : Callee l.prog w K mg base 1 "alike" ["one", "other"] (sp_alike K cTableError cUnlike cRing cWay cFirst cOnly cLike cLow cHigh cSum cDomain cNumbers cWords cTable cBook) := ⟨_, _, O3, b3, k3, PySem.W.mg_of X G a3⟩
  have O4 := ok_refuse_counts_books (P := l.prog) (w := w) (base := base) F4 bl 
  have C_refuse_counts_books : Callee l.prog w K mg base 1 "refuse_counts_books" ["facts", "tables"] (sp_refuse_counts_books K cTableError cUnlike cRing cWay cFirst cOnly cLike cLow cHigh cSum cDomain cNumbers cWords cTable cBook) := ⟨_, _, O4, b4, k4, PySem.W.mg_of X G a4⟩
  have O8 := ok_named_among (P := l.prog) (w := w) (base := base) F8 bl 
  have C_named_among : Callee l.prog w K mg base 1 "named_among" ["table", "names"] (sp_named_among K cTableError cUnlike cRing cWay cFirst cOnly cLike cLow cHigh cSum cDomain cNumbers cWords cTable cBook) := ⟨_, _, O8, b8, k8, PySem.W.mg_of X G a8⟩
  have O11 := ok_refuse_counts_tables (P := l.prog) (w := w) (base := base) F11 bl 
  have C_refuse_counts_tables : Callee l.prog w K mg base 1 "refuse_counts_tables" ["names", "rows"] (sp_refuse_counts_tables K cTableError cUnlike cRing cWay cFirst cOnly cLike cLow cHigh cSum cDomain cNumbers cWords cTable cBook) := ⟨_, _, O11, b11, k11, PySem.W.mg_of X G a11⟩
  have O14 := ok_own_row (P := l.prog) (w := w) (base := base) F14 bl 
  have C_own_row : Callee l.prog w K mg base 1 "own_row" ["cells", "code"] (sp_own_row K cTableError cUnlike cRing cWay cFirst cOnly cLike cLow cHigh cSum cDomain cNumbers cWords cTable cBook) := ⟨_, _, O14, b14, k14, PySem.W.mg_of X G a14⟩
  have O15 := ok_law_at (P := l.prog) (w := w) (base := base) F15 bl 
  have C_law_at : Callee l.prog w K mg base 1 "_law_at" ["script", "k"] (sp_law_at K cTableError cUnlike cRing cWay cFirst cOnly cLike cLow cHigh cSum cDomain cNumbers cWords cTable cBook) := ⟨_, _, O15, b15, k15, PySem.W.mg_of X G a15⟩
  have O16 := ok_law_folded (P := l.prog) (w := w) (base := base) F16 bl 
  have C_law_folded : Callee l.prog w K mg base 1 "_law_folded" ["script", "most"] (sp_law_folded K cTableError cUnlike cRing cWay cFirst cOnly cLike cLow cHigh cSum cDomain cNumbers cWords cTable cBook) := ⟨_, _, O16, b16, k16, PySem.W.mg_of X G a16⟩
  have O17 := ok_law_asked (P := l.prog) (w := w) (base := base) F17 bl 
  have C_law_asked : Callee l.prog w K mg base 1 "_law_asked" ["number", "k", "most", "mode"] (sp_law_asked K cTableError cUnlike cRing cWay cFirst cOnly cLike cLow cHigh cSum cDomain cNumbers cWords cTable cBook) := ⟨_, _, O17, b17, k17, PySem.W.mg_of X G a17⟩
  have O18 := ok_law_names (P := l.prog) (w := w) (base := base) F18 bl 
  have C_law_names : Callee l.prog w K mg base 1 "_law_names" ["most"] (sp_law_names K cTableError cUnlike cRing cWay cFirst cOnly cLike cLow cHigh cSum cDomain cNumbers cWords cTable cBook) := ⟨_, _, O18, b18, k18, PySem.W.mg_of X G a18⟩
  have O20 := ok_law_ring (P := l.prog) (w := w) (base := base) F20 bl 
  have C_law_ring : Callee l.prog w K mg base 1 "_law_ring" ["asked"] (sp_law_ring K cTableError cUnlike cRing cWay cFirst cOnly cLike cLow cHigh cSum cDomain cNumbers cWords cTable cBook) := ⟨_, _, O20, b20, k20, PySem.W.mg_of X G a20⟩
  have O23 := ok_Domain___init___Numbers (P := l.prog) (w := w) (base := base) F23 bl 
  have B_Domain___init___Numbers : BCallee CX0 l.prog w K mg base 1 "Domain" "__init__" ["self", "low", "high"] (sp_Domain___init___Numbers K cTableError cUnlike cRing cWay cFirst cOnly cLike cLow cHigh cSum cDomain cNumbers cWords cTable cBook) := ⟨_, _, _, ⟨b_s23, b_r23, b_a23, k23⟩, O23, b23, PySem.W.mg_of X G n_Domain⟩
  have O26 := ok_Way___init___First (P := l.prog) (w := w) (base := base) F26 bl 
  have B_Way___init___First : BCallee CX0 l.prog w K mg base 1 "Way" "__init__" ["self", "called"] (sp_Way___init___First K cTableError cUnlike cRing cWay cFirst cOnly cLike cLow cHigh cSum cDomain cNumbers cWords cTable cBook) := ⟨_, _, _, ⟨b_s26, b_r26, b_a26, k26⟩, O26, b26, PySem.W.mg_of X G n_Way⟩
  have O28 := ok_Way___init___Only (P := l.prog) (w := w) (base := base) F28 bl 
  have B_Way___init___Only : BCallee CX0 l.prog w K mg base 1 "Way" "__init__" ["self", "called"] (sp_Way___init___Only K cTableError cUnlike cRing cWay cFirst cOnly cLike cLow cHigh cSum cDomain cNumbers cWords cTable cBook) := ⟨_, _, _, ⟨b_s28, b_r28, b_a28, k28⟩, O28, b28, PySem.W.mg_of X G n_Way⟩
  have O30 := ok_Way___init___Like (P := l.prog) (w := w) (base := base) F30 bl 
  have B_Way___init___Like : BCallee CX0 l.prog w K mg base 1 "Way" "__init__" ["self", "called"] (sp_Way___init___Like K cTableError cUnlike cRing cWay cFirst cOnly cLike cLow cHigh cSum cDomain cNumbers cWords cTable cBook) := ⟨_, _, _, ⟨b_s30, b_r30, b_a30, k30⟩, O30, b30, PySem.W.mg_of X G n_Way⟩
  have O32 := ok_Way___init___Low (P := l.prog) (w := w) (base := base) F32 bl 
  have B_Way___init___Low : BCallee CX0 l.prog w K mg base 1 "Way" "__init__" ["self", "called"] (sp_Way___init___Low K cTableError cUnlike cRing cWay cFirst cOnly cLike cLow cHigh cSum cDomain cNumbers cWords cTable cBook) := ⟨_, _, _, ⟨b_s32, b_r32, b_a32, k32⟩, O32, b32, PySem.W.mg_of X G n_Way⟩
  have O34 := ok_Way___init___High (P := l.prog) (w := w) (base := base) F34 bl 
  have B_Way___init___High : BCallee CX0 l.prog w K mg base 1 "Way" "__init__" ["self", "called"] (sp_Way___init___High K cTableError cUnlike cRing cWay cFirst cOnly cLike cLow cHigh cSum cDomain cNumbers cWords cTable cBook) := ⟨_, _, _, ⟨b_s34, b_r34, b_a34, k34⟩, O34, b34, PySem.W.mg_of X G n_Way⟩
  have O36 := ok_Way___init___Sum (P := l.prog) (w := w) (base := base) F36 bl 
  have B_Way___init___Sum : BCallee CX0 l.prog w K mg base 1 "Way" "__init__" ["self", "called"] (sp_Way___init___Sum K cTableError cUnlike cRing cWay cFirst cOnly cLike cLow cHigh cSum cDomain cNumbers cWords cTable cBook) := ⟨_, _, _, ⟨b_s36, b_r36, b_a36, k36⟩, O36, b36, PySem.W.mg_of X G n_Way⟩
  have O1 := ok_is_word (P := l.prog) (w := w) (base := base) F1 bl (C_all_among.mono (by decide))
  have C_is_word : Callee l.prog w K mg base 2 "is_word" ["text"] (sp_is_word K cTableError cUnlike cRing cWay cFirst cOnly cLike cLow cHigh cSum cDomain cNumbers cWords cTable cBook) := ⟨_, _, O1, b1, k1, PySem.W.mg_of X G a1⟩
  have O6 := ok_refuse_domains (P := l.prog) (w := w) (base := base) F6 bl (C_alike.mono (by decide))
  have C_refuse_domains : Callee l.prog w K mg base 2 "refuse_domains" ["facts", "tables"] (sp_refuse_domains K cTableError cUnlike cRing cWay cFirst cOnly cLike cLow cHigh cSum cDomain cNumbers cWords cTable cBook) := ⟨_, _, O6, b6, k6, PySem.W.mg_of X G a6⟩
  have O7 := ok_refuse_rings (P := l.prog) (w := w) (base := base) F7 bl (C_named_among.mono (by decide))
  have C_refuse_rings : CalleeX l.prog w K mg base 2 "refuse_rings" ["tables"] (sp_refuse_rings K cTableError cUnlike cRing cWay cFirst cOnly cLike cLow cHigh cSum cDomain cNumbers cWords cTable cBook) := ⟨_, _, O7, b7, k7, PySem.W.mg_of X G a7⟩
  have O22 := ok_Numbers___init___Numbers (P := l.prog) (w := w) (base := base) F22 bl (B_Domain___init___Numbers.mono (by decide))
  have K_Numbers___init___Numbers : MkCallee CX0 l.prog w K mg base 2 "Numbers" cNumbers ["self", "low", "high"] (sp_Numbers___init___Numbers K cTableError cUnlike cRing cWay cFirst cOnly cLike cLow cHigh cSum cDomain cNumbers cWords cTable cBook) := ⟨_, _, ⟨im22, i22, if22, ik22⟩, O22, b22, PySem.W.mg_of X G n_Numbers⟩
  have O25 := ok_First___init___First (P := l.prog) (w := w) (base := base) F25 bl (B_Way___init___First.mono (by decide))
  have K_First___init___First : MkCallee CX0 l.prog w K mg base 2 "First" cFirst ["self"] (sp_First___init___First K cTableError cUnlike cRing cWay cFirst cOnly cLike cLow cHigh cSum cDomain cNumbers cWords cTable cBook) := ⟨_, _, ⟨im25, i25, if25, ik25⟩, O25, b25, PySem.W.mg_of X G n_First⟩
  have O27 := ok_Only___init___Only (P := l.prog) (w := w) (base := base) F27 bl (B_Way___init___Only.mono (by decide))
  have K_Only___init___Only : MkCallee CX0 l.prog w K mg base 2 "Only" cOnly ["self"] (sp_Only___init___Only K cTableError cUnlike cRing cWay cFirst cOnly cLike cLow cHigh cSum cDomain cNumbers cWords cTable cBook) := ⟨_, _, ⟨im27, i27, if27, ik27⟩, O27, b27, PySem.W.mg_of X G n_Only⟩
  have O29 := ok_Like___init___Like (P := l.prog) (w := w) (base := base) F29 bl (B_Way___init___Like.mono (by decide))
  have K_Like___init___Like : MkCallee CX0 l.prog w K mg base 2 "Like" cLike ["self"] (sp_Like___init___Like K cTableError cUnlike cRing cWay cFirst cOnly cLike cLow cHigh cSum cDomain cNumbers cWords cTable cBook) := ⟨_, _, ⟨im29, i29, if29, ik29⟩, O29, b29, PySem.W.mg_of X G n_Like⟩
  have O31 := ok_Low___init___Low (P := l.prog) (w := w) (base := base) F31 bl (B_Way___init___Low.mono (by decide))
  have K_Low___init___Low : MkCallee CX0 l.prog w K mg base 2 "Low" cLow ["self"] (sp_Low___init___Low K cTableError cUnlike cRing cWay cFirst cOnly cLike cLow cHigh cSum cDomain cNumbers cWords cTable cBook) := ⟨_, _, ⟨im31, i31, if31, ik31⟩, O31, b31, PySem.W.mg_of X G n_Low⟩
  have O33 := ok_High___init___High (P := l.prog) (w := w) (base := base) F33 bl (B_Way___init___High.mono (by decide))
  have K_High___init___High : MkCallee CX0 l.prog w K mg base 2 "High" cHigh ["self"] (sp_High___init___High K cTableError cUnlike cRing cWay cFirst cOnly cLike cLow cHigh cSum cDomain cNumbers cWords cTable cBook) := ⟨_, _, ⟨im33, i33, if33, ik33⟩, O33, b33, PySem.W.mg_of X G n_High⟩
  have O35 := ok_Sum___init___Sum (P := l.prog) (w := w) (base := base) F35 bl (B_Way___init___Sum.mono (by decide))
  have K_Sum___init___Sum : MkCallee CX0 l.prog w K mg base 2 "Sum" cSum ["self"] (sp_Sum___init___Sum K cTableError cUnlike cRing cWay cFirst cOnly cLike cLow cHigh cSum cDomain cNumbers cWords cTable cBook) := ⟨_, _, ⟨im35, i35, if35, ik35⟩, O35, b35, PySem.W.mg_of X G n_Sum⟩
  have O37 := ok_Domain_has_code_Numbers (P := l.prog) (w := w) (base := base) F37 bl (C_is_whole.mono (by decide))
  have M_Domain_has_code_Numbers : MCallee CX0 l.prog w K mg base 2 cNumbers "has_code" ["self", "value"] (sp_Domain_has_code_Numbers K cTableError cUnlike cRing cWay cFirst cOnly cLike cLow cHigh cSum cDomain cNumbers cWords cTable cBook) := ⟨_, _, ⟨m37, mf37, k37⟩, O37, b37⟩
  have O38 := ok_Domain_has_code_Words (P := l.prog) (w := w) (base := base) F38 bl (C_is_whole.mono (by decide))
  have M_Domain_has_code_Words : MCallee CX0 l.prog w K mg base 2 cWords "has_code" ["self", "value"] (sp_Domain_has_code_Words K cTableError cUnlike cRing cWay cFirst cOnly cLike cLow cHigh cSum cDomain cNumbers cWords cTable cBook) := ⟨_, _, ⟨m38, mf38, k38⟩, O38, b38⟩
  have O5 := ok_refuse_names_books (P := l.prog) (w := w) (base := base) F5 bl (C_is_word.mono (by decide))
  have C_refuse_names_books : Callee l.prog w K mg base 3 "refuse_names_books" ["facts", "tables"] (sp_refuse_names_books K cTableError cUnlike cRing cWay cFirst cOnly cLike cLow cHigh cSum cDomain cNumbers cWords cTable cBook) := ⟨_, _, O5, b5, k5, PySem.W.mg_of X G a5⟩
  have O10 := ok_refuse_names_tables (P := l.prog) (w := w) (base := base) F10 bl (C_is_word.mono (by decide))
  have C_refuse_names_tables : Callee l.prog w K mg base 3 "refuse_names_tables" ["names"] (sp_refuse_names_tables K cTableError cUnlike cRing cWay cFirst cOnly cLike cLow cHigh cSum cDomain cNumbers cWords cTable cBook) := ⟨_, _, O10, b10, k10, PySem.W.mg_of X G a10⟩
  have O13 := ok_refuse_row (P := l.prog) (w := w) (base := base) F13 bl (M_Domain_has_code_Numbers.mono (by decide)) (M_Domain_has_code_Words.mono (by decide))
  have C_refuse_row : Callee l.prog w K mg base 3 "refuse_row" ["domains", "outcome", "cells", "code"] (sp_refuse_row K cTableError cUnlike cRing cWay cFirst cOnly cLike cLow cHigh cSum cDomain cNumbers cWords cTable cBook) := ⟨_, _, O13, b13, k13, PySem.W.mg_of X G a13⟩
  have O9 := ok_way_by (P := l.prog) (w := w) (base := base) F9 bl (K_First___init___First.mono (by decide)) (K_Only___init___Only.mono (by decide)) (K_Like___init___Like.mono (by decide)) (K_Low___init___Low.mono (by decide)) (K_High___init___High.mono (by decide)) (K_Sum___init___Sum.mono (by decide))
  have C_way_by : Callee l.prog w K mg base 4 "way_by" ["name"] (sp_way_by K cTableError cUnlike cRing cWay cFirst cOnly cLike cLow cHigh cSum cDomain cNumbers cWords cTable cBook) := ⟨_, _, O9, b9, k9, PySem.W.mg_of X G a9⟩
  have O21 := ok_Book___init___Book (P := l.prog) (w := w) (base := base) F21 bl (C_refuse_counts_books.mono (by decide)) (C_refuse_names_books.mono (by decide)) (C_refuse_domains.mono (by decide)) (C_refuse_rings.mono (by decide))
  have K_Book___init___Book : MkCallee (CX1 l.prog w) l.prog w K mg base 4 "Book" cBook ["self", "facts", "tables"] (sp_Book___init___Book K cTableError cUnlike cRing cWay cFirst cOnly cLike cLow cHigh cSum cDomain cNumbers cWords cTable cBook) := ⟨_, _, ⟨im21, i21, if21, ik21⟩, O21, b21, PySem.W.mg_of X G n_Book⟩
  have O12 := ok_refuse_way (P := l.prog) (w := w) (base := base) F12 bl (C_way_by.mono (by decide))
  have C_refuse_way : Callee l.prog w K mg base 5 "refuse_way" ["way", "outcome"] (sp_refuse_way K cTableError cUnlike cRing cWay cFirst cOnly cLike cLow cHigh cSum cDomain cNumbers cWords cTable cBook) := ⟨_, _, O12, b12, k12, PySem.W.mg_of X G a12⟩
  have O24 := ok_Table___init___Table (P := l.prog) (w := w) (base := base) F24 bl (C_refuse_names_tables.mono (by decide)) (C_refuse_counts_tables.mono (by decide)) (C_refuse_way.mono (by decide)) (C_refuse_row.mono (by decide)) (C_own_row.mono (by decide))
  have K_Table___init___Table : MkCallee CX0 l.prog w K mg base 6 "Table" cTable ["self", "name", "names", "domains", "outcome", "way", "rows"] (sp_Table___init___Table K cTableError cUnlike cRing cWay cFirst cOnly cLike cLow cHigh cSum cDomain cNumbers cWords cTable cBook) := ⟨_, _, ⟨im24, i24, if24, ik24⟩, O24, b24, PySem.W.mg_of X G n_Table⟩
  have O19 := ok_law_net_table (P := l.prog) (w := w) (base := base) F19 bl (K_Numbers___init___Numbers.mono (by decide)) (K_Table___init___Table.mono (by decide))
  have C_law_net_table : Callee l.prog w K mg base 8 "_law_net_table" ["name", "heads", "mode"] (sp_law_net_table K cTableError cUnlike cRing cWay cFirst cOnly cLike cLow cHigh cSum cDomain cNumbers cWords cTable cBook) := ⟨_, _, O19, b19, k19, PySem.W.mg_of X G a19⟩
  exact ok_law F39 bl (C_law_folded.mono (by decide)) (C_law_names.mono (by decide)) (C_law_ring.mono (by decide)) (C_law_asked.mono (by decide)) (K_Book___init___Book.mono (by decide)) (C_law_at.mono (by decide)) (C_law_net_table.mono (by decide)) (K_Numbers___init___Numbers.mono (by decide))
theorem walk {l : PySem.W.OpenLaw} {q : Program} {loose : List Str} {XP : (Str → Option Value) → Heap → Prop} {YP : World → Heap → Prop} {d : DefRec} {K : Params → PySem.W.Frag} (hn : l.most = some 63) (hdf : d.params.defaults = [])
    (hY : ∀ (w : World) (h : Heap), YP w h → (K w.params).In h)
    (F : ∀ (w : World) (mg : Str → Option Value) (fa : Addr) (h : Heap), (K w.params).In h → h.Ns mainGlobals mg → mg d.name = some (.ref fa) →
      ∃ fd : FuncData, (∀ (s : Shared) (u : Value), BindsTo s fd ⟨[u], []⟩ [("script", u)]) ∧ ∀ base : Heap, (K w.params).In base → base.Ns mainGlobals mg → FnOk l.prog w (K w.params) mg base CX0 9 fa fd ["script"] (sp_law (K w.params))) :
    PySem.W.WalkO q loose XP YP l.row.toRowW d [] (fun f vs => PySem.call f vs) :=
  L2.walk_of (n := 63) (k := 9) (x := "script") (CX := fun _ => CX0) (sp := fun w => sp_law (K w.params)) hn (by decide) hdf ⟨rfl, by decide, by decide⟩ hY F (fun _ _ a ns hl _ hS => ⟨a, ns, rfl, hS, hl, fun _ => rfl⟩) fun _ _ _ _ _ z => z
end My
def PySem.W.Fast.tw18382497724143643618 : Unit := ()
def PySem.W.Fast.tw2442181326212588191 : Unit := ()
def PySem.W.Fast.tw17351467475986872934 : Unit := ()
def PySem.W.Fast.tw289116376972594543 : Unit := ()
def PySem.W.Fast.tw17085776803335129617 : Unit := ()
def PySem.W.Fast.tw1554586620892058076 : Unit := ()
def PySem.W.Fast.tw5473554256696786762 : Unit := ()
def PySem.W.Fast.tw15466378044627775605 : Unit := ()
def PySem.W.Fast.tw5756547463743279085 : Unit := ()
def PySem.W.Fast.tw16885841667936903926 : Unit := ()
def PySem.W.Fast.tw9798770379013146671 : Unit := ()
def PySem.W.Fast.tw16435625385380712713 : Unit := ()
def PySem.W.Fast.tw15980084666865738663 : Unit := ()
def PySem.W.Fast.tw7685535210668376157 : Unit := ()
def PySem.W.Fast.tw13802531573076764742 : Unit := ()
def PySem.W.Fast.tw5188946398796781115 : Unit := ()
def PySem.W.Fast.tw8149568032212742411 : Unit := ()
def PySem.W.Fast.tw2982326734776314160 : Unit := ()
def PySem.W.Fast.tw951292115899411048 : Unit := ()
def PySem.W.Fast.tw13160839858568766813 : Unit := ()
def PySem.W.Fast.tw17597644232109499613 : Unit := ()
def PySem.W.Fast.tw13990110549024538707 : Unit := ()
def PySem.W.Fast.tw2828800993488380870 : Unit := ()
def PySem.W.Fast.tw1262480415940841253 : Unit := ()
def PySem.W.Fast.tw16795626622472124288 : Unit := ()
def PySem.W.Fast.tw15193796079997138741 : Unit := ()
def PySem.W.Fast.tw13767577342587587476 : Unit := ()
def PySem.W.Fast.tw13228300245134802135 : Unit := ()
def PySem.W.Fast.tw9761780626305495120 : Unit := ()
def PySem.W.Fast.tw9504057153404892499 : Unit := ()
def PySem.W.Fast.tw1927173997280366466 : Unit := ()
def PySem.W.Fast.tw2313395657687322905 : Unit := ()
def PySem.W.Fast.tw15129094190106349693 : Unit := ()
def PySem.W.Fast.tw6358849780351799270 : Unit := ()
def PySem.W.Fast.tw11168195118801144069 : Unit := ()
def PySem.W.Fast.tw6773964103345449064 : Unit := ()
def PySem.W.Fast.tw365356563593499157 : Unit := ()
def PySem.W.Fast.tw16141247745629154026 : Unit := ()
def PySem.W.Fast.tw6437465846624452581 : Unit := ()
def PySem.W.Fast.tw16823873546712315664 : Unit := ()
def PySem.W.Fast.tw18138510817821486714 : Unit := ()
def PySem.W.Fast.tw4327852042979619875 : Unit := ()
def PySem.W.Fast.tw6649317183562722508 : Unit := ()
def PySem.W.Fast.tw3615109415381216323 : Unit := ()
def PySem.W.Fast.tw5449117983395865418 : Unit := ()
def PySem.W.Fast.tw1850999565559053310 : Unit := ()
def PySem.W.Fast.tw4125421138487262755 : Unit := ()
def PySem.W.Fast.tw2684840520217839492 : Unit := ()
def PySem.W.Fast.tw12608564200790077118 : Unit := ()
def PySem.W.Fast.tw1789703912263942513 : Unit := ()
def PySem.W.Fast.tw10440874995393076909 : Unit := ()
def PySem.W.Fast.tw5968028360027115134 : Unit := ()
def PySem.W.Fast.tw17873793590426056429 : Unit := ()
def PySem.W.Fast.tw14830619789761601270 : Unit := ()
def PySem.W.Fast.tw18039138324186983263 : Unit := ()
def PySem.W.Fast.tw13284509633637844562 : Unit := ()
def PySem.W.Fast.tw7910136599064922991 : Unit := ()
def PySem.W.Fast.tw972945884394357540 : Unit := ()
def PySem.W.Fast.tw7929652112029354909 : Unit := ()
def PySem.W.Fast.tw16643800250797936885 : Unit := ()
def PySem.W.Fast.tw12483283102702745488 : Unit := ()
def PySem.W.Fast.tw1135715393529309684 : Unit := ()
def PySem.W.Fast.tw11526177052021580232 : Unit := ()
def PySem.W.Fast.tw7241220996265265749 : Unit := ()
def PySem.W.Fast.tw9447175451742013912 : Unit := ()
def PySem.W.Fast.tw7703295518216254551 : Unit := ()
def PySem.W.Fast.tw15273980604019293391 : Unit := ()
def PySem.W.Fast.tw16050937090535323685 : Unit := ()
def PySem.W.Fast.tw14373952658676539386 : Unit := ()
def PySem.W.Fast.tw688987097656455800 : Unit := ()
def PySem.W.Fast.tw8330041720722167763 : Unit := ()
def PySem.W.Fast.tw1298597000245391152 : Unit := ()
def PySem.W.Fast.tw8964685549746742703 : Unit := ()
def PySem.W.Fast.tw12657344600726074763 : Unit := ()
def PySem.W.Fast.tw6290755730610692875 : Unit := ()
def PySem.W.Fast.tw9549354666089679434 : Unit := ()
def PySem.W.Fast.tw315083507129460347 : Unit := ()
def PySem.W.Fast.tw18313795663996315513 : Unit := ()
def PySem.W.Fast.tw10304578464687371303 : Unit := ()
def PySem.W.Fast.tw1277968384673470321 : Unit := ()
def PySem.W.Fast.tw17203261098957843582 : Unit := ()
def PySem.W.Fast.tw4671180000796642313 : Unit := ()
def PySem.W.Fast.tw6032283160076997106 : Unit := ()
def PySem.W.Fast.tw15829922303937436297 : Unit := ()
def PySem.W.Fast.tw5120124108724531070 : Unit := ()
def PySem.W.Fast.tw9015482281480082400 : Unit := ()
def PySem.W.Fast.tw15776809260050926670 : Unit := ()
def PySem.W.Fast.tw4167591519941799020 : Unit := ()
def PySem.W.Fast.tw3529291962878013979 : Unit := ()
def PySem.W.Fast.tw13326538878079776970 : Unit := ()
def PySem.W.Fast.tw17365223054353921333 : Unit := ()
def PySem.W.Fast.tw2669050428631720830 : Unit := ()
def PySem.W.Fast.tw9241622635275821752 : Unit := ()
def PySem.W.Fast.tw14698268556557747640 : Unit := ()
def PySem.W.Fast.tw9720229823126857874 : Unit := ()
def PySem.W.Fast.tw8863081287878214773 : Unit := ()
def PySem.W.Fast.tw16780115060528920996 : Unit := ()
def PySem.W.Fast.tw8241166300137318865 : Unit := ()
def PySem.W.Fast.tw16450792890894346087 : Unit := ()
def PySem.W.Fast.tw13505196181881422259 : Unit := ()
def PySem.W.Fast.tw3458358260688446105 : Unit := ()
def PySem.W.Fast.tw11726790363711224812 : Unit := ()
def PySem.W.Fast.tw2814975532082920858 : Unit := ()
def PySem.W.Fast.tw7596109119976052232 : Unit := ()
def PySem.W.Fast.tw2983441276878040249 : Unit := ()
def PySem.W.Fast.tw14556090318624043738 : Unit := ()
def PySem.W.Fast.tw16690239085371562596 : Unit := ()
def PySem.W.Fast.tw14526264169463361816 : Unit := ()
def PySem.W.Fast.tw8219366612704268306 : Unit := ()
def PySem.W.Fast.tw17570660546690790978 : Unit := ()
def PySem.W.Fast.tw8404605782066002836 : Unit := ()
def PySem.W.Fast.tw11202382381953086534 : Unit := ()
def PySem.W.Fast.tw2862066600811604118 : Unit := ()
def PySem.W.Fast.tw13262716618432224371 : Unit := ()
def PySem.W.Fast.tw15308663835852251674 : Unit := ()
def PySem.W.Fast.tw5689115272473173517 : Unit := ()
def PySem.W.Fast.tw13730998488524426297 : Unit := ()
def PySem.W.Fast.tw6891231379153826086 : Unit := ()
def PySem.W.Fast.tw6929352826278032068 : Unit := ()
def PySem.W.Fast.tw8723195432178207756 : Unit := ()
def PySem.W.Fast.tw7575109490572306988 : Unit := ()
def PySem.W.Fast.tw7745266994594043225 : Unit := ()
def PySem.W.Fast.tw15930786997855675835 : Unit := ()
def PySem.W.Fast.tw13406703049836620644 : Unit := ()
def PySem.W.Fast.tw11774678372604593969 : Unit := ()
def PySem.W.Fast.tw576036977068536262 : Unit := ()
def PySem.W.Fast.tw11033595637121353660 : Unit := ()
def PySem.W.Fast.tw5890450796473463046 : Unit := ()
def PySem.W.Fast.tw11751307331452196170 : Unit := ()
def PySem.W.Fast.tw1032694317232486120 : Unit := ()
def PySem.W.Fast.tw12141351162490216158 : Unit := ()
def PySem.W.Fast.tw6472837351825484626 : Unit := ()
def PySem.W.Fast.tw14823740521411510915 : Unit := ()
def PySem.W.Fast.tw4693905210816174717 : Unit := ()
def PySem.W.Fast.tw16623040351662395055 : Unit := ()
def PySem.W.Fast.tw10654637898363138790 : Unit := ()
def PySem.W.Fast.tw15965819943018439588 : Unit := ()
def PySem.W.Fast.tw11448519353561179372 : Unit := ()
def PySem.W.Fast.tw2454553076494110430 : Unit := ()
def PySem.W.Fast.tw4693692303026015500 : Unit := ()
def PySem.W.Fast.tw10505586607234656011 : Unit := ()
def PySem.W.Fast.tw6983898477627487944 : Unit := ()
def PySem.W.Fast.tw18093097042845084328 : Unit := ()
def PySem.W.Fast.tw8284715268217757036 : Unit := ()
def PySem.W.Fast.tw1801351464992393349 : Unit := ()
def PySem.W.Fast.tw5197139190993802852 : Unit := ()
def PySem.W.Fast.tw7594488058069696068 : Unit := ()
def PySem.W.Fast.tw1939537178902158427 : Unit := ()
def PySem.W.Fast.tw10184555425867135234 : Unit := ()
def PySem.W.Fast.tw14860024524717978444 : Unit := ()
def PySem.W.Fast.tw10051641286603291998 : Unit := ()
def PySem.W.Fast.tw9844292476443544224 : Unit := ()
def PySem.W.Fast.tw10275001453456814985 : Unit := ()
def PySem.W.Fast.tw6513743711154921347 : Unit := ()
def PySem.W.Fast.tw2994663265853997194 : Unit := ()
def PySem.W.Fast.tw14949123698837871910 : Unit := ()
def PySem.W.Fast.tw6195711331541830367 : Unit := ()
def PySem.W.Fast.tw17122973093218506904 : Unit := ()
def PySem.W.Fast.tw5500974239198001257 : Unit := ()
def PySem.W.Fast.tw11760969423071245785 : Unit := ()
def PySem.W.Fast.tw10470776885291103740 : Unit := ()
def PySem.W.Fast.tw5538518542322417764 : Unit := ()
def PySem.W.Fast.tw18437065168541742100 : Unit := ()
def PySem.W.Fast.tw4077254964446989462 : Unit := ()
def PySem.W.Fast.tw11093092936507842011 : Unit := ()
def PySem.W.Fast.tw5800631884898348039 : Unit := ()
def PySem.W.Fast.tw2219362192413180006 : Unit := ()
def PySem.W.Fast.tw1040630370876084730 : Unit := ()
def PySem.W.Fast.tw14581022758706845572 : Unit := ()
def PySem.W.Fast.tw8598043642298500606 : Unit := ()
def PySem.W.Fast.tw9249209976762722095 : Unit := ()
def PySem.W.Fast.tw7975598879357825637 : Unit := ()
def PySem.W.Fast.tw6816222210529123803 : Unit := ()
def PySem.W.Fast.tw13441432674570337343 : Unit := ()
def PySem.W.Fast.tw15943943028295777757 : Unit := ()
def PySem.W.Fast.tw14862747613101648555 : Unit := ()
def PySem.W.Fast.tw3556151048381122451 : Unit := ()
def PySem.W.Fast.tw12418958418951800978 : Unit := ()
def PySem.W.Fast.tw16719225780287439353 : Unit := ()
def PySem.W.Fast.tw10878040126953996334 : Unit := ()
def PySem.W.Fast.tw276344927444084388 : Unit := ()
def PySem.W.Fast.tw10911159541745058100 : Unit := ()
def PySem.W.Fast.tw4167027568370325555 : Unit := ()
def PySem.W.Fast.tw9885295325307332409 : Unit := ()
def PySem.W.Fast.tw9769916924017976588 : Unit := ()
def PySem.W.Fast.tw18138068377528341465 : Unit := ()
def PySem.W.Fast.tw14158977753202950789 : Unit := ()
def PySem.W.Fast.tw6156738257022457431 : Unit := ()
def PySem.W.Fast.tw8423318111854767346 : Unit := ()
def PySem.W.Fast.tw12863404016021551958 : Unit := ()
def PySem.W.Fast.tw17988187985131830891 : Unit := ()
def PySem.W.Fast.tw18330185978030149549 : Unit := ()
def PySem.W.Fast.tw14667708628502699235 : Unit := ()
def PySem.W.Fast.tw15295930393556152037 : Unit := ()
def PySem.W.Fast.tw6328013024110271182 : Unit := ()
def PySem.W.Fast.tw13303974908521577552 : Unit := ()
def PySem.W.Fast.tw5689622048615006339 : Unit := ()
def PySem.W.Fast.tw11116463663043259528 : Unit := ()
def PySem.W.Fast.tw3709942360691682772 : Unit := ()
def PySem.W.Fast.tw2072223520499571217 : Unit := ()
def PySem.W.Fast.tw217345916611695842 : Unit := ()
def PySem.W.Fast.tw4200875315359070427 : Unit := ()
def PySem.W.Fast.tw16486927351142852011 : Unit := ()
def PySem.W.Fast.tw13251592219490150361 : Unit := ()
def PySem.W.Fast.tw7070691966720531238 : Unit := ()
def PySem.W.Fast.tw15119030500087802458 : Unit := ()
def PySem.W.Fast.tw8359706277922118858 : Unit := ()
def PySem.W.Fast.tw11120318928737420385 : Unit := ()
def PySem.W.Fast.tw10120342116858032278 : Unit := ()
def PySem.W.Fast.tw17281411100932481519 : Unit := ()
def PySem.W.Fast.tw15994822129343664910 : Unit := ()
def PySem.W.Fast.tw1140936198175083646 : Unit := ()
def PySem.W.Fast.tw8326482148433091042 : Unit := ()
def PySem.W.Fast.tw5340501091048695661 : Unit := ()
def PySem.W.Fast.tw8704308601023491593 : Unit := ()
def PySem.W.Fast.tw17177530995344692391 : Unit := ()
def PySem.W.Fast.tw1633093089588324555 : Unit := ()
def PySem.W.Fast.tw9300500429279047154 : Unit := ()
def PySem.W.Fast.tw18260496158403910493 : Unit := ()
def PySem.W.Fast.tw17534161633187439576 : Unit := ()
def PySem.W.Fast.tw16392337440738935568 : Unit := ()
def PySem.W.Fast.tw5870632175044888340 : Unit := ()
def PySem.W.Fast.tw12021120418683498678 : Unit := ()
def PySem.W.Fast.tw8756716105908996347 : Unit := ()
def PySem.W.Fast.tw12175935287600331926 : Unit := ()
def PySem.W.Fast.tw13681098813868843675 : Unit := ()
def PySem.W.Fast.tw17201749035581915147 : Unit := ()
def PySem.W.Fast.tw8402728383852227092 : Unit := ()
def PySem.W.Fast.tw13656475769331447102 : Unit := ()
def PySem.W.Fast.tw2954037912302133574 : Unit := ()
def PySem.W.Fast.tw1058907328629155541 : Unit := ()
def PySem.W.Fast.tw11719222228983850989 : Unit := ()
def PySem.W.Fast.tw5550746716591255861 : Unit := ()
def PySem.W.Fast.tw17765465768246510716 : Unit := ()
def PySem.W.Fast.tw4231802250763653473 : Unit := ()
def PySem.W.Fast.tw15226865113114976646 : Unit := ()
def PySem.W.Fast.tw642342148952888442 : Unit := ()
def PySem.W.Fast.tw15981132545647224347 : Unit := ()
def PySem.W.Fast.tw1150158125070437073 : Unit := ()
def PySem.W.Fast.tw7510943178641249916 : Unit := ()
def PySem.W.Fast.tw5357379904515016954 : Unit := ()
def PySem.W.Fast.tw11992019167561442839 : Unit := ()
def PySem.W.Fast.tw14204782185954083754 : Unit := ()
def PySem.W.Fast.tw11431372770393856959 : Unit := ()
def PySem.W.Fast.tw13798508449273220217 : Unit := ()
def PySem.W.Fast.tw9355693392091281402 : Unit := ()
def PySem.W.Fast.tw1105962446850380217 : Unit := ()
def PySem.W.Fast.tw15762105251102793932 : Unit := ()
def PySem.W.Fast.tw8678522455183340539 : Unit := ()
def PySem.W.Fast.tw13121014391115917585 : Unit := ()
def PySem.W.Fast.tw12770092702230048210 : Unit := ()
def PySem.W.Fast.tw308379137567083461 : Unit := ()
def PySem.W.Fast.tw1092854878600366457 : Unit := ()
def PySem.W.Fast.tw17353873841709943391 : Unit := ()
def PySem.W.Fast.tw13297467227062315429 : Unit := ()
def PySem.W.Fast.tw12350964895207976899 : Unit := ()
def PySem.W.Fast.tw6422874436078302243 : Unit := ()
def PySem.W.Fast.tw271986400355903137 : Unit := ()
def PySem.W.Fast.tw87525775042539867 : Unit := ()
def PySem.W.Fast.tw590408711735625981 : Unit := ()
def PySem.W.Fast.tw9879022551139028091 : Unit := ()
def PySem.W.Fast.tw17964286953998701185 : Unit := ()
def PySem.W.Fast.tw14064610726185189635 : Unit := ()
def PySem.W.Fast.tw16654007765631035576 : Unit := ()
def PySem.W.Fast.tw18439394157161788050 : Unit := ()
def PySem.W.Fast.tw15213679428540374321 : Unit := ()
def PySem.W.Fast.tw17933193509156770187 : Unit := ()
def PySem.W.Fast.tw10320862579244355735 : Unit := ()
def PySem.W.Fast.tw2211579088132521056 : Unit := ()
def PySem.W.Fast.tw17552998484690511034 : Unit := ()
def PySem.W.Fast.tw12140533817080299212 : Unit := ()
def PySem.W.Fast.tw1956758278654094051 : Unit := ()
def PySem.W.Fast.tw10283143895171962151 : Unit := ()
def PySem.W.Fast.tw14786216170823504236 : Unit := ()
def PySem.W.Fast.tw7674439189821961437 : Unit := ()
def PySem.W.Fast.tw10620803388654804823 : Unit := ()
def PySem.W.Fast.tw12980675168909882314 : Unit := ()
def PySem.W.Fast.tw1876257340193243902 : Unit := ()
def PySem.W.Fast.tw16360050816515988558 : Unit := ()
def PySem.W.Fast.tw11774650955292349129 : Unit := ()
def PySem.W.Fast.tw9440186747840393915 : Unit := ()
def PySem.W.Fast.tw2472152366535822822 : Unit := ()
def PySem.W.Fast.tw7891367527277725650 : Unit := ()
def PySem.W.Fast.tw6479330091656462429 : Unit := ()
def PySem.W.Fast.tw7852689146788200691 : Unit := ()
def PySem.W.Fast.tw9401337371603612723 : Unit := ()
def PySem.W.Fast.tw11844904477116747845 : Unit := ()
def PySem.W.Fast.tw15097258513518547281 : Unit := ()
def PySem.W.Fast.tw106638517467500664 : Unit := ()
def PySem.W.Fast.tw9420571985488167246 : Unit := ()
def PySem.W.Fast.tw18426640692555715654 : Unit := ()
def PySem.W.Fast.tw1748157620768511246 : Unit := ()
def PySem.W.Fast.tw10094234808975684797 : Unit := ()
def PySem.W.Fast.tw8453498922575181675 : Unit := ()
def PySem.W.Fast.tw17809814017609470156 : Unit := ()
def PySem.W.Fast.tw8120354908119805686 : Unit := ()
def PySem.W.Fast.tw16351950274306774906 : Unit := ()
def PySem.W.Fast.tw17638873241787135409 : Unit := ()
def PySem.W.Fast.tw3319446074111380475 : Unit := ()
def PySem.W.Fast.tw16626424511714740035 : Unit := ()
def PySem.W.Fast.tw7247929187748688728 : Unit := ()
def PySem.W.Fast.tw12596832156040087067 : Unit := ()
def PySem.W.Fast.tw7037336527340703183 : Unit := ()
def PySem.W.Fast.tw1814923997764909706 : Unit := ()
def PySem.W.Fast.tw8536157696512142339 : Unit := ()
def PySem.W.Fast.tw3052406874267441032 : Unit := ()
def PySem.W.Fast.tw5121127775201334989 : Unit := ()
def PySem.W.Fast.tw3097556628500485418 : Unit := ()
def PySem.W.Fast.tw13042894945801658944 : Unit := ()
def PySem.W.Fast.tw14439455875852186203 : Unit := ()
def PySem.W.Fast.tw8393147238137531004 : Unit := ()
def PySem.W.Fast.tw7728695119031050839 : Unit := ()
def PySem.W.Fast.tw14612066112366969364 : Unit := ()
def PySem.W.Fast.tw9328292283878628009 : Unit := ()
def PySem.W.Fast.tw17889611971146245666 : Unit := ()
def PySem.W.Fast.tw7093662796477212950 : Unit := ()
def PySem.W.Fast.tw11234688945916570413 : Unit := ()
def PySem.W.Fast.tw1380168598959861272 : Unit := ()
def PySem.W.Fast.tw14375628531749986619 : Unit := ()
def PySem.W.Fast.tw2712600880662893056 : Unit := ()
def PySem.W.Fast.tw6300926882011042822 : Unit := ()
def PySem.W.Fast.tw11462418081260204489 : Unit := ()
def PySem.W.Fast.tw11328014604452294986 : Unit := ()
def PySem.W.Fast.tw10561069626159574766 : Unit := ()
def PySem.W.Fast.tw15736314167800946387 : Unit := ()
def PySem.W.Fast.tw1988190446089461464 : Unit := ()
def PySem.W.Fast.tw12656514142169822080 : Unit := ()
def PySem.W.Fast.tw17883949158020609375 : Unit := ()
def PySem.W.Fast.tw10045930244744494912 : Unit := ()
def PySem.W.Fast.tw6530449117232547629 : Unit := ()
def PySem.W.Fast.tw1853676001135875394 : Unit := ()
def PySem.W.Fast.tw12714279040270803050 : Unit := ()
def PySem.W.Fast.tw7181747582967591580 : Unit := ()
def PySem.W.Fast.tw3953011850972057133 : Unit := ()
def PySem.W.Fast.tw7864811161602408801 : Unit := ()
def PySem.W.Fast.tw10755638366203522541 : Unit := ()
def PySem.W.Fast.tw7751331632102533787 : Unit := ()
def PySem.W.Fast.tw10162554059481781789 : Unit := ()
def PySem.W.Fast.tw6468687287237671596 : Unit := ()
def PySem.W.Fast.tw3303106814708816653 : Unit := ()
def PySem.W.Fast.tw3024480267464679548 : Unit := ()
def PySem.W.Fast.tw1485782663441429871 : Unit := ()
def PySem.W.Fast.tw4151025650490814257 : Unit := ()
def PySem.W.Fast.tw14525923410951818662 : Unit := ()
def PySem.W.Fast.tw82364660832791055 : Unit := ()
def PySem.W.Fast.tw4181297256309340466 : Unit := ()
def PySem.W.Fast.tw15102025668935194437 : Unit := ()
def PySem.W.Fast.tw15662247807248118312 : Unit := ()
def PySem.W.Fast.tw16337265024211207465 : Unit := ()
def PySem.W.Fast.tw449132864666717841 : Unit := ()
def PySem.W.Fast.tw12016417345623623456 : Unit := ()
def PySem.W.Fast.tw17098726746720545332 : Unit := ()
def PySem.W.Fast.tw12338958991742709823 : Unit := ()
def PySem.W.Fast.tw16050591955242959673 : Unit := ()
def PySem.W.Fast.tw1440100610629930950 : Unit := ()
def PySem.W.Fast.tw7486283065377654733 : Unit := ()
def PySem.W.Fast.tw5026857288297911746 : Unit := ()
def PySem.W.Fast.tw10792432345477069270 : Unit := ()
def PySem.W.Fast.tw1648744108748865167 : Unit := ()
def PySem.W.Fast.tw1471708498625460152 : Unit := ()
def PySem.W.Fast.tw5117426063702970229 : Unit := ()
def PySem.W.Fast.tw6124473848545746928 : Unit := ()
def PySem.W.Fast.tw14776123443771048484 : Unit := ()
def PySem.W.Fast.tw12090437135973552235 : Unit := ()
def PySem.W.Fast.tw1692398136403160411 : Unit := ()
def PySem.W.Fast.tw3740132738298507054 : Unit := ()
def PySem.W.Fast.tw18347684032907710306 : Unit := ()
def PySem.W.Fast.tw9256647731036808264 : Unit := ()
def PySem.W.Fast.tw13979449345963263124 : Unit := ()
def PySem.W.Fast.tw1917804288336441766 : Unit := ()
def PySem.W.Fast.tw3527840402417311143 : Unit := ()
def PySem.W.Fast.tw4883651311431608683 : Unit := ()
def PySem.W.Fast.tw12843275278748035845 : Unit := ()
def PySem.W.Fast.tw1229291076090532726 : Unit := ()
def PySem.W.Fast.tw8390346063956061183 : Unit := ()
def PySem.W.Fast.tw9246618528133791738 : Unit := ()
def PySem.W.Fast.tw3690419247941409325 : Unit := ()
def PySem.W.Fast.tw13302960461564334192 : Unit := ()
def PySem.W.Fast.tw14986846156169929857 : Unit := ()
def PySem.W.Fast.tw17415049025708067474 : Unit := ()
def PySem.W.Fast.tw2609323205836393866 : Unit := ()
def PySem.W.Fast.tw3429175827572566469 : Unit := ()
def PySem.W.Fast.tw12609898139295126371 : Unit := ()
def PySem.W.Fast.tw8289487930371110134 : Unit := ()
def PySem.W.Fast.tw13157694617210831762 : Unit := ()
def PySem.W.Fast.tw2512730858239059679 : Unit := ()
def PySem.W.Fast.tw7169057761205510019 : Unit := ()
def PySem.W.Fast.tw18017804284758615893 : Unit := ()
def PySem.W.Fast.tw48416372125551067 : Unit := ()
def PySem.W.Fast.tw14737373845800572260 : Unit := ()
def PySem.W.Fast.tw10133316004236711677 : Unit := ()
def PySem.W.Fast.tw14186213989226235159 : Unit := ()
def PySem.W.Fast.tw2283308272400320212 : Unit := ()
def PySem.W.Fast.tw9076384815063478034 : Unit := ()
def PySem.W.Fast.tw11896757464896381417 : Unit := ()
def PySem.W.Fast.tw4182788300568329299 : Unit := ()
def PySem.W.Fast.tw7707989419569532006 : Unit := ()
def PySem.W.Fast.tw7249012495000823850 : Unit := ()
def PySem.W.Fast.tw13982558265835031216 : Unit := ()
def PySem.W.Fast.tw15379641885964918937 : Unit := ()
def PySem.W.Fast.tw4845204959540051259 : Unit := ()
def PySem.W.Fast.tw15887522033082222558 : Unit := ()
def PySem.W.Fast.tw16737901256627076802 : Unit := ()
def PySem.W.Fast.tw7313282251400190376 : Unit := ()
def PySem.W.Fast.tw16562286776745705012 : Unit := ()
def PySem.W.Fast.tw9101587165276789 : Unit := ()
def PySem.W.Fast.tw11972999313614718034 : Unit := ()
def PySem.W.Fast.tw16420418526436624899 : Unit := ()
def PySem.W.Fast.tw15855078317508624221 : Unit := ()
def PySem.W.Fast.tw12400369184288924440 : Unit := ()
def PySem.W.Fast.tw5392430610834618807 : Unit := ()
def PySem.W.Fast.tw3958128643831557420 : Unit := ()
def PySem.W.Fast.tw525151242529632888 : Unit := ()
def PySem.W.Fast.tw8045754539017582100 : Unit := ()
def PySem.W.Fast.tw10374570559345558235 : Unit := ()
def PySem.W.Fast.tw6700940394119481883 : Unit := ()
def PySem.W.Fast.tw2907030242707396492 : Unit := ()
def PySem.W.Fast.tw10137604291969269807 : Unit := ()
def PySem.W.Fast.tw11884964120046572871 : Unit := ()
def PySem.W.Fast.tw5900129771290645872 : Unit := ()
def PySem.W.Fast.tw9692248695669404642 : Unit := ()
def PySem.W.Fast.tw5284357487486557204 : Unit := ()
def PySem.W.Fast.tw12890023079748116761 : Unit := ()
def PySem.W.Fast.tw10470272595468457542 : Unit := ()
def PySem.W.Fast.tw17233681817436807757 : Unit := ()
def PySem.W.Fast.tw8569921198943342741 : Unit := ()
def PySem.W.Fast.tw15717392577329150407 : Unit := ()
def PySem.W.Fast.tw12253239250230231431 : Unit := ()
def PySem.W.Fast.tw12531402864009099806 : Unit := ()
def PySem.W.Fast.tw797241485956310953 : Unit := ()
def PySem.W.Fast.tw16824400567690887233 : Unit := ()
def PySem.W.Fast.tw10499022469863743275 : Unit := ()
def PySem.W.Fast.tw16554660578713562565 : Unit := ()
def PySem.W.Fast.tw14219308129188093751 : Unit := ()
def PySem.W.Fast.tw5971313165926438137 : Unit := ()
def PySem.W.Fast.tw16108360546063474925 : Unit := ()
def PySem.W.Fast.tw14889755607991863903 : Unit := ()
def PySem.W.Fast.tw18377823724612918746 : Unit := ()
def PySem.W.Fast.tw1857068912927734822 : Unit := ()
def PySem.W.Fast.tw11106136055485543418 : Unit := ()
def PySem.W.Fast.tw381543887964410668 : Unit := ()
def PySem.W.Fast.tw11185428417877215634 : Unit := ()
def PySem.W.Fast.tw9403531665905776205 : Unit := ()
def PySem.W.Fast.tw9526178781065903040 : Unit := ()
def PySem.W.Fast.tw15080907357055976665 : Unit := ()
def PySem.W.Fast.tw17557449141613318142 : Unit := ()
def PySem.W.Fast.tw17271117204522355190 : Unit := ()
def PySem.W.Fast.tw16044723903576313287 : Unit := ()
def PySem.W.Fast.tw6355910643352294738 : Unit := ()
def PySem.W.Fast.tw12924374649015484677 : Unit := ()
def PySem.W.Fast.tw13270397615028232187 : Unit := ()
def PySem.W.Fast.tw12658987453057623674 : Unit := ()
def PySem.W.Fast.tw15199102331568109250 : Unit := ()
def PySem.W.Fast.tw2788057912734313453 : Unit := ()
def PySem.W.Fast.tw4892842924836397103 : Unit := ()
def PySem.W.Fast.tw12222861304842541571 : Unit := ()
def PySem.W.Fast.tw12635754966501532694 : Unit := ()
def PySem.W.Fast.tw16726201626992634459 : Unit := ()
def PySem.W.Fast.tw1106232143125027113 : Unit := ()
def PySem.W.Fast.tw15237754215096379958 : Unit := ()
def PySem.W.Fast.tw14403262294785347158 : Unit := ()
def PySem.W.Fast.tw8900435240550202429 : Unit := ()
def PySem.W.Fast.tw920308824102112050 : Unit := ()
def PySem.W.Fast.tw1112949659724785096 : Unit := ()
def PySem.W.Fast.tw14340367901792061789 : Unit := ()
def PySem.W.Fast.tw8896785910417048465 : Unit := ()
def PySem.W.Fast.tw12291650324930058279 : Unit := ()
def PySem.W.Fast.tw6703075992268044832 : Unit := ()
def PySem.W.Fast.tw3696699817861485656 : Unit := ()
def PySem.W.Fast.tw17691810524801591956 : Unit := ()
def PySem.W.Fast.tw9965897450884005463 : Unit := ()
def PySem.W.Fast.tw15206484583851484892 : Unit := ()
def PySem.W.Fast.tw110829486897323797 : Unit := ()
def PySem.W.Fast.tw1841315316883388763 : Unit := ()
def PySem.W.Fast.tw16369311689545445616 : Unit := ()
def PySem.W.Fast.tw9153819043082869506 : Unit := ()
def PySem.W.Fast.tw11878319883479231869 : Unit := ()
def PySem.W.Fast.tw6476895961136718515 : Unit := ()
def PySem.W.Fast.tw4021246103955633461 : Unit := ()
def PySem.W.Fast.tw17558770126669602680 : Unit := ()
def PySem.W.Fast.tw5467555403493611335 : Unit := ()
def PySem.W.Fast.tw16257832250604690404 : Unit := ()
def PySem.W.Fast.tw1709943945290959761 : Unit := ()
def PySem.W.Fast.tw1752036860764869253 : Unit := ()
def PySem.W.Fast.tw8835590187888337111 : Unit := ()
def PySem.W.Fast.tw587223923110156785 : Unit := ()
def PySem.W.Fast.tw2268138113912585199 : Unit := ()
def PySem.W.Fast.tw16340459280236646860 : Unit := ()
def PySem.W.Fast.tw14586375180272430251 : Unit := ()
def PySem.W.Fast.tw2481692417659516447 : Unit := ()
def PySem.W.Fast.tw10260081579380431606 : Unit := ()
def PySem.W.Fast.tw4444880305843840101 : Unit := ()
def PySem.W.Fast.tw3996730653633143591 : Unit := ()
def PySem.W.Fast.tw5279787508449434361 : Unit := ()
def PySem.W.Fast.tw12711299046317224631 : Unit := ()
def PySem.W.Fast.tw7890377323443434503 : Unit := ()
def PySem.W.Fast.tw2707920921877145179 : Unit := ()
def PySem.W.Fast.tw14316989108878511926 : Unit := ()
def PySem.W.Fast.tw2277339907675695840 : Unit := ()
def PySem.W.Fast.tw16949717308958691750 : Unit := ()
def PySem.W.Fast.tw9610146266748612515 : Unit := ()
def PySem.W.Fast.tw6273679930278699430 : Unit := ()
def PySem.W.Fast.tw16483854593718149690 : Unit := ()
def PySem.W.Fast.tw15700368864172090348 : Unit := ()
def PySem.W.Fast.tw18004896288671506736 : Unit := ()
def PySem.W.Fast.tw9700815630632040707 : Unit := ()
def PySem.W.Fast.tw9161815482750996545 : Unit := ()
def PySem.W.Fast.tw2492808989066376680 : Unit := ()
def PySem.W.Fast.tw17247240095870509894 : Unit := ()
def PySem.W.Fast.tw14723793354862404824 : Unit := ()
def PySem.W.Fast.tw6966230115271713407 : Unit := ()
def PySem.W.Fast.tw588101696059860709 : Unit := ()
def PySem.W.Fast.tw2534353790210478116 : Unit := ()
def PySem.W.Fast.tw15584064109866566024 : Unit := ()
def PySem.W.Fast.tw12455602463362505334 : Unit := ()
def PySem.W.Fast.tw135371076734349123 : Unit := ()
def PySem.W.Fast.tw14667450018173224300 : Unit := ()
def PySem.W.Fast.tw14811815053112928164 : Unit := ()
def PySem.W.Fast.tw7596215976698219612 : Unit := ()
def PySem.W.Fast.tw9426210513562184 : Unit := ()
def PySem.W.Fast.tw12636084617087377908 : Unit := ()
def PySem.W.Fast.tw15280861066102752488 : Unit := ()
def PySem.W.Fast.tw13251385930349453346 : Unit := ()
def PySem.W.Fast.tw15099062585416036979 : Unit := ()
def PySem.W.Fast.tw2845080480366166065 : Unit := ()
def PySem.W.Fast.tw1250082598770837650 : Unit := ()
def PySem.W.Fast.tw5056074303806318726 : Unit := ()
def PySem.W.Fast.tw5251138988739267714 : Unit := ()
def PySem.W.Fast.tw18289090920591577506 : Unit := ()
def PySem.W.Fast.tw17503276789986945384 : Unit := ()
def PySem.W.Fast.tw17461712050324000912 : Unit := ()
def PySem.W.Fast.tw16079715897131359913 : Unit := ()
def PySem.W.Fast.tw6611728882319597758 : Unit := ()
def PySem.W.Fast.tw14109515619967147969 : Unit := ()
def PySem.W.Fast.tw1009884628063818427 : Unit := ()
def PySem.W.Fast.tw10305460360118230944 : Unit := ()
def PySem.W.Fast.tw1936280357232807375 : Unit := ()
def PySem.W.Fast.tw9656560212929209654 : Unit := ()
def PySem.W.Fast.tw2437613567923502337 : Unit := ()
def PySem.W.Fast.tw6662956330395341843 : Unit := ()
def PySem.W.Fast.tw1078101696670500514 : Unit := ()
def PySem.W.Fast.tw18325022914015145370 : Unit := ()
def PySem.W.Fast.tw2199400587319101820 : Unit := ()
def PySem.W.Fast.tw15131309807584104805 : Unit := ()
def PySem.W.Fast.tw17652369953015230162 : Unit := ()
def PySem.W.Fast.tw15946099358385126879 : Unit := ()
def PySem.W.Fast.tw14148489070275904494 : Unit := ()
def PySem.W.Fast.tw17715777022082842009 : Unit := ()
def PySem.W.Fast.tw14421594498684541291 : Unit := ()
def PySem.W.Fast.tw11737481178377710027 : Unit := ()
def PySem.W.Fast.tw16055235960621648862 : Unit := ()
def PySem.W.Fast.tw6561086707864647059 : Unit := ()
def PySem.W.Fast.tw11737636435386788700 : Unit := ()
def PySem.W.Fast.tw15547400160600046909 : Unit := ()
def PySem.W.Fast.tw6160286095691395254 : Unit := ()
def PySem.W.Fast.tw9250732377168121781 : Unit := ()
def PySem.W.Fast.tw15457709649232958215 : Unit := ()
def PySem.W.Fast.tw4148166744930226187 : Unit := ()
def PySem.W.Fast.tw2573082325298649173 : Unit := ()
def PySem.W.Fast.tw3781122303836884034 : Unit := ()
def PySem.W.Fast.tw9900213480488391696 : Unit := ()
def PySem.W.Fast.tw10107581951441738762 : Unit := ()
def PySem.W.Fast.tw15636182863754137388 : Unit := ()
def PySem.W.Fast.tw2636700742052116306 : Unit := ()
def PySem.W.Fast.tw17869461532824323408 : Unit := ()
def PySem.W.Fast.tw13886027159005243147 : Unit := ()
def PySem.W.Fast.tw14336053351516054637 : Unit := ()
def PySem.W.Fast.tw13338609171526449979 : Unit := ()
def PySem.W.Fast.tw16521460371472475537 : Unit := ()
def PySem.W.Fast.tw12074698763404817298 : Unit := ()
def PySem.W.Fast.tw6443011342174274160 : Unit := ()
def PySem.W.Fast.tw13411591215129022823 : Unit := ()
def PySem.W.Fast.tw2454842245332770369 : Unit := ()
def PySem.W.Fast.tw16005281455092141275 : Unit := ()
def PySem.W.Fast.tw3870391157692158753 : Unit := ()
def PySem.W.Fast.tw16014147136211896945 : Unit := ()
def PySem.W.Fast.tw6842680253302836873 : Unit := ()
def PySem.W.Fast.tw10335968145284020466 : Unit := ()
def PySem.W.Fast.tw6910676472291710454 : Unit := ()
def PySem.W.Fast.tw7717492715700227107 : Unit := ()
def PySem.W.Fast.tw11776814224608004935 : Unit := ()
def PySem.W.Fast.tw8604187627930509130 : Unit := ()
def PySem.W.Fast.tw8478012696835031767 : Unit := ()
def PySem.W.Fast.tw6802459798756272856 : Unit := ()
def PySem.W.Fast.tw2280287677073237521 : Unit := ()
def PySem.W.Fast.tw1697022201558091321 : Unit := ()
def PySem.W.Fast.tw6827648119521837532 : Unit := ()
def PySem.W.Fast.tw18096484419413748996 : Unit := ()
def PySem.W.Fast.tw13240752961734764565 : Unit := ()
def PySem.W.Fast.tw12494561657291911766 : Unit := ()
def PySem.W.Fast.tw10025535397311712776 : Unit := ()
def PySem.W.Fast.tw16282502716025471733 : Unit := ()
def PySem.W.Fast.tw7980760078988829032 : Unit := ()
def PySem.W.Fast.tw5406432310443712918 : Unit := ()
def PySem.W.Fast.tw13507792182552395979 : Unit := ()
def PySem.W.Fast.tw13989833918443590755 : Unit := ()
def PySem.W.Fast.tw16641790444225931984 : Unit := ()
def PySem.W.Fast.tw12605157234503713389 : Unit := ()
def PySem.W.Fast.tw8496610761843313716 : Unit := ()
def PySem.W.Fast.tw1667456067450892126 : Unit := ()
def PySem.W.Fast.tw10779392843733202247 : Unit := ()
def PySem.W.Fast.tw2265043082296535926 : Unit := ()
def PySem.W.Fast.tw9030622863792157691 : Unit := ()
def PySem.W.Fast.tw15234580144671465683 : Unit := ()
def PySem.W.Fast.tw8567800168123063978 : Unit := ()
def PySem.W.Fast.tw17244322123773061674 : Unit := ()
def PySem.W.Fast.tw442841540693402917 : Unit := ()
def PySem.W.Fast.tw7834571872397097892 : Unit := ()
def PySem.W.Fast.tw12690462150196929682 : Unit := ()
def PySem.W.Fast.tw6259399559403631213 : Unit := ()
def PySem.W.Fast.tw838068058818370538 : Unit := ()
def PySem.W.Fast.tw18221702482802881654 : Unit := ()
def PySem.W.Fast.tw12539253712360097309 : Unit := ()
def PySem.W.Fast.tw16240414522009711746 : Unit := ()
def PySem.W.Fast.tw13069755345935597058 : Unit := ()
def PySem.W.Fast.tw9275127720387185826 : Unit := ()
def PySem.W.Fast.tw5669080780217710746 : Unit := ()
def PySem.W.Fast.tw9620780676358006180 : Unit := ()
def PySem.W.Fast.tw7861385741531336050 : Unit := ()
def PySem.W.Fast.tw7263733038112559916 : Unit := ()
def PySem.W.Fast.tw7231734719652132232 : Unit := ()
def PySem.W.Fast.tw1603443052378689761 : Unit := ()
def PySem.W.Fast.tw8439981490220994290 : Unit := ()
def PySem.W.Fast.tw1857800525265294928 : Unit := ()
def PySem.W.Fast.tw11863278380689105003 : Unit := ()
def PySem.W.Fast.tw5681343063538976690 : Unit := ()
def PySem.W.Fast.tw3277482760904900500 : Unit := ()
def PySem.W.Fast.tw11028681336897375412 : Unit := ()
def PySem.W.Fast.tw10453273758616872818 : Unit := ()
def PySem.W.Fast.tw10173903074527814048 : Unit := ()
def PySem.W.Fast.tw6154732584747826224 : Unit := ()
def PySem.W.Fast.tw1583003191461087284 : Unit := ()
def PySem.W.Fast.tw13555148686562534742 : Unit := ()
def PySem.W.Fast.tw3946491979845743576 : Unit := ()
def PySem.W.Fast.tw5786017731443278419 : Unit := ()
def PySem.W.Fast.tw539395023482637683 : Unit := ()
def PySem.W.Fast.tw14971500369614152159 : Unit := ()
def PySem.W.Fast.tw16671105920486836253 : Unit := ()
def PySem.W.Fast.tw13290042612917854638 : Unit := ()
def PySem.W.Fast.tw4425269814962415108 : Unit := ()
def PySem.W.Fast.tw10713449735822625417 : Unit := ()
def PySem.W.Fast.tw2127011234800424618 : Unit := ()
def PySem.W.Fast.tw7211985620983177235 : Unit := ()
def PySem.W.Fast.tw2056861981971123300 : Unit := ()
def PySem.W.Fast.tw11426238616514614021 : Unit := ()
def PySem.W.Fast.tw6229692253018807763 : Unit := ()
def PySem.W.Fast.tw5979320835730120255 : Unit := ()
def PySem.W.Fast.tw1859323415104301670 : Unit := ()
def PySem.W.Fast.tw17353809592286033327 : Unit := ()
def PySem.W.Fast.tw6110255226753093034 : Unit := ()
def PySem.W.Fast.tw9440680734545283647 : Unit := ()
def PySem.W.Fast.tw4913439496599352912 : Unit := ()
def PySem.W.Fast.tw3474194211704792120 : Unit := ()
def PySem.W.Fast.tw491886599206832141 : Unit := ()
def PySem.W.Fast.tw10883821642792341460 : Unit := ()
def PySem.W.Fast.tw8493817016349561139 : Unit := ()
def PySem.W.Fast.tw2940960858165758446 : Unit := ()
def PySem.W.Fast.tw791816360662951815 : Unit := ()
def PySem.W.Fast.tw6324212861322064650 : Unit := ()
def PySem.W.Fast.tw13509209816782319020 : Unit := ()
def PySem.W.Fast.tw10493567481833757543 : Unit := ()
def PySem.W.Fast.tw6353901165508457906 : Unit := ()
def PySem.W.Fast.tw1967528854714188752 : Unit := ()
def PySem.W.Fast.tw9130923452161252065 : Unit := ()
def PySem.W.Fast.tw2208619709040380337 : Unit := ()
def PySem.W.Fast.tw12606564684010044656 : Unit := ()
def PySem.W.Fast.tw13088411232202229908 : Unit := ()
def PySem.W.Fast.tw2871470692482019426 : Unit := ()
def PySem.W.Fast.tw2602104440875039587 : Unit := ()
def PySem.W.Fast.tw17880407110995852051 : Unit := ()
def PySem.W.Fast.tw10958115073854783429 : Unit := ()
def PySem.W.Fast.tw5475280669130358115 : Unit := ()
def PySem.W.Fast.tw4713980821593264206 : Unit := ()
def PySem.W.Fast.tw9902705160952517537 : Unit := ()
def PySem.W.Fast.tw10133126396095526934 : Unit := ()
def PySem.W.Fast.tw14256248913421923143 : Unit := ()
def PySem.W.Fast.tw15831510124066621810 : Unit := ()
def PySem.W.Fast.tw1961794855019647928 : Unit := ()
def PySem.W.Fast.tw15427845482244623173 : Unit := ()
def PySem.W.Fast.tw16890104970341450680 : Unit := ()
def PySem.W.Fast.tw9100562483002296826 : Unit := ()
def PySem.W.Fast.tw2486318749250333763 : Unit := ()
def PySem.W.Fast.tw17752384936292703677 : Unit := ()
def PySem.W.Fast.tw2289944673748638766 : Unit := ()
def PySem.W.Fast.tw16812909174716197913 : Unit := ()
def PySem.W.Fast.tw3879716012507132158 : Unit := ()
def PySem.W.Fast.tw1977342358821856900 : Unit := ()
def PySem.W.Fast.tw7584389861037729655 : Unit := ()
def PySem.W.Fast.tw5868946046303421059 : Unit := ()
def PySem.W.Fast.tw15762933246063172252 : Unit := ()
def PySem.W.Fast.tw7952742533647374195 : Unit := ()
def PySem.W.Fast.tw1610543402355953968 : Unit := ()
def PySem.W.Fast.tw17547999914066920913 : Unit := ()
def PySem.W.Fast.tw7106953093390130055 : Unit := ()
def PySem.W.Fast.tw15940049277984021380 : Unit := ()
def PySem.W.Fast.tw10687558142088078106 : Unit := ()
def PySem.W.Fast.tw2125000265647548980 : Unit := ()
def PySem.W.Fast.tw15951346136427275232 : Unit := ()
def PySem.W.Fast.tw5768281628121457823 : Unit := ()
def PySem.W.Fast.tw2711514478271407556 : Unit := ()
def PySem.W.Fast.tw12496519160065763291 : Unit := ()
def PySem.W.Fast.tw8839682255373668844 : Unit := ()
def PySem.W.Fast.tw16838510603599218056 : Unit := ()
def PySem.W.Fast.tw6176035136606796585 : Unit := ()
def PySem.W.Fast.tw10748479100519645718 : Unit := ()
def PySem.W.Fast.tw6321334731405616766 : Unit := ()
def PySem.W.Fast.tw12481629539713550791 : Unit := ()
def PySem.W.Fast.tw893716991864995416 : Unit := ()
def PySem.W.Fast.tw6953727398972247642 : Unit := ()
def PySem.W.Fast.tw7714992998023328425 : Unit := ()
def PySem.W.Fast.tw12445063828169214254 : Unit := ()
def PySem.W.Fast.tw10555994285149231165 : Unit := ()
def PySem.W.Fast.tw11852552915610168345 : Unit := ()
def PySem.W.Fast.tw15858593713667088885 : Unit := ()
def PySem.W.Fast.tw8213799707254924992 : Unit := ()
def PySem.W.Fast.tw11810281860615877871 : Unit := ()
def PySem.W.Fast.tw9536241024522132972 : Unit := ()
def PySem.W.Fast.tw17329805840442050043 : Unit := ()
def PySem.W.Fast.tw16198767408205373341 : Unit := ()
def PySem.W.Fast.tw1217847539768416814 : Unit := ()
def PySem.W.Fast.tw6473523479517218675 : Unit := ()
def PySem.W.Fast.tw615064307598396835 : Unit := ()
def PySem.W.Fast.tw14355670572365848621 : Unit := ()
def PySem.W.Fast.tw11797636451614500011 : Unit := ()
def PySem.W.Fast.tw12168061568355198438 : Unit := ()
def PySem.W.Fast.tw18247363958739778808 : Unit := ()
def PySem.W.Fast.tw11089199754555896209 : Unit := ()
def PySem.W.Fast.tw6230228844431194920 : Unit := ()
def PySem.W.Fast.tw9817166938164634439 : Unit := ()
def PySem.W.Fast.tw14570035826169723880 : Unit := ()
def PySem.W.Fast.tw4673044240538588836 : Unit := ()
def PySem.W.Fast.tw10039425095081020503 : Unit := ()
def PySem.W.Fast.tw14462367750281189724 : Unit := ()
def PySem.W.Fast.tw1306928370347516333 : Unit := ()
def PySem.W.Fast.tw18133346665489166023 : Unit := ()
def PySem.W.Fast.tw14675488014599087250 : Unit := ()
def PySem.W.Fast.tw12252462237411412001 : Unit := ()
def PySem.W.Fast.tw14631444168295157592 : Unit := ()
def PySem.W.Fast.tw8768522558025775687 : Unit := ()
def PySem.W.Fast.tw17227628829034382067 : Unit := ()
def PySem.W.Fast.tw8497274592968802489 : Unit := ()
def PySem.W.Fast.tw13635838906748275866 : Unit := ()
def PySem.W.Fast.tw10892821095331020195 : Unit := ()
def PySem.W.Fast.tw5190143565905994836 : Unit := ()
def PySem.W.Fast.tw3235866357757732022 : Unit := ()
def PySem.W.Fast.tw14427553809903927310 : Unit := ()
def PySem.W.Fast.tw6495035835095895483 : Unit := ()
def PySem.W.Fast.tw18381023705925260621 : Unit := ()
def PySem.W.Fast.tw2282541645746013066 : Unit := ()
def PySem.W.Fast.tw277265529219123534 : Unit := ()
def PySem.W.Fast.tw12932296887887198971 : Unit := ()
def PySem.W.Fast.tw5783122854425306191 : Unit := ()
def PySem.W.Fast.tw538872937305936326 : Unit := ()
def PySem.W.Fast.tw4694026571445470368 : Unit := ()
def PySem.W.Fast.tw3463755521103053967 : Unit := ()
def PySem.W.Fast.tw8212745941113740192 : Unit := ()
def PySem.W.Fast.tw11765092796367177039 : Unit := ()
def PySem.W.Fast.tw18272151781429525905 : Unit := ()
def PySem.W.Fast.tw7230478301961951470 : Unit := ()
def PySem.W.Fast.tw8627998128563738556 : Unit := ()
def PySem.W.Fast.tw9898192787464498415 : Unit := ()
def PySem.W.Fast.tw3005628277359872322 : Unit := ()
def PySem.W.Fast.tw3111164853047386713 : Unit := ()
def PySem.W.Fast.tw16918700482093335700 : Unit := ()
def PySem.W.Fast.tw13985897493688436123 : Unit := ()
def PySem.W.Fast.tw3633076585614236150 : Unit := ()
def PySem.W.Fast.tw1966242287543906983 : Unit := ()
def PySem.W.Fast.tw6672341511932717305 : Unit := ()
def PySem.W.Fast.tw16974597613879214088 : Unit := ()
def PySem.W.Fast.tw12519925682443370927 : Unit := ()
def PySem.W.Fast.tw14263089507624348069 : Unit := ()
open PySem PySem.W PyProof.Rows
set_option maxRecDepth 100000 in
set_option maxHeartbeats 0 in
theorem PySem.Challenge.cw_rowjudge_k73_rings_holds : PySem.Challenge.rw_rowjudge_k73_rings.Holds := by
  w_on; o_law; k_head; (case hw => w_witness2)
  k_fill
  refine My.walk (l := PySem.Challenge.rw_rowjudge_k73_rings) rfl rfl (fun w h Y => PySem.W.kIn_of Y) ?F
  case F =>
    intro w mg fa h KX G hmg
    refine' My.all_mk KX G hmg ?n_TableError ?n_Unlike ?n_Ring ?n_Way ?n_First ?n_Only ?n_Like ?n_Low ?n_High ?n_Sum ?n_Domain ?n_Numbers ?n_Words ?n_Table ?n_Book ?a0 ?l0 ?c0 ?k0 ?a1 ?l1 ?c1 ?k1 ?a2 ?l2 ?c2 ?k2 ?a3 ?l3 ?c3 ?k3 ?a4 ?l4 ?c4 ?k4 ?a5 ?l5 ?c5 ?k5 ?a6 ?l6 ?c6 ?k6 ?a7 ?l7 ?c7 ?k7 ?a8 ?l8 ?c8 ?k8 ?a9 ?l9 ?c9 ?k9 ?a10 ?l10 ?c10 ?k10 ?a11 ?l11 ?c11 ?k11 ?a12 ?l12 ?c12 ?k12 ?a13 ?l13 ?c13 ?k13 ?a14 ?l14 ?c14 ?k14 ?a15 ?l15 ?c15 ?k15 ?a16 ?l16 ?c16 ?k16 ?a17 ?l17 ?c17 ?k17 ?a18 ?l18 ?c18 ?k18 ?a19 ?l19 ?c19 ?k19 ?a20 ?l20 ?c20 ?k20 ?i21 ?if21 ?im21 ?ik21 ?l21 ?c21 ?k21 ?i22 ?if22 ?im22 ?ik22 ?l22 ?c22 ?k22 ?b_s23 ?b_r23 ?b_a23 ?l23 ?c23 ?k23 ?i24 ?if24 ?im24 ?ik24 ?l24 ?c24 ?k24 ?i25 ?if25 ?im25 ?ik25 ?l25 ?c25 ?k25 ?b_s26 ?b_r26 ?b_a26 ?l26 ?c26 ?k26 ?i27 ?if27 ?im27 ?ik27 ?l27 ?c27 ?k27 ?b_s28 ?b_r28 ?b_a28 ?l28 ?c28 ?k28 ?i29 ?if29 ?im29 ?ik29 ?l29 ?c29 ?k29 ?b_s30 ?b_r30 ?b_a30 ?l30 ?c30 ?k30 ?i31 ?if31 ?im31 ?ik31 ?l31 ?c31 ?k31 ?b_s32 ?b_r32 ?b_a32 ?l32 ?c32 ?k32 ?i33 ?if33 ?im33 ?ik33 ?l33 ?c33 ?k33 ?b_s34 ?b_r34 ?b_a34 ?l34 ?c34 ?k34 ?i35 ?if35 ?im35 ?ik35 ?l35 ?c35 ?k35 ?b_s36 ?b_r36 ?b_a36 ?l36 ?c36 ?k36 ?m37 ?mf37 ?l37 ?c37 ?k37 ?m38 ?mf38 ?l38 ?c38 ?k38 ?a39 ?l39 ?c39 ?k39 ?z0 ?z1 ?z2 ?z3 ?z4 ?z5 ?z6 ?z7 ?z8 ?z9 ?y0 ?x0 ?y1 ?x1 ?y2 ?x2 ?y3 ?x3 ?y4 ?x4 ?y5 ?x5 ?x_Ring ?l0_Ring ?l1_Ring ?l2_Ring ?l3_Ring ?l4_Ring ?l5_Ring ?l6_Ring ?l7_Ring ?pg_First ?hd_First ?po_First ?sa_First ?pg_Only ?hd_Only ?po_Only ?sa_Only ?pg_Like ?hd_Like ?po_Like ?sa_Like ?pg_Low ?hd_Low ?po_Low ?sa_Low ?pg_High ?hd_High ?po_High ?sa_High ?pg_Sum ?hd_Sum ?po_Sum ?sa_Sum ?pg_Numbers ?hd_Numbers ?po_Numbers ?sa_Numbers ?pg_Words ?hd_Words ?po_Words ?sa_Words ?pg_Table ?hd_Table ?po_Table ?sa_Table ?pg_Book ?hd_Book ?po_Book ?sa_Book ?ta_First ?tn_First ?tt_First ?tm_First ?ta_Only ?tn_Only ?tt_Only ?tm_Only ?ta_Like ?tn_Like ?tt_Like ?tm_Like ?ta_Low ?tn_Low ?tt_Low ?tm_Low ?ta_High ?tn_High ?tt_High ?tm_High ?ta_Sum ?tn_Sum ?tt_Sum ?tm_Sum ?ta_Numbers ?tn_Numbers ?tt_Numbers ?tm_Numbers ?ta_Words ?tn_Words ?tt_Words ?tm_Words ?ta_Table ?tn_Table ?tt_Table ?tm_Table ?ta_Book ?tn_Book ?tt_Book ?tm_Book ?na_First_called ?na_Only_called ?na_Like_called ?na_Low_called ?na_High_called ?na_Sum_called ?na_Numbers_low ?na_Numbers_high ?na_Numbers_words ?na_Words_low ?na_Words_high ?na_Words_words ?na_Table_name ?na_Table_names ?na_Table_domains ?na_Table_outcome ?na_Table_way ?na_Table_rows ?na_Book_facts ?na_Book_tables ?f_nn ?f_wn ?f_ww ?f_tt ?f_nw ?e2_Ring ?v1_Ring ?v2_Ring ?v3_Ring
    (case n_TableError => k_is)
    (case n_Unlike => k_is)
    (case n_Ring => k_is)
    (case n_Way => k_is)
    (case n_First => k_is)
    (case n_Only => k_is)
    (case n_Like => k_is)
    (case n_Low => k_is)
    (case n_High => k_is)
    (case n_Sum => k_is)
    (case n_Domain => k_is)
    (case n_Numbers => k_is)
    (case n_Words => k_is)
    (case n_Table => k_is)
    (case n_Book => k_is)
    (case a0 => k_is); (case l0 => k_is); (case c0 => k_is); (case k0 => k_is)
    (case a1 => k_is); (case l1 => k_is); (case c1 => k_is); (case k1 => k_is)
    (case a2 => k_is); (case l2 => k_is); (case c2 => k_is); (case k2 => k_is)
    (case a3 => k_is); (case l3 => k_is); (case c3 => k_is); (case k3 => k_is)
    (case a4 => k_is); (case l4 => k_is); (case c4 => k_is); (case k4 => k_is)
    (case a5 => k_is); (case l5 => k_is); (case c5 => k_is); (case k5 => k_is)
    (case a6 => k_is); (case l6 => k_is); (case c6 => k_is); (case k6 => k_is)
    (case a7 => k_is); (case l7 => k_is); (case c7 => k_is); (case k7 => k_is)
    (case a8 => k_is); (case l8 => k_is); (case c8 => k_is); (case k8 => k_is)
    (case a9 => k_is); (case l9 => k_is); (case c9 => k_is); (case k9 => k_is)
    (case a10 => k_is); (case l10 => k_is); (case c10 => k_is); (case k10 => k_is)
    (case a11 => k_is); (case l11 => k_is); (case c11 => k_is); (case k11 => k_is)
    (case a12 => k_is); (case l12 => k_is); (case c12 => k_is); (case k12 => k_is)
    (case a13 => k_is); (case l13 => k_is); (case c13 => k_is); (case k13 => k_is)
    (case a14 => k_is); (case l14 => k_is); (case c14 => k_is); (case k14 => k_is)
    (case a15 => k_is); (case l15 => k_is); (case c15 => k_is); (case k15 => k_is)
    (case a16 => k_is); (case l16 => k_is); (case c16 => k_is); (case k16 => k_is)
    (case a17 => k_is); (case l17 => k_is); (case c17 => k_is); (case k17 => k_is)
    (case a18 => k_is); (case l18 => k_is); (case c18 => k_is); (case k18 => k_is)
    (case a19 => k_is); (case l19 => k_is); (case c19 => k_is); (case k19 => k_is)
    (case a20 => k_is); (case l20 => k_is); (case c20 => k_is); (case k20 => k_is)
    (case i21 => k_is); (case if21 => k_is); (case im21 => k_is); (case ik21 => k_is); (case l21 => k_is); (case c21 => k_is); (case k21 => k_is)
    (case i22 => k_is); (case if22 => k_is); (case im22 => k_is); (case ik22 => k_is); (case l22 => k_is); (case c22 => k_is); (case k22 => k_is)
    (case b_s23 => k_is); (case b_r23 => k_is); (case b_a23 => k_is); (case l23 => k_is); (case c23 => k_is); (case k23 => k_is)
    (case i24 => k_is); (case if24 => k_is); (case im24 => k_is); (case ik24 => k_is); (case l24 => k_is); (case c24 => k_is); (case k24 => k_is)
    (case i25 => k_is); (case if25 => k_is); (case im25 => k_is); (case ik25 => k_is); (case l25 => k_is); (case c25 => k_is); (case k25 => k_is)
    (case b_s26 => k_is); (case b_r26 => k_is); (case b_a26 => k_is); (case l26 => k_is); (case c26 => k_is); (case k26 => k_is)
    (case i27 => k_is); (case if27 => k_is); (case im27 => k_is); (case ik27 => k_is); (case l27 => k_is); (case c27 => k_is); (case k27 => k_is)
    (case b_s28 => k_is); (case b_r28 => k_is); (case b_a28 => k_is); (case l28 => k_is); (case c28 => k_is); (case k28 => k_is)
    (case i29 => k_is); (case if29 => k_is); (case im29 => k_is); (case ik29 => k_is); (case l29 => k_is); (case c29 => k_is); (case k29 => k_is)
    (case b_s30 => k_is); (case b_r30 => k_is); (case b_a30 => k_is); (case l30 => k_is); (case c30 => k_is); (case k30 => k_is)
    (case i31 => k_is); (case if31 => k_is); (case im31 => k_is); (case ik31 => k_is); (case l31 => k_is); (case c31 => k_is); (case k31 => k_is)
    (case b_s32 => k_is); (case b_r32 => k_is); (case b_a32 => k_is); (case l32 => k_is); (case c32 => k_is); (case k32 => k_is)
    (case i33 => k_is); (case if33 => k_is); (case im33 => k_is); (case ik33 => k_is); (case l33 => k_is); (case c33 => k_is); (case k33 => k_is)
    (case b_s34 => k_is); (case b_r34 => k_is); (case b_a34 => k_is); (case l34 => k_is); (case c34 => k_is); (case k34 => k_is)
    (case i35 => k_is); (case if35 => k_is); (case im35 => k_is); (case ik35 => k_is); (case l35 => k_is); (case c35 => k_is); (case k35 => k_is)
    (case b_s36 => k_is); (case b_r36 => k_is); (case b_a36 => k_is); (case l36 => k_is); (case c36 => k_is); (case k36 => k_is)
    (case m37 => k_is); (case mf37 => k_is); (case l37 => k_is); (case c37 => k_is); (case k37 => k_is)
    (case m38 => k_is); (case mf38 => k_is); (case l38 => k_is); (case c38 => k_is); (case k38 => k_is)
    (case a39 => k_is); (case l39 => k_is); (case c39 => k_is); (case k39 => k_is)
    (case z0 => k_is)
    (case z1 => k_is)
    (case z2 => k_is)
    (case z3 => k_is)
    (case z4 => k_is)
    (case z5 => k_is)
    (case z6 => k_is)
    (case z7 => k_is)
    (case z8 => k_is)
    (case z9 => k_is)
    (case y0 => k_is)
    (case x0 => exact ⟨_, rfl⟩)
    (case y1 => k_is)
    (case x1 => exact ⟨_, rfl⟩)
    (case y2 => k_is)
    (case x2 => exact ⟨_, rfl⟩)
    (case y3 => k_is)
    (case x3 => exact ⟨_, rfl⟩)
    (case y4 => k_is)
    (case x4 => exact ⟨_, rfl⟩)
    (case y5 => k_is)
    (case x5 => exact ⟨_, rfl⟩)
    (case pg_First => first | k_is | rfl | with_unfolding_all rfl)
    (case hd_First => first | k_is | rfl | with_unfolding_all rfl)
    (case po_First => first | k_is | rfl | with_unfolding_all rfl)
    (case sa_First => first | k_is | rfl | with_unfolding_all rfl)
    (case pg_Only => first | k_is | rfl | with_unfolding_all rfl)
    (case hd_Only => first | k_is | rfl | with_unfolding_all rfl)
    (case po_Only => first | k_is | rfl | with_unfolding_all rfl)
    (case sa_Only => first | k_is | rfl | with_unfolding_all rfl)
    (case pg_Like => first | k_is | rfl | with_unfolding_all rfl)
    (case hd_Like => first | k_is | rfl | with_unfolding_all rfl)
    (case po_Like => first | k_is | rfl | with_unfolding_all rfl)
    (case sa_Like => first | k_is | rfl | with_unfolding_all rfl)
    (case pg_Low => first | k_is | rfl | with_unfolding_all rfl)
    (case hd_Low => first | k_is | rfl | with_unfolding_all rfl)
    (case po_Low => first | k_is | rfl | with_unfolding_all rfl)
    (case sa_Low => first | k_is | rfl | with_unfolding_all rfl)
    (case pg_High => first | k_is | rfl | with_unfolding_all rfl)
    (case hd_High => first | k_is | rfl | with_unfolding_all rfl)
    (case po_High => first | k_is | rfl | with_unfolding_all rfl)
    (case sa_High => first | k_is | rfl | with_unfolding_all rfl)
    (case pg_Sum => first | k_is | rfl | with_unfolding_all rfl)
    (case hd_Sum => first | k_is | rfl | with_unfolding_all rfl)
    (case po_Sum => first | k_is | rfl | with_unfolding_all rfl)
    (case sa_Sum => first | k_is | rfl | with_unfolding_all rfl)
    (case pg_Numbers => first | k_is | rfl | with_unfolding_all rfl)
    (case hd_Numbers => first | k_is | rfl | with_unfolding_all rfl)
    (case po_Numbers => first | k_is | rfl | with_unfolding_all rfl)
    (case sa_Numbers => first | k_is | rfl | with_unfolding_all rfl)
    (case pg_Words => first | k_is | rfl | with_unfolding_all rfl)
    (case hd_Words => first | k_is | rfl | with_unfolding_all rfl)
    (case po_Words => first | k_is | rfl | with_unfolding_all rfl)
    (case sa_Words => first | k_is | rfl | with_unfolding_all rfl)
    (case pg_Table => first | k_is | rfl | with_unfolding_all rfl)
    (case hd_Table => first | k_is | rfl | with_unfolding_all rfl)
    (case po_Table => first | k_is | rfl | with_unfolding_all rfl)
    (case sa_Table => first | k_is | rfl | with_unfolding_all rfl)
    (case pg_Book => first | k_is | rfl | with_unfolding_all rfl)
    (case hd_Book => first | k_is | rfl | with_unfolding_all rfl)
    (case po_Book => first | k_is | rfl | with_unfolding_all rfl)
    (case sa_Book => first | k_is | rfl | with_unfolding_all rfl)
    (case ta_First => first | k_is | rfl | with_unfolding_all rfl)
    (case tn_First => first | k_is | rfl | with_unfolding_all rfl)
    (case tt_First => first | k_is | rfl | with_unfolding_all rfl)
    (case tm_First => first | k_is | rfl | with_unfolding_all rfl)
    (case ta_Only => first | k_is | rfl | with_unfolding_all rfl)
    (case tn_Only => first | k_is | rfl | with_unfolding_all rfl)
    (case tt_Only => first | k_is | rfl | with_unfolding_all rfl)
    (case tm_Only => first | k_is | rfl | with_unfolding_all rfl)
    (case ta_Like => first | k_is | rfl | with_unfolding_all rfl)
    (case tn_Like => first | k_is | rfl | with_unfolding_all rfl)
    (case tt_Like => first | k_is | rfl | with_unfolding_all rfl)
    (case tm_Like => first | k_is | rfl | with_unfolding_all rfl)
    (case ta_Low => first | k_is | rfl | with_unfolding_all rfl)
    (case tn_Low => first | k_is | rfl | with_unfolding_all rfl)
    (case tt_Low => first | k_is | rfl | with_unfolding_all rfl)
    (case tm_Low => first | k_is | rfl | with_unfolding_all rfl)
    (case ta_High => first | k_is | rfl | with_unfolding_all rfl)
    (case tn_High => first | k_is | rfl | with_unfolding_all rfl)
    (case tt_High => first | k_is | rfl | with_unfolding_all rfl)
    (case tm_High => first | k_is | rfl | with_unfolding_all rfl)
    (case ta_Sum => first | k_is | rfl | with_unfolding_all rfl)
    (case tn_Sum => first | k_is | rfl | with_unfolding_all rfl)
    (case tt_Sum => first | k_is | rfl | with_unfolding_all rfl)
    (case tm_Sum => first | k_is | rfl | with_unfolding_all rfl)
    (case ta_Numbers => first | k_is | rfl | with_unfolding_all rfl)
    (case tn_Numbers => first | k_is | rfl | with_unfolding_all rfl)
    (case tt_Numbers => first | k_is | rfl | with_unfolding_all rfl)
    (case tm_Numbers => first | k_is | rfl | with_unfolding_all rfl)
    (case ta_Words => first | k_is | rfl | with_unfolding_all rfl)
    (case tn_Words => first | k_is | rfl | with_unfolding_all rfl)
    (case tt_Words => first | k_is | rfl | with_unfolding_all rfl)
    (case tm_Words => first | k_is | rfl | with_unfolding_all rfl)
    (case ta_Table => first | k_is | rfl | with_unfolding_all rfl)
    (case tn_Table => first | k_is | rfl | with_unfolding_all rfl)
    (case tt_Table => first | k_is | rfl | with_unfolding_all rfl)
    (case tm_Table => first | k_is | rfl | with_unfolding_all rfl)
    (case ta_Book => first | k_is | rfl | with_unfolding_all rfl)
    (case tn_Book => first | k_is | rfl | with_unfolding_all rfl)
    (case tt_Book => first | k_is | rfl | with_unfolding_all rfl)
    (case tm_Book => first | k_is | rfl | with_unfolding_all rfl)
    (case na_First_called => first | k_is | rfl | with_unfolding_all rfl)
    (case na_Only_called => first | k_is | rfl | with_unfolding_all rfl)
    (case na_Like_called => first | k_is | rfl | with_unfolding_all rfl)
    (case na_Low_called => first | k_is | rfl | with_unfolding_all rfl)
    (case na_High_called => first | k_is | rfl | with_unfolding_all rfl)
    (case na_Sum_called => first | k_is | rfl | with_unfolding_all rfl)
    (case na_Numbers_low => first | k_is | rfl | with_unfolding_all rfl)
    (case na_Numbers_high => first | k_is | rfl | with_unfolding_all rfl)
    (case na_Numbers_words => first | k_is | rfl | with_unfolding_all rfl)
    (case na_Words_low => first | k_is | rfl | with_unfolding_all rfl)
    (case na_Words_high => first | k_is | rfl | with_unfolding_all rfl)
    (case na_Words_words => first | k_is | rfl | with_unfolding_all rfl)
    (case na_Table_name => first | k_is | rfl | with_unfolding_all rfl)
    (case na_Table_names => first | k_is | rfl | with_unfolding_all rfl)
    (case na_Table_domains => first | k_is | rfl | with_unfolding_all rfl)
    (case na_Table_outcome => first | k_is | rfl | with_unfolding_all rfl)
    (case na_Table_way => first | k_is | rfl | with_unfolding_all rfl)
    (case na_Table_rows => first | k_is | rfl | with_unfolding_all rfl)
    (case na_Book_facts => first | k_is | rfl | with_unfolding_all rfl)
    (case na_Book_tables => first | k_is | rfl | with_unfolding_all rfl)
    (case x_Ring => first | rfl | with_unfolding_all rfl)
    (case l0_Ring => first | k_is | rfl | with_unfolding_all rfl)
    (case l1_Ring => first | k_is | rfl | with_unfolding_all rfl)
    (case l2_Ring => first | k_is | rfl | with_unfolding_all rfl)
    (case l3_Ring => first | k_is | rfl | with_unfolding_all rfl)
    (case l4_Ring => first | k_is | rfl | with_unfolding_all rfl)
    (case l5_Ring => first | k_is | rfl | with_unfolding_all rfl)
    (case l6_Ring => first | k_is | rfl | with_unfolding_all rfl)
    (case l7_Ring => first | k_is | rfl | with_unfolding_all rfl)
    (case f_nn => first | k_is | rfl | with_unfolding_all rfl)
    (case f_wn => first | k_is | rfl | with_unfolding_all rfl)
    (case f_ww => first | k_is | rfl | with_unfolding_all rfl)
    (case f_tt => first | k_is | rfl | with_unfolding_all rfl)
    (case f_nw => first | k_is | rfl | with_unfolding_all rfl)
    (case e2_Ring => first | k_is | rfl | with_unfolding_all rfl)
    (case v1_Ring => first | k_is | rfl | with_unfolding_all rfl)
    (case v2_Ring => first | k_is | rfl | with_unfolding_all rfl)
    (case v3_Ring => first | k_is | rfl | with_unfolding_all rfl)


