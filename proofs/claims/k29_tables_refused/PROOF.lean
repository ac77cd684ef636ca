import PyProof.Rows.All
import Wide.All
import OpenK.AllK
import Wide.FinOn
import Lean
import PyProof.EqAt
import PyProof.EqKinds
import PyProof.TupleCall
import KE.KIntText
import KE.KTryMore
import KE.KIsAll
import PyProof.ZipIter
import KE.KRevIter
import PySem.Challenge.RW_rowjudge_k29_tables_refused
set_option Elab.async false
set_option linter.all false
set_option maxRecDepth 100000
/-! THE HAND LAYER, for ints, bools, texts, own classes, LISTS and tuples (index, slices, in, append, pop ..), calls, loops. Paste it whole ahead of your own text; what your proof does not reach may be deleted. -/
namespace L2
open PySem PySem.Spec PyProof.Rows

/-- a key: an int or a str -/
abbrev Key := Sum Int Str
def keyIs : Key → Value → Bool
  | .inl k, v => Value.isInt k v
  | .inr x, v => Value.isStrOf x v
def keyH (w : World) : Key → Int
  | .inl k => hashInt k
  | .inr x => hashStr w x
theorem keyIs_shape : ∀ {k : Key} {v : Value}, keyIs k v = true → (∃ i t, k = Sum.inl i ∧ v = Value.int i t) ∨ (∃ x t, k = Sum.inr x ∧ v = Value.str x t)
  | .inl i, v, h => by
    obtain ⟨t, e⟩ := Value.isInt_shape (k := i) (v := v) h
    exact .inl ⟨i, t, rfl, e⟩
  | .inr x, v, h => by
    obtain ⟨t, e⟩ := Value.isStrOf_shape (x := x) (v := v) h
    exact .inr ⟨x, t, rfl, e⟩
theorem key_ll (a b : Int) : decide ((Sum.inl a : Key) = Sum.inl b) = (a == b) := by
  by_cases e : a = b
  · subst e; simp
  · have h : ¬ (Sum.inl a : Key) = Sum.inl b := fun q => e (Sum.inl.inj q)
    rw [decide_eq_false h]
    exact (beq_eq_false_iff_ne.mpr e).symm
theorem key_rr (a b : Str) : decide ((Sum.inr a : Key) = Sum.inr b) = decide (a = b) := by
  by_cases e : a = b
  · subst e; simp
  · have h : ¬ (Sum.inr a : Key) = Sum.inr b := fun q => e (Sum.inr.inj q)
    rw [decide_eq_false h, decide_eq_false e]
theorem key_lr (a : Int) (b : Str) : decide ((Sum.inl a : Key) = Sum.inr b) = false := decide_eq_false (fun q => nomatch q)
theorem key_rl (a : Str) (b : Int) : decide ((Sum.inr a : Key) = Sum.inl b) = false := decide_eq_false (fun q => nomatch q)

def mixKind (prog : Program) (w : World) : PySem.KeyKind prog w Key where
  is := keyIs
  hash := keyH w
  inj := fun v a b ha hb => by
    rcases keyIs_shape ha with ⟨i, t, rfl, rfl⟩ | ⟨x, t, rfl, rfl⟩
    · rcases keyIs_shape hb with ⟨j, u, rfl, e⟩ | ⟨y, u, rfl, e⟩
      · injection e with e1 _; rw [e1]
      · exact nomatch e
    · rcases keyIs_shape hb with ⟨j, u, rfl, e⟩ | ⟨y, u, rfl, e⟩
      · exact nomatch e
      · injection e with e1 _; rw [e1]
  byValue := fun k v h => by
    rcases keyIs_shape h with ⟨i, t, rfl, rfl⟩ | ⟨x, t, rfl, rfl⟩ <;> rfl
  pyHash := fun hv h => by
    rcases keyIs_shape hv with ⟨i, t, rfl, rfl⟩ | ⟨x, t, rfl, rfl⟩
    · exact wpAny_pyHash_int h
    · exact wpAny_pyHash_str h
  eqBool := fun hu hv h => by
    rcases keyIs_shape hu with ⟨i, t, rfl, rfl⟩ | ⟨x, t, rfl, rfl⟩
    · rcases keyIs_shape hv with ⟨j, u, rfl, rfl⟩ | ⟨y, u, rfl, rfl⟩
      · rw [key_ll] at h; exact wpAny_eqBool_int h
      · rw [key_lr] at h; exact SeqAt.EqAt.int_str i t y u _ _ _ _ h
    · rcases keyIs_shape hv with ⟨j, u, rfl, rfl⟩ | ⟨y, u, rfl, rfl⟩
      · rw [key_rl] at h; exact SeqAt.EqAt.str_int x t j u _ _ _ _ h
      · rw [key_rr] at h; exact wpAny_eqBool_str h
  «strs» := fun k x t v h => by
    rcases keyIs_shape h with ⟨i, u, rfl, e⟩ | ⟨y, u, rfl, e⟩
    · exact nomatch e
    · injection e with e1 _
      subst e1
      cases v <;> rfl

end L2

namespace L2
open PySem PySem.Spec PyProof.Rows

/-- a value, without the heap -/
inductive V where
  | non | bl (b : Bool) | int (i : Int) | str (x : Str) | byt (b : Array UInt8) | flt (b : UInt64) | ref (a : Addr) | ty (n : String)
  deriving DecidableEq

def RelV : V → Value → Prop
  | .non, u => u = Value.none
  | .bl b, u => u = Value.bool b
  | .int i, u => ∃ t, u = Value.int i t
  | .str x, u => ∃ t, u = Value.str x t
  | .byt b, u => ∃ t, u = Value.bytes b t
  | .flt b, u => ∃ t, u = Value.float b t
  | .ref a, u => u = Value.ref a
  | .ty n, u => u = Value.type n

abbrev Vals : List V → List Value → Prop := Paired RelV
theorem Vals.length {xs : List V} {us : List Value} (r : Vals xs us) : xs.length = us.length := Paired.length r
theorem Vals.get : ∀ {xs : List V} {us : List Value} {i : Nat} {x : V}, Vals xs us → xs[i]? = some x → ∃ u, us[i]? = some u ∧ RelV x u
  | _, _, _, _, .nil, e => by simp at e
  | _, _, 0, _, .cons r _, e => by simp at e; subst e; exact ⟨_, rfl, r⟩
  | _, _, i + 1, x, .cons _ t, e => by
    obtain ⟨u, h1, h2⟩ := Vals.get (i := i) (x := x) t (by simpa using e)
    exact ⟨u, by simpa using h1, h2⟩
theorem Vals.set {x : V} {u : Value} (r : RelV x u) : ∀ {xs : List V} {us : List Value} (i : Nat), Vals xs us → Vals (xs.set i x) (us.set i u)
  | _, _, _, .nil => .nil
  | _, _, 0, .cons _ t => .cons r t
  | _, _, i + 1, .cons q t => .cons q (Vals.set r i t)
theorem Vals.append : ∀ {xs ys : List V} {us ws : List Value}, Vals xs us → Vals ys ws → Vals (xs ++ ys) (us ++ ws)
  | _, _, _, _, .nil, s => s
  | _, _, _, _, .cons r t, s => .cons r (Vals.append t s)
theorem Vals.take : ∀ {xs : List V} {us : List Value} (n : Nat), Vals xs us → Vals (xs.take n) (us.take n)
  | _, _, 0, _ => .nil
  | _, _, _ + 1, .nil => .nil
  | _, _, n + 1, .cons r t => .cons r (Vals.take n t)
theorem Vals.drop : ∀ {xs : List V} {us : List Value} (n : Nat), Vals xs us → Vals (xs.drop n) (us.drop n)
  | _, _, 0, r => r
  | _, _, _ + 1, .nil => .nil
  | _, _, n + 1, .cons _ t => Vals.drop n t
def RelO : Option V → Option Value → Prop
  | some v, some u => RelV v u
  | none, none => True
  | _, _ => False
def KV {κ : Type} : List (κ × V) → List (κ × Value) → Prop := Paired fun (p : κ × V) (q : κ × Value) => p.1 = q.1 ∧ RelV p.2 q.2

/-- a key of a dict (00_mix): an int or a text -/
def kV : Key → V
  | .inl i => .int i
  | .inr x => .str x

/-- what stands at a tracked address -/
inductive HO where
  /-- a list -/
  | lst (xs : List V)
  /-- a tuple (never changes) -/
  | tup (xs : List V)
  /-- a dict whose keys are ints and texts; one whose keys are tuples of ints and texts (the empty one is both) -/
  | dK (kvs : List (Key × V)) | dT (kvs : List (List Key × V))
  /-- a set of ints: its members, its size -/
  | set (S : Int → Bool) (n : Nat)
  /-- an instance of the class at C, its dict at dx, its attributes -/
  | ins (C dx : Addr) (fs : List (Str × V))
  /-- the dict of the instance at x -/
  | own (x : Addr)
  /-- the dict of an exception -/
  | xd (fs : List (Str × V))
  /-- a bound method, f of x -/
  | met (f x : Addr)
  /-- a range object lo, lo + 1, .. below hi -/
  | rng (lo hi : Int)
  /-- a thing that is known to the object (the script; a dict while a loop walks it): read, never written while it is so -/
  | frz (o : Obj) (u : HO)
  /-- a code object's table -/
  | tbl (ps : Array Value)
  /-- any other thing, by what is true of its one object (a def of one's own: SetO a S n := HO.ext fun h => ..) -/
  | ext (φ : Heap → Prop)

abbrev Hp := Addr → Option HO
def upd (H : Hp) (a : Addr) (o : HO) : Hp := fun b => if b = a then some o else H b
theorem upd_same {H : Hp} {a : Addr} {o : HO} : upd H a o a = some o := by unfold upd; rw [if_pos rfl]
theorem upd_ne {H : Hp} {a b : Addr} {o : HO} (h : b ≠ a) : upd H a o b = H b := by unfold upd; rw [if_neg h]
/-- two objects of different content stand apart -/
theorem ne_of {H : Hp} {a b : Addr} {o u : HO} (h : H a = some o) (h' : H b = some u) (d : o ≠ u) : a ≠ b := by
  intro e; subst e; rw [h] at h'; exact d (Option.some.inj h')
theorem ne_of_none {H : Hp} {a b : Addr} {o : HO} (h : H a = some o) (h' : H b = none) : a ≠ b := by
  intro e; subst e; rw [h] at h'; cases h'

section
variable (P : Program) (w : World)
def ObjOk (H : Hp) (h : Heap) (a : Addr) : HO → Prop
  | .lst xs => xs.length ≤ sizeLine ∧ ∃ (its : List Value) (n : Nat), Vals xs its ∧ h.get? a = some { cls := .type "list", data := .seq its.toArray n }
  | .tup xs => xs.length ≤ sizeLine ∧ ∃ its : List Value, Vals xs its ∧ IsTup h a its.toArray
  | .dK kvs => kvs.length ≤ sizeLine ∧ (a == sysModules) = false ∧ ∃ vs, KV kvs vs ∧ h.DictOf (mixKind P w) a vs
  | .dT kvs => kvs.length ≤ sizeLine ∧ (a == sysModules) = false ∧ ∃ xs : List (List Key × Addr × Value),
      Paired (fun (p : List Key × V) (q : List Key × Addr × Value) => p.1 = q.1 ∧ H q.2.1 = some (.tup (p.1.map kV)) ∧ RelV p.2 q.2.2) kvs xs ∧
      ∃ o es ep, h.get? a = some o ∧ o.ExactDict ∧ o.data = .dict es ep ∧ es.toList = xs.map (entryOfKey (tupleKind (mixKind P w))) ∧ (xs.map (·.1)).Nodup
  | .set S n => h.SetOf (intKind P w) a S n
  | .ins C dx fs => H dx = some (.own a) ∧ fs.length ≤ 1000 ∧ dx ≠ a ∧ h.get? a = some (PySem.W.instObj C dx) ∧
      ∃ mA, h.Ns1 dx mA ∧ (∀ f, RelO (fs.lookup f) (mA f)) ∧ PySem.Within mA (fs.map (·.1))
  | .own _ => ∃ o, h.get? a = some o
  | .xd fs => ∃ mA, h.Ns1 a mA ∧ ∀ f, RelO (fs.lookup f) (mA f)
  | .rng lo hi => ∃ t u v, h.get? a = some { cls := .type "range", data := .fields #[.int lo t, .int hi u, .int 1 v] }
  | .frz o u => h.get? a = some o ∧ ObjOk H h a u
  | .tbl ps => h.get? a = some { cls := .none, data := .fields ps }
  | .met f x => h.get? a = some (PySem.W.methodObj (.ref f) (.ref x))
  | .ext φ => φ h ∧ (∃ o, h.get? a = some o) ∧ ∀ h1 h2 : Heap, φ h1 → (∀ o, h1.get? a = some o → h2.get? a = some o) → φ h2
/-- the abstract heap is held -/
def HOk (H : Hp) (h : Heap) : Prop := ∀ a o, H a = some o → ObjOk P w H h a o
end

section
variable {P : Program} {w : World} {H H' : Hp} {h h' : Heap} {a : Addr} {o : HO}
theorem ObjOk.lt (x : ObjOk P w H h a o) : a < h.objs.size := by
  cases o with
  | lst xs => obtain ⟨_, _, _, _, e⟩ := x; exact Heap.lt_size e
  | tup xs => obtain ⟨_, _, _, p⟩ := x; exact p.lt
  | dK kvs => obtain ⟨_, _, _, _, o, _, _, e, _⟩ := x; exact Heap.lt_size e
  | dT kvs => obtain ⟨_, _, _, _, o, _, _, e, _⟩ := x; exact Heap.lt_size e
  | set S n => obtain ⟨o, _, _, _, e, _⟩ := x; exact Heap.lt_size e
  | ins C dx fs => obtain ⟨_, _, _, e, _⟩ := x; exact Heap.lt_size e
  | own y => obtain ⟨_, e⟩ := x; exact Heap.lt_size e
  | xd fs => obtain ⟨_, ⟨_, _, _, e, _⟩, _⟩ := x; exact Heap.lt_size e
  | rng lo hi => obtain ⟨_, _, _, e⟩ := x; exact Heap.lt_size e
  | frz ob u => obtain ⟨e, _⟩ := x; exact Heap.lt_size e
  | tbl ps => exact Heap.lt_size (show h.get? a = some _ from x)
  | met f y => exact Heap.lt_size (show h.get? a = some _ from x)
  | ext φ => obtain ⟨_, ⟨_, e⟩, _⟩ := x; exact Heap.lt_size e
theorem Paired.mapP {α β : Type} {F G : α → β → Prop} : ∀ {l₁ : List α} {l₂ : List β}, Paired F l₁ l₂ → (∀ a b, F a b → G a b) → Paired G l₁ l₂
  | _, _, .nil, _ => .nil
  | _, _, .cons r t, f => .cons (f _ _ r) (Paired.mapP t f)
/-- what an object's description leans on: its own object, its own dict, the tuples -/
theorem ObjOk.stay (x : ObjOk P w H h a o) (k : ∀ b u, (b = a ∨ H b = some (.own a)) → h.get? b = some u → h'.get? b = some u)
    (ho : ∀ b, H b = some (.own a) → H' b = some (.own a)) (ht : ∀ b xs, H b = some (.tup xs) → H' b = some (.tup xs)) : ObjOk P w H' h' a o := by
  induction o with
  | lst xs => obtain ⟨z, its, n, r, e⟩ := x; exact ⟨z, its, n, r, k _ _ (.inl rfl) e⟩
  | tup xs => obtain ⟨z, its, r, ob, e, c⟩ := x; exact ⟨z, its, r, ob, k _ _ (.inl rfl) e, c⟩
  | dK kvs => obtain ⟨z, y, vs, r, ob, es, ep, e, c⟩ := x; exact ⟨z, y, vs, r, ob, es, ep, k _ _ (.inl rfl) e, c⟩
  | dT kvs =>
    obtain ⟨z, y, xs, r, ob, es, ep, e, c⟩ := x
    exact ⟨z, y, xs, Paired.mapP r fun p q z => ⟨z.1, ht _ _ z.2.1, z.2.2⟩, ob, es, ep, k _ _ (.inl rfl) e, c⟩
  | set S n => obtain ⟨ob, es, ep, t, e, c⟩ := x; exact ⟨ob, es, ep, t, k _ _ (.inl rfl) e, c⟩
  | ins C dx fs =>
    obtain ⟨d, z, ne, e, mA, ⟨od, es, ep, e2, c⟩, r⟩ := x
    exact ⟨ho _ d, z, ne, k _ _ (.inl rfl) e, mA, ⟨od, es, ep, k _ _ (.inr d) e2, c⟩, r⟩
  | own y => obtain ⟨ob, e⟩ := x; exact ⟨ob, k _ _ (.inl rfl) e⟩
  | xd fs => obtain ⟨mA, ⟨od, es, ep, e, c⟩, r⟩ := x; exact ⟨mA, ⟨od, es, ep, k _ _ (.inl rfl) e, c⟩, r⟩
  | rng lo hi => obtain ⟨t, u, v, e⟩ := x; exact ⟨t, u, v, k _ _ (.inl rfl) e⟩
  | frz ob u ih => obtain ⟨e, q⟩ := x; exact ⟨k _ _ (.inl rfl) e, ih q⟩
  | tbl ps =>
    have e : h.get? a = some { cls := .none, data := .fields ps } := x
    show h'.get? a = some { cls := .none, data := .fields ps }
    exact k a _ (.inl rfl) e
  | met f y =>
    have e : h.get? a = some (PySem.W.methodObj (.ref f) (.ref y)) := x
    show h'.get? a = some (PySem.W.methodObj (.ref f) (.ref y))
    exact k a _ (.inl rfl) e
  | ext φ => obtain ⟨p, ⟨o, e⟩, st⟩ := x; exact ⟨st _ _ p fun o q => k _ _ (.inl rfl) q, ⟨o, k _ _ (.inl rfl) e⟩, st⟩
theorem HOk.lt (x : HOk P w H h) (e : H a = some o) : a < h.objs.size := (x a o e).lt
theorem HOk.fresh (x : HOk P w H h) (e : h.objs.size ≤ a) : H a = none := by
  cases q : H a with
  | none => rfl
  | some u => exact absurd (Nat.lt_of_lt_of_le (x.lt q) e) (Nat.lt_irrefl _)
/-- every object of the heap is kept -/
theorem HOk.kept (x : HOk P w H h) (k : ∀ b u, h.get? b = some u → h'.get? b = some u) : HOk P w H h' := fun a o e =>
  (x a o e).stay (fun b u _ q => k b u q) (fun _ q => q) fun _ _ q => q
/-- a new object is laid and tracked -/
theorem HOk.laid (x : HOk P w H h) (k : ∀ b u, h.get? b = some u → h'.get? b = some u) (hp : h.objs.size ≤ a) (new : ObjOk P w (upd H a o) h' a o) : HOk P w (upd H a o) h' := fun b u e => by
  have hn := x.fresh hp
  by_cases hb : b = a
  · subst hb; rw [upd_same] at e; cases e; exact new
  · rw [upd_ne hb] at e
    exact (x b u e).stay (fun c v _ q => k c v q) (fun c q => by rw [upd_ne (ne_of_none q hn)]; exact q) fun c xs q => by rw [upd_ne (ne_of_none q hn)]; exact q
end

/-- what may be read as u: it is u, or a known u -/
def Rd (H : Hp) (a : Addr) (u : HO) : Prop := H a = some u ∨ ∃ o, H a = some (.frz o u)
theorem Rd.ok {P : Program} {w : World} {H : Hp} {h : Heap} {a : Addr} {u : HO} (r : Rd H a u) (x : HOk P w H h) : ObjOk P w H h a u := by
  rcases r with r | ⟨o, r⟩
  · exact x a u r
  · obtain ⟨_, q⟩ := x a _ r
    exact q
/-- what may be written -/
def Mut : Option HO → Prop
  | some (.lst _) => True
  | some (.dK _) => True
  | some (.dT _) => True
  | some (.set _ _) => True
  | some (.ins _ _ _) => True
  | some (.ext _) => True
  | _ => False
section
variable {P : Program} {w : World} {H : Hp} {h h' : Heap} {x e : Addr} {o' : HO}
/-- the object at e is changed: x itself, or the dict of the instance x -/
theorem HOk.write (ok : HOk P w H h) (mu : Mut (H x)) (he : e = x ∨ H e = some (.own x)) (k : ∀ b u, b ≠ e → h.get? b = some u → h'.get? b = some u) (heo : ∃ u, h'.get? e = some u)
    (new : ObjOk P w (upd H x o') h' x o') : HOk P w (upd H x o') h' := fun b u q => by
  have nown : ∀ c y, H c = some (.own y) → c ≠ x := fun c y r z => by subst z; rw [r] at mu; exact mu
  have ntup : ∀ c xs, H c = some (.tup xs) → c ≠ x := fun c xs r z => by subst z; rw [r] at mu; exact mu
  by_cases hb : b = x
  · subst hb; rw [upd_same] at q; cases q; exact new
  · rw [upd_ne hb] at q
    by_cases hbe : b = e
    · have q' : H b = some (.own x) := by
        rcases he with z | z
        · exact absurd (hbe.trans z) hb
        · rw [hbe]; exact z
      rw [q] at q'; cases q'
      obtain ⟨v, hv⟩ := heo
      exact ⟨v, by rw [hbe]; exact hv⟩
    · refine (ok b u q).stay (fun c v hc r => k c v ?_ r) (fun c r => by rw [upd_ne (nown c b r)]; exact r) fun c xs r => by rw [upd_ne (ntup c xs r)]; exact r
      rcases hc with rfl | hc
      · exact hbe
      · rintro rfl
        rcases he with z | z
        · exact nown c b hc z
        · rw [hc] at z; cases z; exact hb rfl
end

/-! ### kept unless tracked; of the frames at fs (the callers') the slots may change (an exception that passes writes there); of the records at ex (iterators) nothing is said -/
structure Un (fs ex : List Addr) (H H' : Hp) (h h' : Heap) : Prop where
  keep : ∀ b o, h.get? b = some o → H b = none → b ∉ fs → b ∉ ex → h'.get? b = some o
  slot : ∀ b o, h.get? b = some o → H b = none → b ∈ fs → b ∉ ex → ∃ sl, h'.get? b = some { o with slots := sl }
  free : ∀ b o, h.get? b = some o → H b = none → b ∉ ex → H' b = none
  there : ∀ b o, h.get? b = some o → b ∉ ex → ∃ o', h'.get? b = some o'
  tups : ∀ b xs, H b = some (.tup xs) → H' b = some (.tup xs)
  frzs : ∀ b o u, H b = some (.frz o u) → H' b = some (.frz o u)
  tbls : ∀ b ps, H b = some (.tbl ps) → ∃ more, H' b = some (.tbl (ps ++ more))
section
variable {fs fs' ex ex' : List Addr} {H H1 H2 : Hp} {h h1 h2 h' : Heap} {a x e : Addr} {o : HO}
theorem Un.any (u : Un fs ex H H1 h h1) {b : Addr} {ob : Obj} (q : h.get? b = some ob) (n : H b = none) (hx : b ∉ ex) : ∃ sl, h1.get? b = some { ob with slots := sl } := by
  by_cases hb : b ∈ fs
  · exact u.slot b ob q n hb hx
  · exact ⟨ob.slots, u.keep b ob q n hb hx⟩
theorem Un.kept (k : ∀ b u, h.get? b = some u → h'.get? b = some u) : Un fs ex H H h h' :=
  ⟨fun b ob q _ _ _ => k b ob q, fun b ob q _ _ _ => ⟨ob.slots, k b ob q⟩, fun _ _ _ n _ => n, fun b ob q _ => ⟨ob, k b ob q⟩, fun _ _ q => q, fun _ _ _ q => q, fun _ ps q => ⟨#[], by rw [q]; simp⟩⟩
theorem Un.refl : Un fs ex H H h h := Un.kept fun _ _ q => q
theorem Un.laid (k : ∀ b u, h.get? b = some u → h'.get? b = some u) (hp : h.objs.size ≤ a) (hn : H a = none) : Un fs ex H (upd H a o) h h' where
  keep := fun b u q _ _ _ => k b u q
  slot := fun b u q _ _ _ => ⟨u.slots, k b u q⟩
  free := fun b u q n _ => by rw [upd_ne (Nat.ne_of_lt (Nat.lt_of_lt_of_le (Heap.lt_size q) hp))]; exact n
  there := fun b u q _ => ⟨u, k b u q⟩
  tups := fun b xs q => by rw [upd_ne (ne_of_none q hn)]; exact q
  frzs := fun b u xs q => by rw [upd_ne (ne_of_none q hn)]; exact q
  tbls := fun b ps q => ⟨#[], by rw [upd_ne (ne_of_none q hn), q]; simp⟩
theorem Un.write (mu : Mut (H x)) (he : e = x ∨ H e = some (.own x)) (k : ∀ b u, b ≠ e → h.get? b = some u → h'.get? b = some u) (heo : ∃ u, h'.get? e = some u) : Un fs ex H (upd H x o) h h' := by
  have hx : ∀ b, H b = none → b ≠ x := fun b n z => by subst z; rw [n] at mu; exact mu
  have hb : ∀ b, H b = none → b ≠ e := fun b n z => by
    subst z
    rcases he with r | r
    · exact hx b n r
    · rw [n] at r; cases r
  have hm : ∀ b u, H b = some u → ¬ Mut (some u) → b ≠ x := fun b u q nm z => by subst z; rw [q] at mu; exact nm mu
  refine ⟨fun b u q n _ _ => k b u (hb b n) q, fun b u q n _ _ => ⟨u.slots, k b u (hb b n) q⟩, fun b u q n _ => by rw [upd_ne (hx b n)]; exact n, fun b u q _ => ?_,
    fun b xs q => by rw [upd_ne (hm b _ q fun z => z)]; exact q, fun b u xs q => by rw [upd_ne (hm b _ q fun z => z)]; exact q, fun b ps q => ⟨#[], by rw [upd_ne (hm b _ q fun z => z), q]; simp⟩⟩
  by_cases hbe : b = e
  · subst hbe; exact heo
  · exact ⟨u, k b u hbe q⟩
end

/-! ### the heap without what is tracked -/
def trk (h : Heap) (H : Hp) : List Addr := (List.range h.objs.size).filter fun a => (H a).isSome
def hidT (h : Heap) (H : Hp) : Heap := PySem.W.hideAll h (trk h H)
theorem hidT_size (h : Heap) (H : Hp) : (hidT h H).objs.size = h.objs.size := PySem.W.hideAll_size _ _
theorem hidT_get {h : Heap} {H : Hp} {b : Addr} {o : Obj} (e : h.get? b = some o) (n : H b = none) : (hidT h H).get? b = some o :=
  PySem.W.hideAll_get _ e fun hm => by
    have q : (H b).isSome = true := (List.mem_filter.mp hm).2
    rw [n] at q; simp at q
theorem of_hidT {h : Heap} {H : Hp} {b : Addr} {o : Obj} (e : (hidT h H).get? b = some o) : h.get? b = some o ∧ H b = none := by
  have e' : h.get? b = some o := PySem.W.of_hideAll (trk h H) e
  refine ⟨e', ?_⟩
  cases q : H b with
  | none => rfl
  | some x =>
    have hm : b ∈ trk h H := List.mem_filter.mpr ⟨List.mem_range.mpr (Heap.lt_size e'), by simp [q]⟩
    have z : (hidT h H).get? b = none := PySem.W.hideAll_none (trk h H) hm
    rw [z] at e; cases e

/-! ### OpenK's ledger, filled with every new object but one -/
def allNews (g h : Heap) (L : Addr) : List (Addr × Obj) := (List.range h.objs.size).filterMap fun a => if a = L ∨ (g.get? a).isSome = true then none else (h.get? a).map fun o => (a, o)
def rest (g h : Heap) (L d : Addr) : List (Addr × Obj) := (allNews g h L).filter fun p => decide (p.1 ≠ d)
end L2

namespace L2
open PySem PySem.Spec PyProof.Rows

/-- the module's facts, over the base: the heap at the law's entry without what is tracked there -/
structure Mod (K : PySem.W.Frag) (mg : Str → Option Value) (base : Heap) : Prop where
  kin : K.In base
  glob : base.Ns mainGlobals mg
  blt : ∃ mb, base.Ns builtinsNs mb ∧ ∀ x : Str, x ≠ "__name__" → mb x = bootBuiltins x
  nolimit : base.NoLimit

/-- the context: a def's body (or a comprehension's block) running. base: fixed through the whole law; s₀, H₀: the entry; outer: the frames whose slots others may change (a def's callers); stack: all frames that run;
   ex: iterators that were made ahead of the entry and are walked here (a comprehension's); fn: the names whose cells were made at the entry (a def: all; a comprehension's block: its own); calm: not within an except suite; pn: pins that every state bears; xe: what is wanted of an exception that leaves the code -/
structure Cx where
  prog : Program
  w : World
  K : PySem.W.Frag
  mg : Str → Option Value
  base : Heap
  A : Around
  N : List Str
  s₀ : Shared
  H₀ : Hp
  env : Env
  outer : List Env
  stack : List Env
  ex : List Addr
  fn : Str → Bool
  calm : Bool
  pn : List (Addr × Obj)
  xe : Value → Shared → Prop
/-- the callers' frames -/
def frs (l : List Env) : List Addr := l.filterMap (·.frame)
abbrev Cx.fs (X : Cx) : List Addr := frs X.outer

def Vis (sc : Scope) (x : Str) : Prop := sc.names.lookup x = some .local ∨ sc.names.lookup x = some .cell ∨ sc.names.lookup x = some .free
def Loc (sc : Scope) (x : Str) : Prop := sc.names.lookup x = some .local ∨ sc.names.lookup x = some .cell
def Look (env : Env) (h : Heap) (m : Str → Option Value) (x : Str) (u : Value) : Prop :=
  (env.kindOf x = some .local ∧ m x = some u) ∨ ((env.kindOf x = some .cell ∨ env.kindOf x = some .free) ∧ ∃ c, env.cells.lookup x = some c ∧ h.IsCell c (some u))

structure Cx.Ok (X : Cx) : Prop where
  mod : Mod X.K X.mg X.base
  kind : X.env.scope.kind = .function
  glob : X.env.globals = mainGlobals
  blt : X.env.builtins = builtinsNs
  above : X.s₀.heap.objs.size ≤ X.env.locals
  inj : ∀ x y c, X.env.cells.lookup x = some c → X.env.cells.lookup y = some c → x = y
  has : ∀ x, (X.env.kindOf x = some .cell ∨ X.env.kindOf x = some .free) → ∃ c, X.env.cells.lookup x = some c
  cab : ∀ x c, X.fn x = true → X.env.cells.lookup x = some c → X.s₀.heap.objs.size ≤ c
  hd : X.calm = true → X.A.handled = none
  frames : X.A.frames = some X.stack
  stk : X.stack = X.outer ∨ (X.stack = X.env :: X.outer ∧ X.env.frame = some X.env.locals)
  exf : ∀ b ∈ X.ex, b ≠ X.env.locals ∧ ∀ x c, X.env.cells.lookup x = some c → c ≠ b
  bs : ∀ b o, X.base.get? b = some o → X.s₀.heap.get? b = some o ∧ X.H₀ b = none
  bsz : X.base.objs.size ≤ X.s₀.heap.objs.size
  noex : ∀ b o, X.base.get? b = some o → b ∉ X.ex
  exfs : ∀ b ∈ X.ex, b ∉ X.fs
  funs : X.s₀.heap.FunFrames X.base X.outer
  frf : ∀ b ∈ X.fs, X.H₀ b = none

structure Inv (X : Cx) (pins : List (Addr × Obj)) (σ : List (Option V)) (H : Hp) (s : Shared) : Prop where
  ok : X.Ok
  os : s.os = X.s₀.os
  bare : AllBare s.gens
  base : Un X.fs X.ex X.H₀ H X.s₀.heap s.heap
  loc : ∃ m, s.heap.Ns X.env.locals m ∧ ∀ (i : Nat) (x : Str) (v : V), X.N[i]? = some x → σ[i]? = some (some v) → Vis X.env.scope x → ∃ u, RelV v u ∧ Look X.env s.heap m x u
  cell : ∀ x c, X.env.cells.lookup x = some c → ∃ v, s.heap.IsCell c v
  free : H X.env.locals = none
  freeC : ∀ x c, X.env.cells.lookup x = some c → H c = none
  pin : ∀ p ∈ X.pn ++ pins, s.heap.get? p.1 = some p.2 ∧ H p.1 = none ∧ p.1 ≠ X.env.locals ∧ p.1 ∉ X.fs ∧ ∀ v, p.2.data ≠ .cell v
  hok : HOk X.prog X.w H s.heap
  len : σ.length = X.N.length

section
variable {X : Cx} {pins : List (Addr × Obj)} {σ : List (Option V)} {H H' : Hp} {s : Shared} {h' : Heap}

theorem Cx.Ok.nofr (ok : X.Ok) {b : Addr} {o : Obj} (e : X.base.get? b = some o) : b ∉ X.fs := fun hb => by
  have := (ok.funs.mem hb).1
  rw [e] at this; cases this
theorem Inv.bs (I : Inv X pins σ H s) : ∀ b o, X.base.get? b = some o → s.heap.get? b = some o ∧ H b = none := fun b o e =>
  ⟨I.base.keep b o (I.ok.bs b o e).1 (I.ok.bs b o e).2 (I.ok.nofr e) (I.ok.noex b o e), I.base.free b o (I.ok.bs b o e).1 (I.ok.bs b o e).2 (I.ok.noex b o e)⟩
theorem Inv.bk (I : Inv X pins σ H s) : ∀ b o, X.base.get? b = some o → s.heap.get? b = some o := fun b o e => (I.bs b o e).1
theorem Inv.mod (I : Inv X pins σ H s) : Mod X.K X.mg X.base := I.ok.mod
theorem Inv.kIn (I : Inv X pins σ H s) : X.K.In s.heap := I.ok.mod.kin.keeps I.bk
theorem Inv.lt (I : Inv X pins σ H s) : X.env.locals < s.heap.objs.size := let ⟨_, hn, _⟩ := I.loc; hn.lt
theorem Inv.sz (I : Inv X pins σ H s) : X.s₀.heap.objs.size ≤ s.heap.objs.size := Nat.le_trans I.ok.above (Nat.le_of_lt I.lt)
theorem Inv.nofs (I : Inv X pins σ H s) {a : Addr} (h : s.heap.objs.size ≤ a) : a ∉ X.fs := fun hb => by
  obtain ⟨_, o, ho, _⟩ := I.ok.funs.mem hb
  exact absurd (Nat.lt_of_lt_of_le (Heap.lt_size ho) (Nat.le_trans I.sz h)) (Nat.lt_irrefl _)
theorem Inv.cne (I : Inv X pins σ H s) : ∀ x c, X.env.cells.lookup x = some c → c ≠ X.env.locals := fun x c e z => by
  obtain ⟨v, o, ho, hd⟩ := I.cell x c e
  obtain ⟨m, ⟨o', es, ep, ho', hd', _⟩, _⟩ := I.loc
  rw [z, ho'] at ho; cases ho; rw [hd'] at hd; cases hd
theorem Inv.funs (I : Inv X pins σ H s) : s.heap.FunFrames X.base X.outer := by
  have all : ∀ (l : List Env), (∀ b ∈ frs l, b ∈ X.fs) → X.s₀.heap.FunFrames X.base l → s.heap.FunFrames X.base l := by
    intro l
    induction l with
    | nil => intro _ _; trivial
    | cons env r ih =>
      intro hs hl
      obtain ⟨hk, ⟨L, o, hf, hn, ho, hd⟩, hr⟩ := hl
      have hL : L ∈ X.fs := hs L (by unfold frs; rw [List.filterMap_cons, hf]; exact List.mem_cons_self)
      obtain ⟨sl, e⟩ := I.base.slot L o ho (I.ok.frf L hL) hL fun z => I.ok.exfs L z hL
      exact ⟨hk, ⟨L, _, hf, hn, e, hd⟩, ih (fun b hb => hs b (by unfold frs; rw [List.filterMap_cons, hf]; exact List.mem_cons_of_mem _ hb)) hr⟩
  exact all X.outer (fun _ hb => hb) I.ok.funs

/-- the frames that run, for a call -/
theorem Inv.stack (I : Inv X pins σ H s) : s.heap.FunFrames X.base X.stack := by
  rcases I.ok.stk with e | ⟨e, hf⟩
  · rw [e]; exact I.funs
  · rw [e]
    obtain ⟨m, hn, _⟩ := I.loc
    refine .cons (by rw [I.ok.kind]; decide) hf hn ?_ I.funs
    exact Heap.get?_none_of_le (Nat.le_trans I.ok.bsz I.ok.above)
theorem Inv.stkSub (I : Inv X pins σ H s) : ∀ b ∈ frs X.stack, b ∈ X.env.locals :: X.fs := fun b hb => by
  rcases I.ok.stk with e | ⟨e, hf⟩
  · rw [e] at hb; exact List.mem_cons_of_mem _ hb
  · rw [e] at hb
    unfold frs at hb
    rw [List.filterMap_cons, hf] at hb
    exact hb
theorem Inv.stkFree (I : Inv X pins σ H s) : ∀ b ∈ frs X.stack, H b = none := fun b hb => by
  rcases List.mem_cons.mp (I.stkSub b hb) with e | hb
  · rw [e]; exact I.free
  · obtain ⟨_, o, ho, _⟩ := I.ok.funs.mem hb
    exact I.base.free b o ho (I.ok.frf b hb) fun z => I.ok.exfs b z hb

/-- THE STEP: the untracked objects but the frame and the records at ch are kept (the callers' frames up to slots), the frame's map is kept, the new abstract heap is held -/
theorem Inv.step {g' : Array GenState} {t' : Nat} {d' : Drawn} {ch : List Addr} (I : Inv X pins σ H s)
    (hch : ∀ b ∈ ch, (b ∈ X.ex ∨ X.s₀.heap.objs.size ≤ b) ∧ b ≠ X.env.locals ∧ (∀ x c, X.env.cells.lookup x = some c → c ≠ b) ∧ ∀ p ∈ X.pn ++ pins, p.1 ≠ b)
    (keep : ∀ b o, b ≠ X.env.locals → b ∉ X.fs → b ∉ ch → s.heap.get? b = some o → H b = none → h'.get? b = some o)
    (slot : ∀ b o, b ≠ X.env.locals → b ∈ X.fs → b ∉ ch → s.heap.get? b = some o → H b = none → ∃ sl, h'.get? b = some { o with slots := sl }) (free : ∀ b o, b ∉ ch → s.heap.get? b = some o → H b = none → H' b = none)
    (there : ∀ b o, b ∉ ch → s.heap.get? b = some o → ∃ o', h'.get? b = some o')
    (tups : ∀ b xs, H b = some (.tup xs) → H' b = some (.tup xs)) (frzs : ∀ b o u, H b = some (.frz o u) → H' b = some (.frz o u)) (tbls : ∀ b ps, H b = some (.tbl ps) → ∃ more, H' b = some (.tbl (ps ++ more)))
    (ns : ∀ m, s.heap.Ns X.env.locals m → h'.Ns X.env.locals m) (hok : HOk X.prog X.w H' h') (hg : AllBare g') :
    Inv X pins σ H' { s with heap := h', gens := g', drawn := d', toks := t' } := by
  have neL : ∀ b o, X.s₀.heap.get? b = some o → b ≠ X.env.locals := fun b o e => Nat.ne_of_lt (Nat.lt_of_lt_of_le (Heap.lt_size e) I.ok.above)
  have neC : ∀ b o, X.s₀.heap.get? b = some o → b ∉ X.ex → b ∉ ch := fun b o e hx hb => by
    rcases (hch b hb).1 with z | z
    · exact hx z
    · exact absurd (Nat.lt_of_lt_of_le (Heap.lt_size e) z) (Nat.lt_irrefl _)
  have cellK : ∀ x c, X.env.cells.lookup x = some c → ∀ v, s.heap.IsCell c v → h'.IsCell c v := fun x c e v ⟨o, ho, hd⟩ => by
    have nch : c ∉ ch := fun z => (hch c z).2.2.1 x c e rfl
    by_cases hc : c ∈ X.fs
    · obtain ⟨sl, q⟩ := slot c o (I.cne x c e) hc nch ho (I.freeC x c e)
      exact ⟨_, q, hd⟩
    · exact ⟨o, keep c o (I.cne x c e) hc nch ho (I.freeC x c e), hd⟩
  refine ⟨I.ok, I.os, hg, ⟨fun b o e n hb hx => ?_, fun b o e n hb hx => ?_, fun b o e n hx => ?_, fun b o e hx => ?_, fun b xs e => tups b xs (I.base.tups b xs e), fun b o xs e => frzs b o xs (I.base.frzs b o xs e), fun b ps e => ?_⟩, ?_, fun x c e => ?_, ?_, fun x c e => ?_, fun p hp => ?_, hok, I.len⟩
  · exact keep b o (neL b o e) hb (neC b o e hx) (I.base.keep b o e n hb hx) (I.base.free b o e n hx)
  · obtain ⟨sl, e1⟩ := I.base.slot b o e n hb hx
    obtain ⟨sl', e2⟩ := slot b _ (neL b o e) hb (neC b o e hx) e1 (I.base.free b o e n hx)
    exact ⟨sl', e2⟩
  · obtain ⟨o', e1⟩ := I.base.there b o e hx
    exact free b o' (neC b o e hx) e1 (I.base.free b o e n hx)
  · obtain ⟨o', e1⟩ := I.base.there b o e hx
    exact there b o' (neC b o e hx) e1
  · obtain ⟨m1, e1⟩ := I.base.tbls b ps e
    obtain ⟨m2, e2⟩ := tbls b _ e1
    exact ⟨m1 ++ m2, by rw [e2, Array.append_assoc]⟩
  · obtain ⟨m, hn, hl⟩ := I.loc
    refine ⟨m, ns m hn, fun i x v e1 e2 e3 => ?_⟩
    obtain ⟨u, r, l⟩ := hl i x v e1 e2 e3
    refine ⟨u, r, ?_⟩
    rcases l with l | ⟨k, c, e, z⟩
    · exact .inl l
    · exact .inr ⟨k, c, e, cellK x c e _ z⟩
  · obtain ⟨v, z⟩ := I.cell x c e
    exact ⟨v, cellK x c e v z⟩
  · obtain ⟨m, ⟨o, _, _, ho, _⟩, _⟩ := I.loc
    exact free _ o (fun z => (hch _ z).2.1 rfl) ho I.free
  · obtain ⟨v, o, ho, hd⟩ := I.cell x c e
    exact free c o (fun z => (hch c z).2.2.1 x c e rfl) ho (I.freeC x c e)
  · obtain ⟨e, n, ne, nf, d⟩ := I.pin p hp
    have nch : p.1 ∉ ch := fun z => (hch p.1 z).2.2.2 p hp rfl
    exact ⟨keep p.1 p.2 ne nf nch e n, free p.1 p.2 nch e n, ne, nf, d⟩
/-- .. where the frame's own object is kept too -/
theorem Inv.un {t' : Nat} (I : Inv X pins σ H s) (u : Un X.fs [] H H' s.heap h') (hok : HOk X.prog X.w H' h') : Inv X pins σ H' { s with heap := h', toks := t' } := by
  obtain ⟨m, ⟨o, es, ep, ho, r⟩, _⟩ := id I.loc
  obtain ⟨sl, hL⟩ := u.any ho I.free (by simp)
  exact I.step (g' := s.gens) (d' := s.drawn) (ch := []) (fun _ z => nomatch z) (fun b o _ hb _ e n => u.keep b o e n hb (by simp)) (fun b o _ hb _ e n => u.slot b o e n hb (by simp)) (fun b o _ e n => u.free b o e n (by simp)) (fun b o _ e => u.there b o e (by simp)) u.tups u.frzs u.tbls (fun m' hm => by
    obtain ⟨o', es', ep', ho', r'⟩ := hm
    rw [ho] at ho'; cases ho'
    exact ⟨_, es', ep', hL, r'⟩) hok I.bare
/-- behind a call (or a comprehension's block): the slots of this frame may have changed too, the records at ch may have turned -/
theorem Inv.call {g' : Array GenState} {t' : Nat} {d' : Drawn} {ch : List Addr} (I : Inv X pins σ H s) (u : Un (frs X.stack) ch H H' s.heap h') (hok : HOk X.prog X.w H' h') (hg : AllBare g')
    (hch : ∀ b ∈ ch, (b ∈ X.ex ∨ X.s₀.heap.objs.size ≤ b) ∧ b ≠ X.env.locals ∧ (∀ x c, X.env.cells.lookup x = some c → c ≠ b) ∧ ∀ p ∈ X.pn ++ pins, p.1 ≠ b) :
    Inv X pins σ H' { s with heap := h', gens := g', drawn := d', toks := t' } := by
  obtain ⟨m, ⟨o, es, ep, ho, r⟩, _⟩ := id I.loc
  obtain ⟨sl, hL⟩ := u.any ho I.free fun z => (hch _ z).2.1 rfl
  exact I.step (ch := ch) hch (fun b o hL hb hc e n => u.keep b o e n (fun z => (List.mem_cons.mp (I.stkSub b z)).elim hL hb) hc) (fun b o _ _ hc e n => u.any e n hc) (fun b o hc e n => u.free b o e n hc) (fun b o hc e => u.there b o e hc) u.tups u.frzs u.tbls (fun m' hm => by
    obtain ⟨o', es', ep', ho', r'⟩ := hm
    rw [ho] at ho'; cases ho'
    exact ⟨_, es', ep', hL, r'⟩) hok hg
/-- an untracked record of ours (an iterator) has turned -/
theorem Inv.turned {t' : Nat} {it : Addr} (I : Inv X pins σ H s) (k : ∀ b o, b ≠ it → s.heap.get? b = some o → h'.get? b = some o) (hn : H it = none) (hL : it ≠ X.env.locals)
    (h1 : it ∈ X.ex ∨ X.s₀.heap.objs.size ≤ it) (h2 : ∀ x c, X.env.cells.lookup x = some c → c ≠ it) (h3 : ∀ p ∈ X.pn ++ pins, p.1 ≠ it) : Inv X pins σ H { s with heap := h', toks := t' } := by
  have nit : ∀ b u, H b = some u → b ≠ it := fun b u e z => by rw [z, hn] at e; cases e
  refine I.step (g' := s.gens) (d' := s.drawn) (ch := [it]) (fun b hb => ?_) (fun b o _ _ hc e _ => k b o (fun z => hc (by simp [z])) e) (fun b o _ _ hc e _ => ⟨o.slots, k b o (fun z => hc (by simp [z])) e⟩) (fun _ _ _ _ n => n)
    (fun b o hc e => ⟨o, k b o (fun z => hc (by simp [z])) e⟩) (fun _ _ e => e) (fun _ _ _ e => e) (fun b ps e => ⟨#[], by rw [e]; simp⟩) (fun m hm => ?_) (fun b u e => ?_) I.bare
  · have e : b = it := by simpa using hb
    subst e
    exact ⟨h1, hL, h2, h3⟩
  · obtain ⟨o, es, ep, ho, r⟩ := hm
    exact ⟨o, es, ep, k _ o (Ne.symm hL) ho, r⟩
  · refine (I.hok b u e).stay (fun c v hc q => k c v ?_ q) (fun _ q => q) fun _ _ q => q
    rcases hc with z | z
    · rw [z]; exact nit b u e
    · exact nit c _ z
theorem Inv.tok (I : Inv X pins σ H s) (t : Nat) : Inv X pins σ H { s with toks := t } := I.un (h' := s.heap) (t' := t) Un.refl I.hok
/-- all objects kept -/
theorem Inv.kept {t' : Nat} (I : Inv X pins σ H s) (k : ∀ b u, s.heap.get? b = some u → h'.get? b = some u) : Inv X pins σ H { s with heap := h', toks := t' } := I.un (Un.kept k) (I.hok.kept k)
/-- a new object laid and tracked -/
theorem Inv.laid {a : Addr} {o : HO} {t' : Nat} (I : Inv X pins σ H s) (k : ∀ b u, s.heap.get? b = some u → h'.get? b = some u) (hp : s.heap.objs.size ≤ a) (new : ObjOk X.prog X.w (upd H a o) h' a o) :
    Inv X pins σ (upd H a o) { s with heap := h', toks := t' } := I.un (Un.laid k hp (I.hok.fresh hp)) (I.hok.laid k hp new)
/-- an object written -/
theorem Inv.write {x e : Addr} {o : HO} {t' : Nat} (I : Inv X pins σ H s) (mu : Mut (H x)) (he : e = x ∨ H e = some (.own x)) (k : ∀ b u, b ≠ e → s.heap.get? b = some u → h'.get? b = some u) (heo : ∃ u, h'.get? e = some u)
    (new : ObjOk X.prog X.w (upd H x o) h' x o) : Inv X pins σ (upd H x o) { s with heap := h', toks := t' } := I.un (Un.write mu he k heo) (I.hok.write mu he k heo new)
theorem Inv.pins_of {pins' : List (Addr × Obj)} (I : Inv X pins σ H s) (h : ∀ p ∈ pins', s.heap.get? p.1 = some p.2 ∧ H p.1 = none ∧ p.1 ≠ X.env.locals ∧ p.1 ∉ X.fs ∧ ∀ v, p.2.data ≠ .cell v) : Inv X pins' σ H s :=
  ⟨I.ok, I.os, I.bare, I.base, I.loc, I.cell, I.free, I.freeC, fun p hp => (List.mem_append.mp hp).elim (fun z => I.pin p (List.mem_append_left _ z)) (h p), I.hok, I.len⟩

theorem nodup_ix {N : List Str} (hN : N.Nodup) {i j : Nat} {x : Str} (a : N[i]? = some x) (b : N[j]? = some x) : i = j := by
  obtain ⟨h1, e1⟩ := List.getElem?_eq_some_iff.mp a
  obtain ⟨h2, e2⟩ := List.getElem?_eq_some_iff.mp b
  exact (List.getElem_inj hN).mp (e1.trans e2.symm)

/-- a name is stored; what changed -/
theorem store_ok2 {M : Model} {A : Around} {E : Value → Shared → Prop} {i : Nat} {x : Str} {v : V} {u : Value} {Q : Unit → Shared → Prop} (I : Inv X pins σ H s) (hN : X.N.Nodup) (hi : X.N[i]? = some x) (hx : Loc X.env.scope x) (r : RelV v u)
    (h : ∀ s', Inv X pins (σ.set i (some v)) H s' → (∃ a, Heap.SameBut a s.heap s'.heap ∧ (a = X.env.locals ∨ X.env.cells.lookup x = some a)) → Q () s') (hf : X.fn x = true ∨ X.env.scope.names.lookup x = some .local := by first | exact .inl rfl | exact .inr rfl | assumption) : wpAny M A (storeName X.env x u) Q E s := by
  obtain ⟨m, hn, hl⟩ := id I.loc
  have hcls : (X.env.scope.kind == .class || (X.env.scope.kind == .module && X.env.locals != X.env.globals)) = false := by rw [I.ok.kind]; rfl
  have hiσ : i < σ.length := by rw [I.len]; exact (List.getElem?_eq_some_iff.mp hi).1
  have cne := I.cne
  have tracked : ∀ {a : Addr} {h' : Heap}, (∃ o, s.heap.get? a = some o ∧ H a = none) → Heap.SameBut a s.heap h' → HOk X.prog X.w H h' := fun {a h'} ha hs b ob e => by
    obtain ⟨_, _, hfree⟩ := ha
    refine (I.hok b ob e).stay (fun c w' hc q => (hs.2 c ?_).trans q) (fun _ q => q) fun _ _ q => q
    rintro rfl
    rcases hc with rfl | hc
    · rw [hfree] at e; cases e
    · rw [hfree] at hc; cases hc
  rcases hx with hk | hk
  · refine wpAny_storeName_local hk hn (fun h' hn' hs => ?_) hcls
    obtain ⟨oL, _, _, hoL, _⟩ := id hn
    refine h _ ⟨I.ok, I.os, I.bare, ⟨fun b o e n hb hx => ?_, fun b o e n hb hx => ?_, I.base.free, fun b o e hx => ?_, I.base.tups, I.base.frzs, I.base.tbls⟩, ⟨_, hn', fun j y v' e1 e2 e3 => ?_⟩, fun y c e => ?_, I.free, I.freeC, fun p hp => ?_, tracked ⟨oL, hoL, I.free⟩ hs, by simpa using I.len⟩ ⟨_, hs, .inl rfl⟩
    · exact (hs.2 b (Nat.ne_of_lt (Nat.lt_of_lt_of_le (Heap.lt_size e) I.ok.above))).trans (I.base.keep b o e n hb hx)
    · obtain ⟨sl, e1⟩ := I.base.slot b o e n hb hx
      exact ⟨sl, (hs.2 b (Nat.ne_of_lt (Nat.lt_of_lt_of_le (Heap.lt_size e) I.ok.above))).trans e1⟩
    · obtain ⟨o', e1⟩ := I.base.there b o e hx
      exact ⟨o', (hs.2 b (Nat.ne_of_lt (Nat.lt_of_lt_of_le (Heap.lt_size e) I.ok.above))).trans e1⟩
    · by_cases hj : j = i
      · subst hj
        rw [hi] at e1; cases e1
        rw [List.getElem?_set_self hiσ] at e2
        cases e2
        exact ⟨u, r, .inl ⟨hk, by simp⟩⟩
      · rw [List.getElem?_set_ne (Ne.symm hj)] at e2
        obtain ⟨u', r', q⟩ := hl j y v' e1 e2 e3
        refine ⟨u', r', ?_⟩
        rcases q with ⟨k, e⟩ | ⟨k, c, e, z⟩
        · refine .inl ⟨k, ?_⟩
          have : y ≠ x := fun e => hj (nodup_ix hN e1 (e ▸ hi))
          simp [this, e]
        · exact .inr ⟨k, c, e, z.sameBut hs (cne y c e)⟩
    · obtain ⟨w', z⟩ := I.cell y c e
      exact ⟨w', z.sameBut hs (cne y c e)⟩
    · obtain ⟨e, n, ne, nf, d⟩ := I.pin p hp
      exact ⟨(hs.2 p.1 ne).trans e, n, ne, nf, d⟩
  · have hfn : X.fn x = true := by
      rcases hf with z | z
      · exact z
      · rw [z] at hk; cases hk
    obtain ⟨c, hc⟩ := I.ok.has x (.inl hk)
    obtain ⟨w', z⟩ := I.cell x c hc
    refine wpAny_storeName_cell I.ok.kind hk hc z (fun h' hc' hs => ?_)
    obtain ⟨oc, hoc, hocd⟩ := id z
    refine h { s with heap := h' } ⟨I.ok, I.os, I.bare, ⟨fun b o e n hb hx => ?_, fun b o e n hb hx => ?_, I.base.free, fun b o e hx => ?_, I.base.tups, I.base.frzs, I.base.tbls⟩, ⟨m, hn.sameBut hs (Ne.symm (cne x c hc)), fun j y v' e1 e2 e3 => ?_⟩, fun y c' e => ?_, I.free, I.freeC, fun p hp => ?_, tracked ⟨oc, hoc, I.freeC x c hc⟩ hs, by simpa using I.len⟩ ⟨c, hs, .inr hc⟩
    · exact (hs.2 b (Nat.ne_of_lt (Nat.lt_of_lt_of_le (Heap.lt_size e) (I.ok.cab x c hfn hc)))).trans (I.base.keep b o e n hb hx)
    · obtain ⟨sl, e1⟩ := I.base.slot b o e n hb hx
      exact ⟨sl, (hs.2 b (Nat.ne_of_lt (Nat.lt_of_lt_of_le (Heap.lt_size e) (I.ok.cab x c hfn hc)))).trans e1⟩
    · obtain ⟨o', e1⟩ := I.base.there b o e hx
      exact ⟨o', (hs.2 b (Nat.ne_of_lt (Nat.lt_of_lt_of_le (Heap.lt_size e) (I.ok.cab x c hfn hc)))).trans e1⟩
    · by_cases hj : j = i
      · subst hj
        rw [hi] at e1; cases e1
        rw [List.getElem?_set_self hiσ] at e2
        cases e2
        exact ⟨u, r, .inr ⟨.inl hk, c, hc, hc'⟩⟩
      · rw [List.getElem?_set_ne (Ne.symm hj)] at e2
        obtain ⟨u', r', q⟩ := hl j y v' e1 e2 e3
        refine ⟨u', r', ?_⟩
        rcases q with q | ⟨k, c', e, z'⟩
        · exact .inl q
        · refine .inr ⟨k, c', e, z'.sameBut hs ?_⟩
          rintro rfl
          exact hj (nodup_ix hN e1 (I.ok.inj _ _ _ e hc ▸ hi))
    · by_cases hcc : c' = c
      · subst hcc; exact ⟨_, hc'⟩
      · obtain ⟨w2, z2⟩ := I.cell y c' e
        exact ⟨w2, z2.sameBut hs hcc⟩
    · obtain ⟨e, n, ne, nf, d⟩ := I.pin p hp
      refine ⟨(hs.2 p.1 ?_).trans e, n, ne, nf, d⟩
      intro q
      rw [q, hoc] at e
      have q' : oc = p.2 := Option.some.inj e
      exact d w' (by rw [← q']; exact hocd)
theorem store_ok {M : Model} {A : Around} {E : Value → Shared → Prop} {i : Nat} {x : Str} {v : V} {u : Value} {Q : Unit → Shared → Prop} (I : Inv X pins σ H s) (hN : X.N.Nodup) (hi : X.N[i]? = some x) (hx : Loc X.env.scope x) (r : RelV v u)
    (h : ∀ s', Inv X pins (σ.set i (some v)) H s' → Q () s') (hf : X.fn x = true ∨ X.env.scope.names.lookup x = some .local := by first | exact .inl rfl | exact .inr rfl | assumption) : wpAny M A (storeName X.env x u) Q E s :=
  store_ok2 I hN hi hx r (fun s' I' _ => h s' I') hf
/-- behind a call or a block, the state as it is -/
theorem Inv.call' {s' : Shared} {ch : List Addr} (I : Inv X pins σ H s) (ho : s'.os = s.os) (u : Un (frs X.stack) ch H H' s.heap s'.heap) (hok : HOk X.prog X.w H' s'.heap) (hg : AllBare s'.gens)
    (hch : ∀ b ∈ ch, (b ∈ X.ex ∨ X.s₀.heap.objs.size ≤ b) ∧ b ≠ X.env.locals ∧ (∀ x c, X.env.cells.lookup x = some c → c ≠ b) ∧ ∀ p ∈ X.pn ++ pins, p.1 ≠ b) : Inv X pins σ H' s' := by
  obtain ⟨h', g', d', t', o'⟩ := s'
  have e : o' = s.os := ho
  subst e
  exact I.call (g' := g') (t' := t') (d' := d') u hok hg hch
end

/-! ### the judgements -/
/-- an exception: its class, its own dict's address (where it has one), the abstract heap behind it -/
abbrev XK := Value → Option Addr → Hp → Prop
abbrev St := List (Option V)
abbrev VK := V → Hp → Prop
/-- an expression's reading; a test's; an argument list's -/
abbrev TE := St → Hp → VK → Prop
abbrev TT := St → Hp → (Bool → Hp → Prop) → Prop
abbrev TA := St → Hp → (List V → Hp → Prop) → Prop
/-- what is wanted behind a statement -/
structure Ends where
  nx : St → Hp → Prop
  rt : VK
  bk : St → Hp → Prop := fun _ _ => False
  ct : St → Hp → Prop := fun _ _ => False
abbrev TS := Ends → St → Hp → Prop

def EP (X : Cx) (pins : List (Addr × Obj)) (σ : St) (Q : VK) (u : Value) (s' : Shared) : Prop := ∃ v H', Inv X pins σ H' s' ∧ RelV v u ∧ Q v H'
def TP (X : Cx) (pins : List (Addr × Obj)) (σ : St) (Q : Bool → Hp → Prop) (b : Bool) (s' : Shared) : Prop := ∃ H', Inv X pins σ H' s' ∧ Q b H'
def AP (X : Cx) (pins : List (Addr × Obj)) (σ : St) (Q : List V → Hp → Prop) (us : List Value) (s' : Shared) : Prop := ∃ vs H', Inv X pins σ H' s' ∧ Vals vs us ∧ Q vs H'
def SP (X : Cx) (pins : List (Addr × Obj)) (D : Ends) (f : Flow) (s' : Shared) : Prop :=
  match f with
  | .next => ∃ σ' H', Inv X pins σ' H' s' ∧ D.nx σ' H'
  | .brk => ∃ σ' H', Inv X pins σ' H' s' ∧ D.bk σ' H'
  | .cont => ∃ σ' H', Inv X pins σ' H' s' ∧ D.ct σ' H'
  | .ret u => ∃ v σ' H', Inv X pins σ' H' s' ∧ RelV v u ∧ D.rt v H'

def PE (X : Cx) (e : Expr) (t : TE) : Prop :=
  ∀ (pins : List (Addr × Obj)) (s : Shared) (σ : St) (H : Hp) (Q : VK), Inv X pins σ H s → t σ H Q → wpAny (model X.prog X.w) X.A (eval e X.env) (EP X pins σ Q) X.xe s
def PT (X : Cx) (e : Expr) (t : TT) : Prop :=
  ∀ (pins : List (Addr × Obj)) (s : Shared) (σ : St) (H : Hp) (Q : Bool → Hp → Prop), Inv X pins σ H s → t σ H Q → wpAny (model X.prog X.w) X.A (isTrue e X.env (eval e X.env)) (TP X pins σ Q) X.xe s
/-- a test whatever its 'whole' is (and, or) -/
def PW (X : Cx) (e : Expr) (t : TT) : Prop :=
  ∀ (whole : Sem Value) (pins : List (Addr × Obj)) (s : Shared) (σ : St) (H : Hp) (Q : Bool → Hp → Prop), Inv X pins σ H s → t σ H Q → wpAny (model X.prog X.w) X.A (isTrue e X.env whole) (TP X pins σ Q) X.xe s
theorem PW.pt {X : Cx} {e : Expr} {t : TT} (h : PW X e t) : PT X e t := h _
/-- an argument list (no star), from the left -/
def PA (X : Cx) (es : List Expr) (t : TA) : Prop :=
  ∀ (pos : Pos) (pins : List (Addr × Obj)) (s : Shared) (σ : St) (H : Hp) (Q : List V → Hp → Prop), Inv X pins σ H s → t σ H Q → wpAny (model X.prog X.w) X.A (spliced (backTo pos (starEach es X.env))) (AP X pins σ Q) X.xe s
def PS (X : Cx) (st : Stmt) (t : TS) : Prop :=
  ∀ (pins : List (Addr × Obj)) (s : Shared) (σ : St) (H : Hp) (D : Ends), Inv X pins σ H s → t D σ H → wpAny (model X.prog X.w) X.A (exec st X.env) (SP X pins D) X.xe s
def PSs (X : Cx) (st : List Stmt) (t : TS) : Prop :=
  ∀ (pins : List (Addr × Obj)) (s : Shared) (σ : St) (H : Hp) (D : Ends), Inv X pins σ H s → t D σ H → wpAny (model X.prog X.w) X.A (execs st X.env) (SP X pins D) X.xe s
/-- weaken the end -/
theorem thn {α : Type} {t : Sem α} {Q Q' : α → Shared → Prop} {M : Model} {A : Around} {E : Value → Shared → Prop} {s : Shared} (h : wpAny M A t Q E s) (hQ : ∀ a s, Q a s → Q' a s) : wpAny M A t Q' E s := wpAny_mono h hQ fun _ _ x => x
end L2

namespace L2
open PySem PySem.Spec PyProof.Rows
section
variable {X : Cx}

/-! ### names and constants -/
def tVar (i : Nat) : TE := fun σ H Q => ∃ v, σ[i]? = some (some v) ∧ Q v H
def tC (v : V) : TE := fun _ H Q => Q v H
theorem pe_var {i : Nat} {x : Str} {pos : Pos} (hN : X.N[i]? = some x) (hv : Vis X.env.scope x) (hd : (x == ("__debug__" : Str)) = false := by decide) (hcd : (x == ("__classdict__" : Str)) = false := by decide) : PE X (.Name x pos) (tVar i) := by
  intro pins s σ H Q I h
  obtain ⟨v, e, h⟩ := h
  obtain ⟨m, hn, hl⟩ := I.loc
  obtain ⟨u, r, l⟩ := hl i x v hN e hv
  have fin : EP X pins σ Q u s := ⟨v, H, I, r, h⟩
  rcases l with ⟨hk, hm⟩ | ⟨hk, c, hc, hcell⟩
  · exact wpAny_Name (wpAny_loadName_local I.ok.kind hk hn hm fin) hd
  · rcases hk with hk | hk
    · exact wpAny_Name (wpAny_loadName_cell I.ok.kind hk hc hcell fin) hd
    · exact wpAny_Name (wpAny_loadName_free I.ok.kind hk hc hcell fin hcd) hd
theorem pe_int {i j pos} : PE X (.Constant (.int i) j pos) (tC (.int i)) := fun _ _ _ H _ I h => wpAny_Constant_int ⟨.int i, H, I.tok _, ⟨_, rfl⟩, h⟩
theorem pe_bl {b j pos} : PE X (.Constant (.bool b) j pos) (tC (.bl b)) := fun _ _ _ H _ I h => Constant_bool ⟨.bl b, H, I, rfl, h⟩
theorem pe_non {j pos} : PE X (.Constant .none j pos) (tC .non) := fun _ _ _ H _ I h => Constant_none ⟨.non, H, I, rfl, h⟩
theorem pe_str {x j pos} : PE X (.Constant (.str x) j pos) (tC (.str x)) := fun _ _ _ H _ I h => Calls.Constant_str ⟨.str x, H, I.tok _, ⟨_, rfl⟩, h⟩

/-- a global name of the def -/
def Gl (X : Cx) (x : Str) : Prop := X.env.kindOf x = some .globalImplicit
theorem ld_glob {E : Value → Shared → Prop} {pins : List (Addr × Obj)} {s : Shared} {σ : St} {H : Hp} {x : Str} {u : Value} {pos : Pos} {Q : Value → Shared → Prop} (I : Inv X pins σ H s) (hg : Gl X x) (hm : X.mg x = some u) (h : Q u s)
    (hd : (x == ("__debug__" : Str)) = false := by decide) : wpAny (model X.prog X.w) X.A (eval (.Name x pos) X.env) Q E s :=
  Calls.Name_function_global I.ok.kind hg (Calls.loadGlobal_global (by rw [I.ok.glob]; exact I.mod.glob.keeps I.bk) hm h) hd
theorem ld_blt {E : Value → Shared → Prop} {pins : List (Addr × Obj)} {s : Shared} {σ : St} {H : Hp} {x : Str} {u : Value} {pos : Pos} {Q : Value → Shared → Prop} (I : Inv X pins σ H s) (hg : Gl X x) (hm : X.mg x = none) (hv : bootBuiltins x = some u) (h : Q u s)
    (hn : x ≠ "__name__" := by decide) (hd : (x == ("__debug__" : Str)) = false := by decide) : wpAny (model X.prog X.w) X.A (eval (.Name x pos) X.env) Q E s := by
  obtain ⟨mb, h1, h2⟩ := I.mod.blt
  exact Calls.Name_function_global I.ok.kind hg (Calls.loadGlobal_builtin (by rw [I.ok.glob]; exact I.mod.glob.keeps I.bk) hm (by rw [I.ok.blt]; exact h1.keeps I.bk) ((h2 x hn).trans hv) h) hd
/-- a module's constant, a class, a function, as a value -/
theorem pe_glob {x : Str} {v : V} {u : Value} {pos : Pos} (hg : Gl X x) (hm : X.mg x = some u) (r : RelV v u) (hd : (x == ("__debug__" : Str)) = false := by decide) : PE X (.Name x pos) (tC v) :=
  fun _ _ _ H _ I h => ld_glob I hg hm ⟨v, H, I, r, h⟩ hd
theorem pe_bltn {x : Str} {v : V} {u : Value} {pos : Pos} (hg : Gl X x) (hm : X.mg x = none) (hv : bootBuiltins x = some u) (r : RelV v u) (hn : x ≠ "__name__" := by decide) (hd : (x == ("__debug__" : Str)) = false := by decide) : PE X (.Name x pos) (tC v) :=
  fun _ _ _ H _ I h => ld_blt I hg hm hv ⟨v, H, I, r, h⟩ hn hd

/-! ### arithmetic -/
/-- two ints -/
def t2I (ta tb : TE) (k : Int → Int → Hp → Prop) : St → Hp → Prop := fun σ H => ta σ H fun x H1 => tb σ H1 fun y H2 => ∃ i j, x = .int i ∧ y = .int j ∧ k i j H2
def tAdd (ta tb : TE) : TE := fun σ H Q => t2I ta tb (fun i j H2 => Q (.int (i + j)) H2) σ H
def tSub (ta tb : TE) : TE := fun σ H Q => t2I ta tb (fun i j H2 => Q (.int (i - j)) H2) σ H
/-- the left factor below 2^64 -/
def tMul (ta tb : TE) : TE := fun σ H Q => t2I ta tb (fun i j H2 => (-(2 ^ 64) < i ∧ i < 2 ^ 64) ∧ Q (.int (i * j)) H2) σ H
variable {a b : Expr} {ta tb : TE} {pos : Pos}
/-! ### comparisons -/
def PC (X : Cx) (op : CmpOp) (a b : Expr) (t : TE) : Prop :=
  ∀ (pins : List (Addr × Obj)) (s : Shared) (σ : St) (H : Hp) (Q : VK), Inv X pins σ H s → t σ H Q →
    wpAny (model X.prog X.w) X.A (eval a X.env) (fun v s₁ => wpAny (model X.prog X.w) X.A (eval b X.env) (fun u s₂ => wpAny (model X.prog X.w) X.A (compareOp op v u) (EP X pins σ Q) X.xe s₂) X.xe s₁) X.xe s
def tCmp (p : Int → Int → Bool) (ta tb : TE) : TE := fun σ H Q => t2I ta tb (fun i j H2 => Q (.bl (p i j)) H2) σ H
abbrev tLt : TE → TE → TE := tCmp fun i j => decide (i < j)
abbrev tLe : TE → TE → TE := tCmp fun i j => decide (i ≤ j)
abbrev tGt : TE → TE → TE := tCmp fun i j => decide (j < i)
abbrev tGe : TE → TE → TE := tCmp fun i j => decide (j ≤ i)
abbrev tEqI : TE → TE → TE := tCmp fun i j => decide (i = j)
abbrev tNeI : TE → TE → TE := tCmp fun i j => !decide (i = j)
/-- is None -/
def tIsN (ta : TE) : TE := fun σ H Q => ta σ H fun x H1 => Q (.bl (decide (x = .non))) H1
def tNotN (ta : TE) : TE := fun σ H Q => ta σ H fun x H1 => Q (.bl (!decide (x = .non))) H1
/-- a comparison as a value, as a test -/
def tB (t : TE) : TT := fun σ H Q => t σ H fun x H1 => ∃ c, x = .bl c ∧ Q c H1
/-- an expression whose value is a bool, as a test -/
theorem pt_val {e : Expr} {t : TE} (h : PE X e t) (he : ∀ whole, isTrue e X.env whole = (do let v ← whole; standAt e.pos; holding [v] (truthy v)) := by intro _; rfl) : PT X e (tB t) := by
  intro pins s σ H Q I hw
  refine isTrue_plain (thn (h pins s σ H _ I hw) fun v s1 ⟨x, H1, I1, r1, q1⟩ => ?_) (he _)
  obtain ⟨d, rfl, q⟩ := q1
  cases r1
  exact wpAny_truthy_bool ⟨H1, I1, q⟩

/-! ### and, or, not -/
variable {tA tB' : TT} {rest : List Expr}
def tAnd (t u : TT) : TT := fun σ H Q => t σ H fun c H1 => if c = true then u σ H1 Q else Q false H1
def tOr (t u : TT) : TT := fun σ H Q => t σ H fun c H1 => if c = true then Q true H1 else u σ H1 Q
def tNot (t : TT) : TT := fun σ H Q => t σ H fun c H1 => Q (!c) H1
theorem pw_and1 (ha : PT X a tA) : PW X (.BoolOp .And [a] pos) tA := by
  intro wh pins s σ H Q I h
  refine isTrue_and (thn (ha pins s σ H Q I h) fun c s1 e => ?_)
  cases c with
  | true => exact isTrue_and_nil e
  | false => exact e
theorem pw_or1 (ha : PT X a tA) : PW X (.BoolOp .Or [a] pos) tA := by
  intro wh pins s σ H Q I h
  refine isTrue_or (thn (ha pins s σ H Q I h) fun c s1 e => ?_)
  cases c with
  | false => exact isTrue_or_nil e
  | true => exact e
theorem pw_and (ha : PT X a tA) (hb : PW X (.BoolOp .And (b :: rest) pos) tB') : PW X (.BoolOp .And (a :: b :: rest) pos) (tAnd tA tB') := by
  intro wh pins s σ H Q I h
  refine isTrue_and (thn (ha pins s σ H _ I h) fun c s1 ⟨H1, I1, q1⟩ => ?_)
  cases c with
  | true => exact hb wh pins s1 σ H1 Q I1 q1
  | false => exact ⟨H1, I1, q1⟩
theorem pw_or (ha : PT X a tA) (hb : PW X (.BoolOp .Or (b :: rest) pos) tB') : PW X (.BoolOp .Or (a :: b :: rest) pos) (tOr tA tB') := by
  intro wh pins s σ H Q I h
  refine isTrue_or (thn (ha pins s σ H _ I h) fun c s1 ⟨H1, I1, q1⟩ => ?_)
  cases c with
  | true => exact ⟨H1, I1, q1⟩
  | false => exact hb wh pins s1 σ H1 Q I1 q1
theorem pt_not (ha : PT X a tA) : PT X (.UnaryOp .Not a pos) (tNot tA) := by
  intro pins s σ H Q I h
  exact isTrue_not (ha pins s σ H (fun c H1 => Q (!c) H1) I h)
/-- .. as values (bools) -/
def tAndV (ta tb : TE) : TE := fun σ H Q => ta σ H fun x H1 => ∃ c, x = .bl c ∧ if c = true then tb σ H1 Q else Q (.bl false) H1
def tOrV (ta tb : TE) : TE := fun σ H Q => ta σ H fun x H1 => ∃ c, x = .bl c ∧ if c = true then Q (.bl true) H1 else tb σ H1 Q
def tNotV (ta : TE) : TE := fun σ H Q => ta σ H fun x H1 => ∃ c, x = .bl c ∧ Q (.bl (!c)) H1
theorem pe_one {op} {t : TE} (h : PE X a t) : PE X (.BoolOp op [a] pos) t := fun pins s σ H Q I hw => BoolOp_one (h pins s σ H Q I hw)
theorem pe_and (ha : PE X a ta) (hb : PE X (.BoolOp .And (b :: rest) pos) tb) : PE X (.BoolOp .And (a :: b :: rest) pos) (tAndV ta tb) := by
  intro pins s σ H Q I h
  refine BoolOp_and (thn (ha pins s σ H _ I h) fun v s1 ⟨x, H1, I1, r1, q1⟩ => ?_)
  obtain ⟨c, rfl, q1⟩ := q1
  cases r1
  refine wpAny_truthy_bool ?_
  cases c with
  | true => exact hb pins s1 σ H1 Q I1 q1
  | false => exact ⟨.bl false, H1, I1, rfl, q1⟩
theorem pe_not (ha : PE X a ta) : PE X (.UnaryOp .Not a pos) (tNotV ta) := by
  intro pins s σ H Q I h
  refine UnaryOp_ (thn (ha pins s σ H _ I h) fun v s1 ⟨x, H1, I1, r1, q1⟩ => ?_)
  obtain ⟨c, rfl, q1⟩ := q1
  cases r1
  exact not_of (wpAny_truthy_bool ⟨.bl (!c), H1, I1, rfl, q1⟩)
/-- a if t else b -/
def tIf (t : TT) (ta tb : TE) : TE := fun σ H Q => t σ H fun c H1 => if c = true then ta σ H1 Q else tb σ H1 Q
end
end L2

namespace L2
open PySem PySem.Spec PyProof.Rows

/-! ### a list, a tuple that is read: tracked, frozen, or an object of the module -/
def SqL (K : PySem.W.Frag) (H : Hp) (a : Addr) (xs : List V) : Prop :=
  Rd H a (.lst xs) ∨
    ∃ (o : Obj) (its : Array Value) (n : Nat), K.lookup a = some o ∧ o.cls = .type "list" ∧ o.dict = none ∧ o.data = .seq its n ∧ its.size ≤ sizeLine ∧ Vals xs its.toList
def SqT (K : PySem.W.Frag) (H : Hp) (a : Addr) (xs : List V) : Prop :=
  Rd H a (.tup xs) ∨
    ∃ (o : Obj) (its : Array Value) (n : Nat), K.lookup a = some o ∧ o.cls = .type "tuple" ∧ o.data = .seq its n ∧ its.size ≤ sizeLine ∧ Vals xs its.toList
def absV : Value → Option V
  | .none => some .non
  | .bool b => some (.bl b)
  | .int i _ => some (.int i)
  | .str x _ => some (.str x)
  | .bytes b _ => some (.byt b)
  | .float b _ => some (.flt b)
  | .ref a => some (.ref a)
  | .type n => some (.ty n)
  | _ => none
theorem RelV.abs {x : V} {u : Value} (r : RelV x u) : absV u = some x := by
  cases x with
  | non => cases r; rfl
  | bl _ => cases r; rfl
  | int _ => obtain ⟨t, rfl⟩ := r; rfl
  | str _ => obtain ⟨t, rfl⟩ := r; rfl
  | byt _ => obtain ⟨t, rfl⟩ := r; rfl
  | flt _ => obtain ⟨t, rfl⟩ := r; rfl
  | ref _ => cases r; rfl
  | ty _ => cases r; rfl
theorem RelV.inj {x y : V} {u : Value} (r : RelV x u) (q : RelV y u) : x = y := Option.some.inj (r.abs.symm.trans q.abs)
theorem Vals.inj : ∀ {xs ys : List V} {us : List Value}, Vals xs us → Vals ys us → xs = ys
  | _, _, _, .nil, .nil => rfl
  | _, _, _, .cons r t, .cons r' t' => by rw [r.inj r', Vals.inj t t']
section
variable {X : Cx} {pins : List (Addr × Obj)} {σ : St} {H : Hp} {s : Shared} {a : Addr} {xs ys : List V}
theorem SqL.of {K : PySem.W.Frag} (h : H a = some (.lst xs)) : SqL K H a xs := .inl (.inl h)
theorem SqT.of {K : PySem.W.Frag} (h : H a = some (.tup xs)) : SqT K H a xs := .inl (.inl h)
theorem Inv.list (I : Inv X pins σ H s) (h : SqL X.K H a xs) : ∃ its : List Value, Vals xs its ∧ PlainL s.heap a its.toArray ∧ xs.length ≤ sizeLine := by
  rcases h with h | ⟨o, its, n, hk, hc, hd, hs, hz, r⟩
  · obtain ⟨z, its, n, r, e⟩ := h.ok I.hok
    exact ⟨its, r, ⟨_, n, e, rfl, rfl, rfl⟩, z⟩
  · refine ⟨its.toList, r, ⟨o, n, I.kIn a o hk, hc, hd, by simpa using hs⟩, ?_⟩
    have e := r.length
    simp only [Array.length_toList] at e
    omega
theorem Inv.tuple (I : Inv X pins σ H s) (h : SqT X.K H a xs) : ∃ its : List Value, Vals xs its ∧ IsTup s.heap a its.toArray ∧ xs.length ≤ sizeLine := by
  rcases h with h | ⟨o, its, n, hk, hc, hs, hz, r⟩
  · obtain ⟨z, its, r, p⟩ := h.ok I.hok
    exact ⟨its, r, p, z⟩
  · refine ⟨its.toList, r, ⟨o, I.kIn a o hk, hc, n, by simpa using hs⟩, ?_⟩
    have e := r.length
    simp only [Array.length_toList] at e
    omega
theorem Inv.list_inj (I : Inv X pins σ H s) (h : SqL X.K H a xs) (h' : SqL X.K H a ys) : xs = ys := by
  obtain ⟨its, r, ⟨o, n, e, _, _, d⟩, _⟩ := I.list h
  obtain ⟨its', r', ⟨o', n', e', _, _, d'⟩, _⟩ := I.list h'
  rw [e] at e'; cases e'
  rw [d] at d'
  injection d' with d1 _
  have : its = its' := by simpa using congrArg Array.toList d1
  subst this
  exact r.inj r'
theorem Inv.tuple_inj (I : Inv X pins σ H s) (h : SqT X.K H a xs) (h' : SqT X.K H a ys) : xs = ys := by
  obtain ⟨its, r, ⟨o, e, _, n, d⟩, _⟩ := I.tuple h
  obtain ⟨its', r', ⟨o', e', _, n', d'⟩, _⟩ := I.tuple h'
  rw [e] at e'; cases e'
  rw [d] at d'
  injection d' with d1 _
  have : its = its' := by simpa using congrArg Array.toList d1
  subst this
  exact r.inj r'
end

/-! ### another wish about exceptions -/
abbrev Cx.wish (X : Cx) (E : Value → Shared → Prop) : Cx := { X with xe := E }
/-- no exception leaves -/
abbrev Cx.nox (X : Cx) : Cx := X.wish fun _ _ => False
theorem Cx.Ok.wish {X : Cx} (ok : X.Ok) (E : Value → Shared → Prop) : (X.wish E).Ok :=
  ⟨ok.mod, ok.kind, ok.glob, ok.blt, ok.above, ok.inj, ok.has, ok.cab, ok.hd, ok.frames, ok.stk, ok.exf, ok.bs, ok.bsz, ok.noex, ok.exfs, ok.funs, ok.frf⟩
theorem Cx.Ok.unwish {X : Cx} {E : Value → Shared → Prop} (ok : (X.wish E).Ok) : X.Ok :=
  ⟨ok.mod, ok.kind, ok.glob, ok.blt, ok.above, ok.inj, ok.has, ok.cab, ok.hd, ok.frames, ok.stk, ok.exf, ok.bs, ok.bsz, ok.noex, ok.exfs, ok.funs, ok.frf⟩
section
variable {X : Cx} {pins : List (Addr × Obj)} {σ : St} {H : Hp} {s : Shared} {E : Value → Shared → Prop}
theorem Inv.wish (I : Inv X pins σ H s) (E : Value → Shared → Prop) : Inv (X.wish E) pins σ H s := ⟨I.ok.wish E, I.os, I.bare, I.base, I.loc, I.cell, I.free, I.freeC, I.pin, I.hok, I.len⟩
theorem Inv.unwish (I : Inv (X.wish E) pins σ H s) : Inv X pins σ H s := ⟨I.ok.unwish, I.os, I.bare, I.base, I.loc, I.cell, I.free, I.freeC, I.pin, I.hok, I.len⟩
theorem SP.unwish {D : Ends} {f : Flow} {s' : Shared} (h : SP (X.wish E) pins D f s') : SP X pins D f s' := by
  cases f with
  | next => obtain ⟨σ', H', I, q⟩ := h; exact ⟨σ', H', I.unwish, q⟩
  | brk => obtain ⟨σ', H', I, q⟩ := h; exact ⟨σ', H', I.unwish, q⟩
  | cont => obtain ⟨σ', H', I, q⟩ := h; exact ⟨σ', H', I.unwish, q⟩
  | ret u => obtain ⟨v, σ', H', I, r, q⟩ := h; exact ⟨v, σ', H', I.unwish, r, q⟩
theorem PSs.nox {st : List Stmt} {t : TS} (h : PSs X.nox st t) : PSs X st t := fun pins s σ H D I hw =>
  wpAny_mono (h pins s σ H D (I.wish _) hw) (fun _ _ q => q.unwish) fun _ _ z => False.elim z
end

/-! ### blocks and small statements -/
section
variable {X : Cx} {st : Stmt} {rest : List Stmt} {t u : TS} {e : Expr} {te : TE} {pos : Pos}
def tNext : TS := fun D σ H => D.nx σ H
def tSeq (t u : TS) : TS := fun D σ H => t { D with nx := u D } σ H
theorem pss_nil : PSs X [] tNext := fun _ _ σ H _ I h => wpAny_execs_nil ⟨σ, H, I, h⟩
theorem pss_cons (h1 : PS X st t) (h2 : PSs X rest u) : PSs X (st :: rest) (tSeq t u) := by
  intro pins s σ H D I h
  refine wpAny_execs_cons (thn (h1 pins s σ H { D with nx := u D } I h) fun f s1 q => ?_)
  cases f with
  | next =>
    obtain ⟨σ', H', I', q⟩ := q
    exact h2 pins s1 σ' H' D I' q
  | ret v => exact q
  | brk => exact q
  | cont => exact q
theorem pss_one (h1 : PS X st t) : PSs X [st] t := by
  intro pins s σ H D I h
  refine wpAny_execs_cons (thn (h1 pins s σ H D I h) fun f s1 q => ?_)
  cases f with
  | next => exact wpAny_execs_nil q
  | ret v => exact q
  | brk => exact q
  | cont => exact q
def tBreak : TS := fun D σ H => D.bk σ H
def tCont : TS := fun D σ H => D.ct σ H
/-- in a def's body nothing is shown -/
theorem Inv.quiet {pins : List (Addr × Obj)} {σ : St} {H : Hp} {s : Shared} (I : Inv X pins σ H s) : interactive X.env = false := by simp [interactive, I.ok.kind]
/-- an expression whose value is dropped -/
def tDrop (te : TE) : TS := fun D σ H => te σ H fun _ H1 => D.nx σ H1
theorem ps_expr (he : PE X e te) (hs : swapsWith e none pos.line X.env = pure false := by rfl) : PS X (.Expr e pos) (tDrop te) := by
  intro pins s σ H D I h
  exact wpAny_Expr_any (thn (he pins s σ H _ I h) fun v s1 ⟨x, H1, I1, r1, q1⟩ => ⟨σ, H1, I1, q1⟩) I.quiet hs
def tRet (te : TE) : TS := fun D σ H => te σ H D.rt
theorem ps_ret (he : PE X e te) : PS X (.Return (some e) pos) (tRet te) := by
  intro pins s σ H D I h
  exact wpAny_Return_some (thn (he pins s σ H _ I h) fun v s1 ⟨x, H1, I1, r1, q1⟩ => ⟨x, σ, H1, I1, r1, q1⟩)
def tRetN : TS := fun D _ H => D.rt .non H
def tIfS (c : TT) (t u : TS) : TS := fun D σ H => c σ H fun b H1 => if b = true then t D σ H1 else u D σ H1
theorem ps_if {c : Expr} {a b : List Stmt} {tc : TT} (hc : PT X c tc) (ha : PSs X a t) (hb : PSs X b u) : PS X (.If c a b pos) (tIfS tc t u) := by
  intro pins s σ H D I h
  refine wpAny_If (thn (hc pins s σ H _ I h) fun d s1 ⟨H1, I1, q1⟩ => ?_)
  cases d with
  | true => exact ha pins s1 σ H1 D I1 q1
  | false => exact hb pins s1 σ H1 D I1 q1
/-- code that the proof never comes to -/
def tNever : TS := fun _ _ _ => False
theorem ps_never : PS X st tNever := fun _ _ _ _ _ _ h => h.elim
end

/-! ### targets -/
abbrev TG := V → St → Hp → (St → Hp → Prop) → Prop
abbrev TGs := List V → St → Hp → (St → Hp → Prop) → Prop
def PG (X : Cx) (target : Expr) (t : TG) : Prop :=
  ∀ (pins : List (Addr × Obj)) (s : Shared) (σ : St) (H : Hp) (v : V) (u : Value) (Q : St → Hp → Prop), Inv X pins σ H s → RelV v u → t v σ H Q →
    wpAny (model X.prog X.w) X.A (assign target X.env u) (fun _ s' => ∃ σ' H', Inv X pins σ' H' s' ∧ Q σ' H') X.xe s
/-- several targets, one after another -/
def PGs (X : Cx) (ts : List Expr) (t : TGs) : Prop :=
  ∀ (pins : List (Addr × Obj)) (s : Shared) (σ : St) (H : Hp) (vs : List V) (us : List Value) (Q : St → Hp → Prop), Inv X pins σ H s → Vals vs us → t vs σ H Q →
    wpAny (model X.prog X.w) X.A (assignInOrder ((assignEach ts X.env).map (·.2)) us) (fun _ s' => ∃ σ' H', Inv X pins σ' H' s' ∧ Q σ' H') X.xe s
/-- o[i] = v, by values -/
abbrev TSet := V → V → V → Hp → (Hp → Prop) → Prop
def PSet (X : Cx) (t : TSet) : Prop :=
  ∀ (pins : List (Addr × Obj)) (s : Shared) (σ : St) (H : Hp) (o i v : V) (ov iv u : Value) (Q : Hp → Prop), Inv X pins σ H s → RelV o ov → RelV i iv → RelV v u → t o i v H Q →
    wpAny (model X.prog X.w) X.A (setItem ov iv u) (fun _ s' => ∃ H', Inv X pins σ H' s' ∧ Q H') X.xe s
/-- a op= b, by values -/
abbrev TIp := V → V → Hp → VK → Prop
def PIp (X : Cx) (op : Operator) (t : TIp) : Prop :=
  ∀ (pins : List (Addr × Obj)) (s : Shared) (σ : St) (H : Hp) (x y : V) (v u : Value) (Q : VK), Inv X pins σ H s → RelV x v → RelV y u → t x y H Q →
    wpAny (model X.prog X.w) X.A (inplaceOp op v u) (EP X pins σ Q) X.xe s
section
variable {X : Cx} {pos : Pos}
def gName (i : Nat) : TG := fun v σ H Q => Q (σ.set i (some v)) H
theorem pg_name {i : Nat} {x : Str} (hN : X.N.Nodup) (hi : X.N[i]? = some x) (hx : Loc X.env.scope x) (hf : X.fn x = true ∨ X.env.scope.names.lookup x = some .local := by first | exact .inl rfl | exact .inr rfl | assumption) : PG X (.Name x pos) (gName i) := by
  intro pins s σ H v u Q I r h
  exact wpAny_assign_Name (store_ok I hN hi hx r (fun s' I' => ⟨_, H, I', h⟩) hf)
def gNil : TGs := fun vs σ H Q => vs = [] ∧ Q σ H
def gCons (t : TG) (u : TGs) : TGs := fun vs σ H Q => ∃ v r, vs = v :: r ∧ t v σ H fun σ' H' => u r σ' H' Q
theorem pgs_nil : PGs X [] gNil := by
  intro pins s σ H vs us Q I r h
  obtain ⟨e, h⟩ := h
  subst e
  cases r
  exact assignInOrder_nil ⟨σ, H, I, h⟩
theorem pgs_cons {e : Expr} {es : List Expr} {t : TG} {u : TGs} (h1 : PG X e t) (h2 : PGs X es u)
    (hs : (assignEach (e :: es) X.env).map (·.2) = assign e X.env :: (assignEach es X.env).map (·.2) := by rfl) : PGs X (e :: es) (gCons t u) := by
  intro pins s σ H vs us Q I r h
  obtain ⟨v, vr, e1, h⟩ := h
  subst e1
  cases r with
  | cons r rr =>
    rw [hs]
    refine assignInOrder_cons (thn (h1 pins s σ H _ _ _ I r h) fun _ s1 ⟨σ1, H1, I1, q1⟩ => ?_)
    exact h2 pins s1 σ1 H1 _ _ Q I1 rr q1
/-- (a, b, ..) = a tuple of that length -/
def gTup (K : PySem.W.Frag) (n : Nat) (t : TGs) : TG := fun v σ H Q => ∃ a xs, v = .ref a ∧ SqT K H a xs ∧ xs.length = n ∧ t xs σ H Q
theorem pg_tup {es : List Expr} {k : Nat} {t : TGs} {n : Nat} (hc : X.calm = true) (h : PGs X es t)
    (hn : (assignEach es X.env).length = n := by rfl) (hst : (assignEach es X.env).findIdx? (·.1) = none := by rfl) : PG X (.Tuple es k pos) (gTup X.K n t) := by
  intro pins s σ H v u Q I r hw
  obtain ⟨a, xs, e1, hq, hl, hw⟩ := hw
  subst e1
  cases r
  obtain ⟨its, rv, ht, hz⟩ := I.tuple hq
  refine assign_Tuple_tuple (I.ok.hd hc) ht (by simp [hn, ← hl, rv.length]) hst fun h' hx => ?_
  have I1 : Inv X pins σ H { s with heap := h' } := I.kept (t' := s.toks) fun b o e => hx b o (Nat.ne_of_lt (Heap.lt_size e)) e
  exact h pins _ σ H xs _ Q I1 (by simpa using rv) hw
/-- o[i] = .. -/
def gSub (to ti : TE) (t : TSet) : TG := fun v σ H Q => to σ H fun o H1 => ti σ H1 fun i H2 => t o i v H2 fun H3 => Q σ H3
theorem pg_sub {o i : Expr} {to ti : TE} {t : TSet} (ho : PE X o to) (hi : PE X i ti) (hs : PSet X t)
    (ha : ∀ v, assign (.Subscript o i pos) X.env v = (do
      let ov ← holding [v] (eval o X.env)
      let iv ← holding [v, ov] (eval i X.env)
      standAt pos
      holding [v, ov, iv] (setItem ov iv v)
      release [v, ov, iv] []) := by intro _; rfl) : PG X (.Subscript o i pos) (gSub to ti t) := by
  intro pins s σ H v u Q I r h
  rw [ha]
  refine wpAny_bind (wpAny_holding (thn (ho pins s σ H _ I h) fun ov s1 ⟨x, H1, I1, r1, q1⟩ => ?_))
  refine wpAny_bind (wpAny_holding (thn (hi pins s1 σ H1 _ I1 q1) fun iv s2 ⟨y, H2, I2, r2, q2⟩ => ?_))
  refine wpAny_bind (wpAny_standAt (wpAny_bind (wpAny_holding (thn (hs pins s2 σ H2 x y v ov iv u _ I2 r1 r2 r q2) fun _ s3 ⟨H3, I3, q3⟩ => ?_))))
  exact wpAny_release ⟨σ, H3, I3, q3⟩
/-- target = value -/
def tAsg (te : TE) (g : TG) : TS := fun D σ H => te σ H fun x H1 => g x σ H1 D.nx
theorem ps_asg {tg e : Expr} {te : TE} {g : TG} (he : PE X e te) (hg : PG X tg g) (hs : swapsWithSole [tg] e pos.line X.env = pure false := by rfl) (hw : swappedStores [tg] e X.env = pure none := by rfl)
    (h1 : (assignEach [tg] X.env).map (·.2) = [assign tg X.env] := by rfl) : PS X (.Assign [tg] e pos) (tAsg te g) := by
  intro pins s σ H D I h
  refine wpAny_Assign_stores (thn (he pins s σ H _ I h) fun v s1 ⟨x, H1, I1, r1, q1⟩ => ?_) hs hw
  rw [h1]
  exact thn (hg pins s1 σ H1 x v _ I1 r1 q1) fun _ s2 q => q
/-- name = value -/
theorem ps_set {i : Nat} {x : Str} {e : Expr} {te : TE} {pos' : Pos} (hN : X.N.Nodup) (hi : X.N[i]? = some x) (hx : Loc X.env.scope x) (he : PE X e te) (hs : swapsWith e (some (.Name x pos')) pos.line X.env = pure false := by rfl) (hf : X.fn x = true ∨ X.env.scope.names.lookup x = some .local := by first | exact .inl rfl | exact .inr rfl | assumption) :
    PS X (.Assign [.Name x pos'] e pos) (tAsg te (gName i)) := by
  intro pins s σ H D I h
  refine wpAny_Assign_Name (thn (he pins s σ H _ I h) fun v s1 ⟨y, H1, I1, r1, q1⟩ => ?_) hs
  exact store_ok I1 hN hi hx r1 (fun s2 I2 => ⟨_, H1, I2, q1⟩) hf
/-- a, b = x, y with plain local names: stored from the right; the pair itself is not tracked (the opening rows as in PyProof/Rows/TupAssign.lean:23) -/
def tPar (i j : Nat) (ta : TA) : TS := fun D σ H => ta σ H fun vs H1 => ∃ v w, vs = [v, w] ∧ D.nx ((σ.set i (some v)).set j (some w)) H1
/-- name op= e -/
def tAug (i : Nat) (te : TE) (ti : TIp) : TS := fun D σ H => ∃ x, σ[i]? = some (some x) ∧ te σ H fun y H1 => ti x y H1 fun z H2 => D.nx (σ.set i (some z)) H2
/-- o[i] op= e -/
def tAugS (to ti te : TE) (tget : V → V → Hp → VK → Prop) (tip : TIp) (tset : TSet) : TS := fun D σ H => to σ H fun o H1 => ti σ H1 fun i H2 => tget o i H2 fun x H3 => te σ H3 fun y H4 => tip x y H4 fun z H5 => tset o i z H5 fun H6 => D.nx σ H6
/-- o[i], by values -/
def PGet (X : Cx) (t : V → V → Hp → VK → Prop) : Prop :=
  ∀ (pins : List (Addr × Obj)) (s : Shared) (σ : St) (H : Hp) (o i : V) (ov iv : Value) (Q : VK), Inv X pins σ H s → RelV o ov → RelV i iv → t o i H Q →
    wpAny (model X.prog X.w) X.A (getItem ov iv) (EP X pins σ Q) X.xe s
/-- ints -/
def ipI (f : Int → Int → Int) : TIp := fun x y H Q => ∃ i j, x = .int i ∧ y = .int j ∧ Q (.int (f i j)) H
end

/-! ### while -/
section
variable {X : Cx} {pos : Pos}
/-- the invariant W with its measure -/
def tWhile (c : TT) (tb : TS) : TS := fun D σ H => ∃ W : Nat → St → Hp → Prop, (∃ m, W m σ H) ∧ ∀ m σ H, W m σ H →
  c σ H fun b H1 => if b = true then ∃ N : St → Hp → Prop, (∀ σ' H', N σ' H' → ∃ m', m' < m ∧ W m' σ' H') ∧ tb { D with nx := N, ct := N, bk := D.nx } σ H1 else D.nx σ H1
end

/-! ### what a loop or a comprehension walks -/
/-- at turn i: it yields x (the heap may grow), or it stops -/
structure It where
  go : Nat → Hp → Prop
  yld : Nat → Hp → V → Hp → Prop
  stop : Nat → Hp → Prop
/-- the iterator's own objects may turn: they are not the frame's, not pinned, younger than the entry (or a comprehension's own) -/
def FpOk (X : Cx) (pins : List (Addr × Obj)) (H : Hp) (b : Addr) : Prop :=
  H b = none ∧ b ≠ X.env.locals ∧ b ∉ X.fs ∧ (b ∈ X.ex ∨ X.s₀.heap.objs.size ≤ b) ∧ (∀ x c, X.env.cells.lookup x = some c → c ≠ b) ∧ ∀ p ∈ X.pn ++ pins, p.1 ≠ b
theorem Inv.fpOk {X : Cx} {pins : List (Addr × Obj)} {σ : St} {H H' : Hp} {s : Shared} {b : Addr} (I : Inv X pins σ H s) (hb : s.heap.objs.size ≤ b) (hn : H' b = none) : FpOk X pins H' b := by
  refine ⟨hn, Nat.ne_of_gt (Nat.lt_of_lt_of_le I.lt hb), I.nofs hb, .inr (Nat.le_trans I.sz hb), fun x c e z => ?_, fun p hp z => ?_⟩
  · obtain ⟨v, q⟩ := I.cell x c e
    exact absurd (Nat.lt_of_lt_of_le q.lt (by rw [z]; exact hb)) (Nat.lt_irrefl _)
  · exact absurd (Nat.lt_of_lt_of_le (Heap.lt_size (I.pin p hp).1) (by rw [z]; exact hb)) (Nat.lt_irrefl _)
structure Turn (P : Program) (w : World) (K : PySem.W.Frag) (tg : Expr) (J : It) (fp : List Addr) (it : Addr) (tn : Nat → Heap → Prop) : Prop where
  mem : it ∈ fp
  obj : ∀ i h, tn i h → ∀ b ∈ fp, ∃ o, h.get? b = some o ∧ ∀ v, o.data ≠ .cell v
  keep : ∀ i h h', tn i h → (∀ b ∈ fp, ∀ o, h.get? b = some o → h'.get? b = some o) → tn i h'
  item : ∀ (X : Cx), X.prog = P → X.w = w → X.K = K → X.calm = true → ∀ (i : Nat) (pins : List (Addr × Obj)) (s : Shared) (σ : St) (H : Hp) (E : Value → Shared → Prop), Inv X pins σ H s → (∀ b ∈ fp, FpOk X pins H b) → tn i s.heap → J.go i H →
    wpAny (model P w) X.A (pyNext (.ref it)) (fun r s1 => ∃ u, r = some u ∧
      wpAny (model P w) X.A (letOwnedTupleGo tg (.ref it) u) (fun _ s2 => ∃ x H', Inv X pins σ H' s2 ∧ RelV x u ∧ J.yld i H x H' ∧ tn (i + 1) s2.heap ∧ ∀ b ∈ fp, H' b = none) E s1) E s
  done : ∀ (X : Cx), X.prog = P → X.w = w → X.K = K → X.calm = true → ∀ (i : Nat) (pins : List (Addr × Obj)) (s : Shared) (σ : St) (H : Hp) (E : Value → Shared → Prop), Inv X pins σ H s → (∀ b ∈ fp, FpOk X pins H b) → tn i s.heap → J.stop i H →
    wpAny (model P w) X.A (pyNext (.ref it)) (fun r s1 => r = none ∧ Inv X pins σ H s1) E s
  self : ∀ (A : Around) (i : Nat) (s : Shared) (Q : Value → Shared → Prop) (E : Value → Shared → Prop), tn i s.heap → Q (.ref it) s → wpAny (model P w) A (pyIter (.ref it)) Q E s
abbrev TI := St → Hp → (It → Hp → Prop) → Prop
/-- an iterator has come -/
def PIE (X : Cx) (pins : List (Addr × Obj)) (σ : St) (tg : Expr) (R : It → Hp → Prop) (itv : Value) (s2 : Shared) : Prop :=
  ∃ (it : Addr) (fp : List Addr) (tn : Nat → Heap → Prop) (J : It) (H' : Hp), itv = .ref it ∧ Inv X pins σ H' s2 ∧ Turn X.prog X.w X.K tg J fp it tn ∧ tn 0 s2.heap ∧ (∀ b ∈ fp, FpOk X pins H' b) ∧ R J H'
def PI (X : Cx) (tg iter : Expr) (wi : TI) : Prop :=
  ∀ (pins : List (Addr × Obj)) (s : Shared) (σ : St) (H : Hp) (R : It → Hp → Prop), Inv X pins σ H s → wi σ H R →
    wpAny (model X.prog X.w) X.A (eval iter X.env) (fun v s1 => wpAny (model X.prog X.w) X.A (pyIter v) (PIE X pins σ tg R) X.xe s1) X.xe s

/-- the step ahead of the store is nothing for an iterator that keeps no tuple -/
theorem go_of {M : Model} {A : Around} {E : Value → Shared → Prop} {s : Shared} {tg : Expr} {it : Addr} {u : Value} {o : Obj} {n : String} {vs : Array Value} {Q : Unit → Shared → Prop} (ho : s.heap.get? it = some o) (hc : o.cls = .type n) (hd : o.data = .fields vs)
    (hn : ["enumerate", "zip", "dict_itemiterator", "dict_reverseitemiterator", "odict_iterator", "itertools.zip_longest", "itertools.pairwise"].contains n = false) (hQ : Q () s) : wpAny M A (letOwnedTupleGo tg (.ref it) u) Q E s := by
  unfold letOwnedTupleGo
  cases tg <;> first
    | exact wpAny_pure hQ
    | (cases u <;> first
        | exact wpAny_pure hQ
        | (refine wpAny_bind (wpAny_load ho ?_)
           rw [hc, hd]
           show wpAny M A (if (["enumerate", "zip", "dict_itemiterator", "dict_reverseitemiterator", "odict_iterator", "itertools.zip_longest", "itertools.pairwise"].contains n && vs[0]? == some (rawInt _)) = true then _ else _) Q E s
           rw [if_neg (by intro h; rw [hn, Bool.false_and] at h; cases h)]
           exact wpAny_pure hQ))

/-- the list at a, as it stands at each turn (a loop may append to it) -/
def Itl (K : PySem.W.Frag) (a : Addr) : It :=
  ⟨fun i H => ∃ xs x, SqL K H a xs ∧ xs[i]? = some x, fun i H x H' => H' = H ∧ ∀ xs, SqL K H a xs → xs[i]? = some x, fun i H => ∃ xs, SqL K H a xs ∧ xs.length ≤ i⟩
def Itt (K : PySem.W.Frag) (a : Addr) : It :=
  ⟨fun i H => ∃ xs x, SqT K H a xs ∧ xs[i]? = some x, fun i H x H' => H' = H ∧ ∀ xs, SqT K H a xs → xs[i]? = some x, fun i H => ∃ xs, SqT K H a xs ∧ xs.length ≤ i⟩
/-- lo, lo + 1, .. (n of them) -/
def Itr (lo : Int) (n : Nat) : It := ⟨fun i _ => i < n, fun i H x H' => H' = H ∧ x = .int (lo + i), fun i _ => n ≤ i⟩
theorem turn_list {P : Program} {w : World} {K : PySem.W.Frag} {tg : Expr} (a it : Addr) : Turn P w K tg (Itl K a) [it] it (fun i h => h.IsListIter it a i) where
  mem := by simp
  obj := fun i h st b hb => by
    have e : b = it := by simpa using hb
    subst e
    obtain ⟨o, e, c, d⟩ := st
    exact ⟨o, e, fun v z => by rw [d] at z; cases z⟩
  keep := fun i h h' st k => st.at fun o e => k it (by simp) o e
  item := by
    intro X hP hw hK hc i pins s σ H E I hf st hg
    subst hP hw hK
    obtain ⟨xs, x, hq, hx⟩ := hg
    obtain ⟨its, rv, p, hz⟩ := I.list hq
    obtain ⟨u, hu, ru⟩ := rv.get hx
    obtain ⟨f0, f1, f2, f3, f4, f5⟩ := hf it (by simp)
    refine wpAny_pyNext_list_item st p.isList (x := u) (by simpa using hu) fun h' st' sb => ?_
    have I1 : Inv X pins σ H { s with heap := h' } := I.turned (t' := s.toks) (fun b o hb e => (sb.2 b hb).trans e) f0 f1 f3 f4 f5
    obtain ⟨o, e, c, d⟩ := id st'
    exact ⟨u, rfl, go_of (s := { s with heap := h' }) e c d (by decide) ⟨x, H, I1, ru, ⟨rfl, fun ys hy => by rw [I.list_inj hy hq]; exact hx⟩, st', fun b hb => (hf b hb).1⟩⟩
  done := by
    intro X hP hw hK hc i pins s σ H E I hf st hg
    subst hP hw hK
    obtain ⟨xs, hq, hx⟩ := hg
    obtain ⟨its, rv, p, hz⟩ := I.list hq
    obtain ⟨f0, f1, f2, f3, f4, f5⟩ := hf it (by simp)
    have hl := rv.length
    exact wpAny_pyNext_list_end (I.ok.hd hc) st p.isList (by simp; omega) fun h' eb => ⟨rfl, I.turned (t' := s.toks) (fun b o hb e => eb b o hb e) f0 f1 f3 f4 f5⟩
  self := fun _ _ _ _ _ st h => wpAny_pyIter_listiter st h
theorem turn_range {P : Program} {w : World} {K : PySem.W.Frag} {tg : Expr} (it : Addr) (lo : Int) (n : Nat) : Turn P w K tg (Itr lo n) [it] it (fun i h => IsRangeIter h it (lo + (i : Nat) * 1) ((n : Int) - (i : Nat)) 1) where
  mem := by simp
  obj := fun i h st b hb => by
    have e : b = it := by simpa using hb
    subst e
    exact ⟨_, st, fun v z => by
      have z' : Data.fields _ = Data.cell v := z
      cases z'⟩
  keep := fun i h h' st k => k it (by simp) _ st
  item := by
    intro X hP hw hK hc i pins s σ H E I hf st hg
    subst hP hw hK
    obtain ⟨f0, f1, f2, f3, f4, f5⟩ := hf it (by simp)
    have W := Walks.range (prog := X.prog) (w := X.w) (I.ok.hd hc) it lo 1 n
    refine W.item i s _ _ hg st fun v h' tk hv st' kk => ?_
    obtain ⟨t, rfl⟩ := hv
    have I1 : Inv X pins σ H { s with heap := h', toks := tk } := I.turned (fun b o hb e => kk b o (by simpa using hb) e) f0 f1 f3 f4 f5
    refine ⟨_, rfl, go_of (s := { s with heap := h', toks := tk }) (n := "range_iterator") st' rfl rfl (by decide) ⟨.int (lo + i), H, I1, ⟨t, ?_⟩, ⟨rfl, rfl⟩, st', fun b hb => (hf b hb).1⟩⟩
    rw [Int.mul_one]
  done := by
    intro X hP hw hK hc i pins s σ H E I hf st hg
    subst hP hw hK
    obtain ⟨f0, f1, f2, f3, f4, f5⟩ := hf it (by simp)
    exact wpAny_pyNext_range_end (I.ok.hd hc) st (by have : n ≤ i := hg; omega) fun h' eb => ⟨rfl, I.turned (t' := s.toks) (fun b o hb e => eb b o hb e) f0 f1 f3 f4 f5⟩
  self := fun _ _ _ _ _ st h => wpAny_pyIter_rangeiter st h
end L2

namespace L2
open PySem PySem.Spec PyProof.Rows
section
variable {X : Cx} {tg : Expr}
def iList (K : PySem.W.Frag) (tl : TE) : TI := fun σ H R => tl σ H fun x H1 => ∃ a, x = .ref a ∧ (∃ xs, SqL K H1 a xs) ∧ R (Itl K a) H1
def iTup (K : PySem.W.Frag) (tl : TE) : TI := fun σ H R => tl σ H fun x H1 => ∃ a, x = .ref a ∧ (∃ xs, SqT K H1 a xs) ∧ R (Itt K a) H1
theorem pi_list {l : Expr} {tl : TE} (hl : PE X l tl) : PI X tg l (iList X.K tl) := by
  intro pins s σ H R I h
  refine thn (hl pins s σ H _ I h) fun v s1 ⟨x, H1, I1, r1, q1⟩ => ?_
  obtain ⟨a, e, ⟨xs, hq⟩, q⟩ := q1
  subst e
  cases r1
  obtain ⟨its, rv, p, hz⟩ := I1.list hq
  refine wpAny_pyIter_list p.isList ?_
  refine ⟨s1.heap.objs.size, [s1.heap.objs.size], _, _, H1, rfl, I1.kept (t' := s1.toks) fun b o e => Heap.get?_push_of_some _ e, turn_list a _, ⟨_, Heap.get?_push_size _ rfl, rfl, rfl⟩, fun b hb => ?_, q⟩
  have e : b = s1.heap.objs.size := by simpa using hb
  subst e
  exact I1.fpOk (Nat.le_refl _) (I1.hok.fresh (Nat.le_refl _))
/-- a range object just made, walked -/
theorem range_it {pins : List (Addr × Obj)} {σ : St} {H : Hp} {s : Shared} {R : It → Hp → Prop} {E : Value → Shared → Prop} {lo hi : Int} {t u v : Tok} {tk : Nat} (I : Inv X pins σ H s) (h1 : -(2 ^ 62) ≤ lo) (h2 : lo < 2 ^ 62) (h3 : -(2 ^ 62) ≤ hi) (h4 : hi < 2 ^ 62)
    (q : R (Itr lo (hi - lo).toNat) H) : wpAny (model X.prog X.w) X.A (pyIter (.ref s.heap.objs.size)) (PIE X pins σ tg R) E { s with heap := s.heap.push { cls := .type "range", data := .fields #[.int lo t, .int hi u, .int 1 v] }, toks := tk } := by
  refine wpAny_pyIter_range (IsRange.new ..) (small_one h1 h2 h3 h4) ?_
  have I1 : Inv X pins σ H { s with heap := s.heap.push { cls := .type "range", data := .fields #[.int lo t, .int hi u, .int 1 v] }, toks := tk } := I.kept fun b o e => Heap.get?_push_of_some _ e
  refine ⟨(s.heap.push { cls := .type "range", data := .fields #[.int lo t, .int hi u, .int 1 v] }).objs.size, [(s.heap.push { cls := .type "range", data := .fields #[.int lo t, .int hi u, .int 1 v] }).objs.size], _, _, H, rfl,
    I1.kept (t' := tk) fun b o e => Heap.get?_push_of_some _ e, turn_range _ lo (hi - lo).toNat, ?_, fun b hb => ?_, q⟩
  · have e1 : lo + ((0 : Nat) : Int) * 1 = lo := by simp
    have e2 : (((hi - lo).toNat : Nat) : Int) - ((0 : Nat) : Int) = Builtin.Range.rangeSize lo hi 1 := by rw [rangeSize_one]; split <;> omega
    show IsRangeIter _ _ (lo + ((0 : Nat) : Int) * 1) ((((hi - lo).toNat : Nat) : Int) - ((0 : Nat) : Int)) 1
    rw [e1, e2]
    exact Heap.get?_push_size _ rfl
  · have e : b = (s.heap.push { cls := .type "range", data := .fields #[.int lo t, .int hi u, .int 1 v] }).objs.size := by simpa using hb
    subst e
    exact I1.fpOk (Nat.le_refl _) (I1.hok.fresh (Nat.le_refl _))
def iRng1 (ta : TA) : TI := fun σ H R => ta σ H fun vs H1 => ∃ j : Int, vs = [.int j] ∧ -(2 ^ 62) ≤ j ∧ j < 2 ^ 62 ∧ R (Itr 0 j.toNat) H1
def iRng2 (ta : TA) : TI := fun σ H R => ta σ H fun vs H1 => ∃ i j : Int, vs = [.int i, .int j] ∧ (-(2 ^ 62) ≤ i ∧ i < 2 ^ 62 ∧ -(2 ^ 62) ≤ j ∧ j < 2 ^ 62) ∧ R (Itr i (j - i).toNat) H1
theorem pi_range1 {a : Expr} {ta : TA} {p pos : Pos} (hg : Gl X "range") (hm : X.mg "range" = none) (ha : PA X [a] ta) (hs : starEach [a] X.env = [(false, eval a X.env)] := by rfl) : PI X tg (.Call (.Name "range" p) [a] [] pos) (iRng1 ta) := by
  intro pins s σ H R I h
  refine Call_ (ld_blt I hg hm boot_range (PyProof.Rows.callWith_type1 (thn (ha pos pins s σ H _ I h) fun us s1 ⟨vs, H1, I1, r1, q1⟩ => ?_) hs rfl))
  obtain ⟨j, e, q1, q2, q⟩ := q1
  subst e
  cases r1 with
  | cons r rr =>
    cases rr
    obtain ⟨t, rfl⟩ := r
    exact call_range_1 (range_it I1 (by omega) (by omega) q1 q2 (by simpa using q))
/-! ### for -/
/-- W: the invariant by the turn and a measure; N: what the body is to reach -/
def tFor (wi : TI) (g : TG) (tb : TS) : TS := fun D σ H => wi σ H fun J H1 => ∃ W : Nat → Nat → St → Hp → Prop, (∃ m, W 0 m σ H1) ∧ ∀ i m σ H, W i m σ H →
  (J.stop i H ∧ D.nx σ H) ∨ (J.go i H ∧ ∃ N : St → Hp → Prop, (∀ σ' H', N σ' H' → ∃ m', m' < m ∧ W (i + 1) m' σ' H') ∧ ∀ x H', J.yld i H x H' → g x σ H' fun σ2 H2 => tb { D with nx := N, ct := N, bk := D.nx } σ2 H2)
/-- the records at fp as they stand -/
def pinsAt (fp : List Addr) (h : Heap) : List (Addr × Obj) := fp.filterMap fun b => (h.get? b).map fun o => (b, o)
theorem mem_pinsAt {fp : List Addr} {h : Heap} {b : Addr} {o : Obj} (hb : b ∈ fp) (e : h.get? b = some o) : (b, o) ∈ pinsAt fp h := List.mem_filterMap.mpr ⟨b, hb, by rw [e]; rfl⟩
theorem of_pinsAt {fp : List Addr} {h : Heap} {p : Addr × Obj} (hp : p ∈ pinsAt fp h) : p.1 ∈ fp ∧ h.get? p.1 = some p.2 := by
  obtain ⟨b, hb, e⟩ := List.mem_filterMap.mp hp
  cases q : h.get? b with
  | none => rw [q] at e; cases e
  | some o =>
    rw [q] at e
    have e' : (b, o) = p := Option.some.inj e
    subst e'
    exact ⟨hb, q⟩
theorem Inv.pinned {pins : List (Addr × Obj)} {σ : St} {H : Hp} {s : Shared} {fp : List Addr} (I : Inv X pins σ H s) (hf : ∀ b ∈ fp, FpOk X pins H b) (ho : ∀ b ∈ fp, ∃ o, s.heap.get? b = some o ∧ ∀ v, o.data ≠ .cell v) : Inv X (pins ++ pinsAt fp s.heap) σ H s :=
  I.pins_of fun p hp => (List.mem_append.mp hp).elim (fun z => I.pin p (List.mem_append_right _ z)) fun z => by
    obtain ⟨hb, e⟩ := of_pinsAt z
    obtain ⟨f0, f1, f2, _⟩ := hf p.1 hb
    obtain ⟨o, e', d⟩ := ho p.1 hb
    rw [e] at e'; cases e'
    exact ⟨e, f0, f1, f2, d⟩
theorem Inv.unpinned {pins pl : List (Addr × Obj)} {σ : St} {H : Hp} {s : Shared} (I : Inv X (pins ++ pl) σ H s) : Inv X pins σ H s := I.pins_of fun p hp => I.pin p (List.mem_append_right _ (List.mem_append_left _ hp))
theorem ps_for {iter : Expr} {body : List Stmt} {wi : TI} {g : TG} {tb : TS} {pos : Pos} (hp : PassesOwn (model X.prog X.w) X.A X.env X.xe) (hc : X.calm = true) (hi : PI X tg iter wi) (hg : PG X tg g) (hb : PSs X body tb)
    (hs : ∀ x, foldedSetIterable iter X.env x = pure x := by intro _; rfl) : PS X (.For tg iter body [] pos) (tFor wi g tb) := by
  intro pins s σ H D I h
  refine wpAny_For (thn (hi pins s σ H _ I h) fun v s1 h1 => thn h1 fun itv s2 h2 => ?_) hs
  obtain ⟨it, fp, tn, J, H2, e, I2, T, st2, f2, W, ⟨m0, w0⟩, turn⟩ := h2
  subst e
  -- what stays true of the iterator's objects through the loop
  have stat : ∀ {H' : Hp}, (∀ b ∈ fp, H' b = none) → ∀ b ∈ fp, FpOk X pins H' b := fun hn b hb => ⟨hn b hb, (f2 b hb).2⟩
  refine codeAny_forLoop_any (fun n s' => ∃ i σ' H', Inv X pins σ' H' s' ∧ tn i s'.heap ∧ (∀ b ∈ fp, H' b = none) ∧ W i n σ' H') ?_ m0 ⟨0, σ, H2, I2, st2, fun b hb => (f2 b hb).1, w0⟩
  rintro n s3 ⟨i, σ3, H3, I3, st3, fr3, w3⟩
  rcases turn i n σ3 H3 w3 with ⟨stop, qn⟩ | ⟨go, N, hN, step⟩
  · refine wpAny_passesOwn hp (thn (T.done X rfl rfl rfl hc i pins s3 σ3 H3 X.xe I3 (stat fr3) st3 stop) fun r s4 ⟨hr, I4⟩ => ?_)
    subst hr
    exact wpAny_execs_nil ⟨σ3, H3, I4, qn⟩
  · refine wpAny_passesOwn hp (thn (T.item X rfl rfl rfl hc i pins s3 σ3 H3 X.xe I3 (stat fr3) st3 go) fun r s4 ⟨u, hr, h4⟩ => ?_)
    subst hr
    refine wpAny_passesOwn hp (thn h4 fun _ s5 ⟨x, H5, I5, r5, y5, st5, fr5⟩ => ?_)
    have I5' := I5.pinned (stat fr5) (T.obj _ _ st5)
    refine wpAny_passesOwn hp (thn (hg _ s5 σ3 H5 x u _ I5' r5 (step x H5 y5)) fun _ s6 ⟨σ6, H6, I6, q6⟩ => ?_)
    refine wpAny_passesOwn hp (thn (hb _ s6 σ6 H6 _ I6 q6) fun f s7 q7 => ?_)
    have again : ∀ {σ7 : St} {H7 : Hp}, Inv X (pins ++ pinsAt fp s5.heap) σ7 H7 s7 → N σ7 H7 → ∃ m, m < n ∧ ∃ i σ' H', Inv X pins σ' H' s7 ∧ tn i s7.heap ∧ (∀ b ∈ fp, H' b = none) ∧ W i m σ' H' := fun {σ7 H7} I7 n7 => by
      obtain ⟨m', hm, w7⟩ := hN σ7 H7 n7
      refine ⟨m', hm, i + 1, σ7, H7, I7.unpinned, T.keep _ _ _ st5 fun b hb o e => (I7.pin (b, o) (List.mem_append_right _ (List.mem_append_right _ (mem_pinsAt hb e)))).1, fun b hb => ?_, w7⟩
      obtain ⟨o, e, d⟩ := T.obj _ _ st5 b hb
      exact (I7.pin (b, o) (List.mem_append_right _ (List.mem_append_right _ (mem_pinsAt hb e)))).2.1
    cases f with
    | next => obtain ⟨σ7, H7, I7, n7⟩ := q7; exact again I7 n7
    | cont => obtain ⟨σ7, H7, I7, n7⟩ := q7; exact again I7 n7
    | brk => obtain ⟨σ7, H7, I7, q7⟩ := q7; exact ⟨σ7, H7, I7.unpinned, q7⟩
    | ret v => obtain ⟨x7, σ7, H7, I7, r7, q7⟩ := q7; exact ⟨x7, σ7, H7, I7.unpinned, r7, q7⟩
end

/-! ### the forms one uses -/
/-- over a list that the body leaves as it is -/
theorem for_list {K : PySem.W.Frag} {a : Addr} {xs : List V} {g : TG} {tb : TS} {D : Ends} {σ : St} {H : Hp} (Pv : Nat → St → Hp → Prop) (h0 : Pv 0 σ H) (hl : ∀ i σ H, i ≤ xs.length → Pv i σ H → SqL K H a xs)
    (hs : ∀ i x σ H, xs[i]? = some x → Pv i σ H → g x σ H fun σ2 H2 => tb { D with nx := Pv (i + 1), ct := Pv (i + 1), bk := D.nx } σ2 H2) (hd : ∀ σ H, Pv xs.length σ H → D.nx σ H) :
    ∃ W : Nat → Nat → St → Hp → Prop, (∃ m, W 0 m σ H) ∧ ∀ i m σ H, W i m σ H →
      ((Itl K a).stop i H ∧ D.nx σ H) ∨ ((Itl K a).go i H ∧ ∃ N : St → Hp → Prop, (∀ σ' H', N σ' H' → ∃ m', m' < m ∧ W (i + 1) m' σ' H') ∧ ∀ x H', (Itl K a).yld i H x H' → g x σ H' fun σ2 H2 => tb { D with nx := N, ct := N, bk := D.nx } σ2 H2) := by
  refine ⟨fun i m σ H => m = xs.length - i ∧ i ≤ xs.length ∧ Pv i σ H, ⟨xs.length, by simp, Nat.zero_le _, h0⟩, ?_⟩
  rintro i m σ H ⟨rfl, hi, p⟩
  have q := hl i σ H hi p
  by_cases hlt : i < xs.length
  · refine .inr ⟨⟨xs, xs[i], q, by simp [hlt]⟩, Pv (i + 1), fun σ' H' p' => ⟨xs.length - (i + 1), by omega, rfl, hlt, p'⟩, fun x H' y => ?_⟩
    obtain ⟨e, y⟩ := y
    subst e
    exact hs i x σ _ (y xs q) p
  · have e : i = xs.length := by omega
    subst e
    exact .inl ⟨⟨xs, q, Nat.le_refl _⟩, hd σ H p⟩
theorem for_range {lo : Int} {n : Nat} {g : TG} {tb : TS} {D : Ends} {σ : St} {H : Hp} (Pv : Nat → St → Hp → Prop) (h0 : Pv 0 σ H)
    (hs : ∀ i σ H, i < n → Pv i σ H → g (.int (lo + i)) σ H fun σ2 H2 => tb { D with nx := Pv (i + 1), ct := Pv (i + 1), bk := D.nx } σ2 H2) (hd : ∀ σ H, Pv n σ H → D.nx σ H) :
    ∃ W : Nat → Nat → St → Hp → Prop, (∃ m, W 0 m σ H) ∧ ∀ i m σ H, W i m σ H →
      ((Itr lo n).stop i H ∧ D.nx σ H) ∨ ((Itr lo n).go i H ∧ ∃ N : St → Hp → Prop, (∀ σ' H', N σ' H' → ∃ m', m' < m ∧ W (i + 1) m' σ' H') ∧ ∀ x H', (Itr lo n).yld i H x H' → g x σ H' fun σ2 H2 => tb { D with nx := N, ct := N, bk := D.nx } σ2 H2) := by
  refine ⟨fun i m σ H => m = n - i ∧ i ≤ n ∧ Pv i σ H, ⟨n, by simp, Nat.zero_le _, h0⟩, ?_⟩
  rintro i m σ H ⟨rfl, hi, p⟩
  by_cases hlt : i < n
  · refine .inr ⟨hlt, Pv (i + 1), fun σ' H' p' => ⟨n - (i + 1), by omega, rfl, hlt, p'⟩, fun x H' y => ?_⟩
    obtain ⟨e, y⟩ := y
    subst e y
    exact hs i σ _ hlt p
  · have e : i = n := by omega
    subst e
    exact .inl ⟨Nat.le_refl _, hd σ H p⟩
end L2

namespace L2
open PySem PySem.Spec PyProof.Rows

abbrev R2 := V → V → Hp → VK → Prop
/-- a two-place operation on values: f is binaryOp op, inplaceOp op or compareOp op -/
def OpR (X : Cx) (f : Value → Value → Sem Value) (r : R2) : Prop :=
  ∀ (pins : List (Addr × Obj)) (s : Shared) (σ : St) (H : Hp) (x y : V) (v u : Value) (Q : VK), Inv X pins σ H s → RelV x v → RelV y u → r x y H Q →
    wpAny (model X.prog X.w) X.A (f v u) (EP X pins σ Q) X.xe s
/-- a one-place operation -/
def UnR (X : Cx) (f : Value → Sem Value) (r : V → Hp → VK → Prop) : Prop :=
  ∀ (pins : List (Addr × Obj)) (s : Shared) (σ : St) (H : Hp) (x : V) (v : Value) (Q : VK), Inv X pins σ H s → RelV x v → r x H Q →
    wpAny (model X.prog X.w) X.A (f v) (EP X pins σ Q) X.xe s
/-- a call of a value that is known (a builtin, a type) with values -/
def CallR (X : Cx) (f : Value) (r : List V → Hp → VK → Prop) : Prop :=
  ∀ (pins : List (Addr × Obj)) (s : Shared) (σ : St) (H : Hp) (xs : List V) (us : List Value) (Q : VK), Inv X pins σ H s → Vals xs us → r xs H Q →
    wpAny (model X.prog X.w) X.A (call f us) (EP X pins σ Q) X.xe s
/-- a value's truth -/
def TruR (X : Cx) (r : V → Hp → (Bool → Hp → Prop) → Prop) : Prop :=
  ∀ (pins : List (Addr × Obj)) (s : Shared) (σ : St) (H : Hp) (x : V) (v : Value) (Q : Bool → Hp → Prop), Inv X pins σ H s → RelV x v → r x H Q →
    wpAny (model X.prog X.w) X.A (truthy v) (TP X pins σ Q) X.xe s

def tOp (r : R2) (ta tb : TE) : TE := fun σ H Q => ta σ H fun x H1 => tb σ H1 fun y H2 => r x y H2 Q
def tUn (r : V → Hp → VK → Prop) (ta : TE) : TE := fun σ H Q => ta σ H fun x H1 => r x H1 Q
/-- ints in, under C, and a value out -/
def rI (C : Int → Int → Prop) (g : Int → Int → V) : R2 := fun x y H Q => ∃ i j, x = .int i ∧ y = .int j ∧ C i j ∧ Q (g i j) H
def rI0 (g : Int → Int → V) : R2 := fun x y H Q => ∃ i j, x = .int i ∧ y = .int j ∧ Q (g i j) H
def rU (g : Int → V) : V → Hp → VK → Prop := fun x H Q => ∃ i, x = .int i ∧ Q (g i) H

section
variable {X : Cx} {a b c : Expr} {ta tb tc : TE} {pos : Pos}

theorem binT (ha : PE X a ta) (hb : PE X b tb) {pins : List (Addr × Obj)} {s : Shared} {σ : St} {H : Hp} {R : V → V → Hp → Prop} (I : Inv X pins σ H s)
    (h : ta σ H fun x H1 => tb σ H1 fun y H2 => R x y H2) {Q : Value → Shared → Prop} {f : Value → Value → Sem Value}
    (hf : ∀ v u s2 x y H2, Inv X pins σ H2 s2 → RelV x v → RelV y u → R x y H2 → wpAny (model X.prog X.w) X.A (f v u) Q X.xe s2) :
    wpAny (model X.prog X.w) X.A (eval a X.env) (fun v s₁ => wpAny (model X.prog X.w) X.A (eval b X.env) (fun u s₂ => wpAny (model X.prog X.w) X.A (f v u) Q X.xe s₂) X.xe s₁) X.xe s := by
  refine thn (ha pins s σ H _ I h) fun v s1 ⟨x, H1, I1, r1, q1⟩ => ?_
  refine thn (hb pins s1 σ H1 _ I1 q1) fun u s2 ⟨y, H2, I2, r2, q2⟩ => ?_
  exact hf v u s2 x y H2 I2 r1 r2 q2

theorem pe_op {op : Operator} {r : R2} (ho : OpR X (binaryOp op) r) (ha : PE X a ta) (hb : PE X b tb) : PE X (.BinOp a op b pos) (tOp r ta tb) := by
  intro pins s σ H Q I h
  exact wpAny_BinOp (binT ha hb I h fun v u s2 x y H2 I2 rx ry q => ho pins s2 σ H2 x y v u Q I2 rx ry q)
/-! ### ints -/
theorem opI {f : Value → Value → Sem Value} {C : Int → Int → Prop} {g : Int → Int → Int}
    (rule : ∀ (i j : Int) (t u : Tok) (s : Shared) (Q : Value → Shared → Prop) (E : Value → Shared → Prop), C i j → Q (.int (g i j) s.toks) { s with toks := s.toks + 1 } → wpAny (model X.prog X.w) X.A (f (.int i t) (.int j u)) Q E s) :
    OpR X f (rI C fun i j => .int (g i j)) := by
  intro pins s σ H x y v u Q I rx ry h
  obtain ⟨i, j, rfl, rfl, hc, q⟩ := h
  obtain ⟨t, rfl⟩ := rx
  obtain ⟨t', rfl⟩ := ry
  exact rule i j t t' s _ _ hc ⟨.int (g i j), H, I.tok _, ⟨_, rfl⟩, q⟩
theorem opI0 {f : Value → Value → Sem Value} {g : Int → Int → Int}
    (rule : ∀ (i j : Int) (t u : Tok) (s : Shared) (Q : Value → Shared → Prop) (E : Value → Shared → Prop), Q (.int (g i j) s.toks) { s with toks := s.toks + 1 } → wpAny (model X.prog X.w) X.A (f (.int i t) (.int j u)) Q E s) :
    OpR X f (rI0 fun i j => .int (g i j)) := by
  intro pins s σ H x y v u Q I rx ry h
  obtain ⟨i, j, rfl, rfl, q⟩ := h
  obtain ⟨t, rfl⟩ := rx
  obtain ⟨t', rfl⟩ := ry
  exact rule i j t t' s _ _ ⟨.int (g i j), H, I.tok _, ⟨_, rfl⟩, q⟩
theorem opB0 {f : Value → Value → Sem Value} {g : Int → Int → Bool}
    (rule : ∀ (i j : Int) (t u : Tok) (s : Shared) (Q : Value → Shared → Prop) (E : Value → Shared → Prop), Q (.bool (g i j)) s → wpAny (model X.prog X.w) X.A (f (.int i t) (.int j u)) Q E s) :
    OpR X f (rI0 fun i j => .bl (g i j)) := by
  intro pins s σ H x y v u Q I rx ry h
  obtain ⟨i, j, rfl, rfl, q⟩ := h
  obtain ⟨t, rfl⟩ := rx
  obtain ⟨t', rfl⟩ := ry
  exact rule i j t t' s _ _ ⟨.bl (g i j), H, I, rfl, q⟩

def CDiv (i j : Int) : Prop := 0 < j ∧ j < 1073741824
def CDivN (i j : Int) : Prop := j ≠ 0 ∧ j.natAbs < 1073741824
def CPow (i j : Int) : Prop := 0 ≤ j ∧ j ≤ 1000000 ∧ i.natAbs < 2 ^ 64
def CMul (i j : Int) : Prop := (-(2 ^ 64) < i ∧ i < 2 ^ 64) ∨ (-(2 ^ 64) < j ∧ j < 2 ^ 64)
theorem CMul.ok {i j : Int} (h : CMul i j) : IntMulOk i j := by
  rcases h with ⟨h1, h2⟩ | ⟨h1, h2⟩
  · exact .of_left (intBits_le_64 h1 h2)
  · exact .of_right (intBits_le_64 h1 h2)
theorem op_add : OpR X (binaryOp .Add) (rI0 fun i j => .int (i + j)) := opI0 fun _ _ _ _ _ _ _ q => add_int q
theorem op_sub : OpR X (binaryOp .Sub) (rI0 fun i j => .int (i - j)) := opI0 fun _ _ _ _ _ _ _ q => sub_int q
theorem op_mul : OpR X (binaryOp .Mult) (rI CMul fun i j => .int (i * j)) := opI fun _ _ _ _ _ _ _ hc q => mul_int q hc.ok
/-- // by a positive divisor -/
theorem op_fdiv : OpR X (binaryOp .FloorDiv) (rI CDiv fun i j => .int (i / j)) := opI fun i j _ _ _ _ _ hc q => by
  have h1 : (0 : Int) < j := hc.1
  have h2 : j < 1073741824 := hc.2
  exact floordiv_int (by omega) (by rw [Int.fdiv_eq_ediv_of_nonneg i (by omega)]; exact q) (.inl (PyProof.noPylong_small (by omega)))
/-- % by a positive divisor of any size -/
theorem op_mod : OpR X (binaryOp .Mod) (rI (fun _ j => 0 < j) fun i j => .int (i % j)) := opI fun i j _ _ _ _ _ hc q => by
  have h1 : (0 : Int) < j := hc
  exact mod_int' (by omega) (by rw [Int.fmod_eq_emod_of_nonneg i (by omega)]; exact q)
theorem op_pow : OpR X (binaryOp .Pow) (rI CPow fun i j => .int (i ^ j.toNat)) := opI fun _ _ _ _ _ _ _ hc q => pow_int_small hc.1 hc.2.1 hc.2.2 q
/-! ### bools among ints: n += (a < b) -/
end

/-! ### comparisons -/
/-- the scalars that == tells apart as data does -/
def scal : V → V → Bool
  | .non, .non => true | .non, .int _ => true | .int _, .non => true | .non, .bl _ => true | .bl _, .non => true | .non, .str _ => true | .str _, .non => true
  | .int _, .int _ => true | .bl _, .bl _ => true | .str _, .str _ => true | .byt _, .byt _ => true
  | .int _, .str _ => true | .str _, .int _ => true | .bl _, .str _ => true | .str _, .bl _ => true
  | _, _ => false
def rEq : R2 := fun x y H Q => scal x y = true ∧ Q (.bl (decide (x = y))) H
def rNe : R2 := fun x y H Q => scal x y = true ∧ Q (.bl (!decide (x = y))) H

theorem dec_int {i j : Int} : decide (V.int i = V.int j) = (i == j) := by
  rw [Bool.eq_iff_iff]
  simp
theorem dec_bl {i j : Bool} : decide (V.bl i = V.bl j) = (i == j) := by
  rw [Bool.eq_iff_iff]
  simp
theorem dec_str {i j : Str} : decide (V.str i = V.str j) = (i == j) := by
  rw [Bool.eq_iff_iff]
  simp
theorem dec_byt {i j : Array UInt8} : decide (V.byt i = V.byt j) = (i.toList == j.toList) := by
  rw [Bool.eq_iff_iff]
  cases i
  cases j
  simp

section
variable {X : Cx} {a b c : Expr} {ta tb tc : TE} {pos : Pos}
theorem fin_bl {pins : List (Addr × Obj)} {σ : St} {H : Hp} {s : Shared} {Q : VK} {k k' : Bool} (I : Inv X pins σ H s) (q : Q (.bl k) H) (e : k = k') : EP X pins σ Q (.bool k') s := by
  subst e
  exact ⟨.bl k, H, I, rfl, q⟩
theorem op_eq : OpR X (compareOp .Eq) rEq := by
  intro pins s σ H x y v u Q I rx ry h
  obtain ⟨hs, q⟩ := h
  cases x with
  | non =>
    cases rx
    cases y with
    | non => cases ry; exact PySem.EqNone.eq_none_none (fin_bl I q (by simp))
    | bl j => cases ry; exact PySem.EqNone.eq_none_bool (fin_bl I q (by simp))
    | int j => obtain ⟨t', rfl⟩ := ry; exact PySem.EqNone.eq_none_int (fin_bl I q (by simp))
    | str j => obtain ⟨t', rfl⟩ := ry; exact PySem.EqNone.eq_none_str (fin_bl I q (by simp))
    | _ => exact absurd (show false = true from hs) Bool.false_ne_true
  | bl i =>
    cases rx
    cases y with
    | non => cases ry; exact PySem.EqNone.eq_bool_none (fin_bl I q (by simp))
    | bl j => cases ry; exact eq_bool (fin_bl I q dec_bl)
    | str j => obtain ⟨t', rfl⟩ := ry; exact PySem.EqMixed.eq_bool_str (fin_bl I q (by simp))
    | _ => exact absurd (show false = true from hs) Bool.false_ne_true
  | int i =>
    obtain ⟨t, rfl⟩ := rx
    cases y with
    | non => cases ry; exact PySem.EqNone.eq_int_none (fin_bl I q (by simp))
    | int j => obtain ⟨t', rfl⟩ := ry; exact eq_int (fin_bl I q dec_int)
    | str j => obtain ⟨t', rfl⟩ := ry; exact PySem.EqMixed.eq_int_str (fin_bl I q (by simp))
    | _ => exact absurd (show false = true from hs) Bool.false_ne_true
  | str i =>
    obtain ⟨t, rfl⟩ := rx
    cases y with
    | non => cases ry; exact PySem.EqNone.eq_str_none (fin_bl I q (by simp))
    | bl j => cases ry; exact PySem.EqMixed.eq_str_bool (fin_bl I q (by simp))
    | int j => obtain ⟨t', rfl⟩ := ry; exact PySem.EqMixed.eq_str_int (fin_bl I q (by simp))
    | str j => obtain ⟨t', rfl⟩ := ry; exact eq_str (fin_bl I q dec_str)
    | _ => exact absurd (show false = true from hs) Bool.false_ne_true
  | byt i =>
    obtain ⟨t, rfl⟩ := rx
    cases y with
    | byt j => obtain ⟨t', rfl⟩ := ry; exact PySem.W.eq_bytes (fin_bl I q dec_byt)
    | _ => exact absurd (show false = true from hs) Bool.false_ne_true
  | _ => cases y <;> exact absurd (show false = true from hs) Bool.false_ne_true
theorem op_ne : OpR X (compareOp .NotEq) rNe := by
  intro pins s σ H x y v u Q I rx ry h
  obtain ⟨hs, q⟩ := h
  cases x with
  | non =>
    cases rx
    cases y with
    | non => cases ry; exact PySem.EqNone.ne_none_none (fin_bl I q (by simp))
    | bl j => cases ry; exact PySem.EqNone.ne_none_bool (fin_bl I q (by simp))
    | int j => obtain ⟨t', rfl⟩ := ry; exact PySem.EqNone.ne_none_int (fin_bl I q (by simp))
    | str j => obtain ⟨t', rfl⟩ := ry; exact PySem.EqNone.ne_none_str (fin_bl I q (by simp))
    | _ => exact absurd (show false = true from hs) Bool.false_ne_true
  | bl i =>
    cases rx
    cases y with
    | non => cases ry; exact PySem.EqNone.ne_bool_none (fin_bl I q (by simp))
    | bl j => cases ry; exact ne_bool (fin_bl I q (congrArg not dec_bl))
    | str j => obtain ⟨t', rfl⟩ := ry; exact PySem.EqMixed.ne_bool_str (fin_bl I q (by simp))
    | _ => exact absurd (show false = true from hs) Bool.false_ne_true
  | int i =>
    obtain ⟨t, rfl⟩ := rx
    cases y with
    | non => cases ry; exact PySem.EqNone.ne_int_none (fin_bl I q (by simp))
    | int j => obtain ⟨t', rfl⟩ := ry; exact ne_int (fin_bl I q (congrArg not dec_int))
    | str j => obtain ⟨t', rfl⟩ := ry; exact PySem.EqMixed.ne_int_str (fin_bl I q (by simp))
    | _ => exact absurd (show false = true from hs) Bool.false_ne_true
  | str i =>
    obtain ⟨t, rfl⟩ := rx
    cases y with
    | non => cases ry; exact PySem.EqNone.ne_str_none (fin_bl I q (by simp))
    | bl j => cases ry; exact PySem.EqMixed.ne_str_bool (fin_bl I q (by simp))
    | int j => obtain ⟨t', rfl⟩ := ry; exact PySem.EqMixed.ne_str_int (fin_bl I q (by simp))
    | str j => obtain ⟨t', rfl⟩ := ry; exact ne_str (fin_bl I q (congrArg not dec_str))
    | _ => exact absurd (show false = true from hs) Bool.false_ne_true
  | byt i =>
    obtain ⟨t, rfl⟩ := rx
    cases y with
    | byt j => obtain ⟨t', rfl⟩ := ry; exact PySem.W.ne_bytes (fin_bl I q (congrArg not dec_byt))
    | _ => exact absurd (show false = true from hs) Bool.false_ne_true
  | _ => cases y <;> exact absurd (show false = true from hs) Bool.false_ne_true

theorem op_lt : OpR X (compareOp .Lt) (rI0 fun i j => .bl (decide (i < j))) := opB0 fun _ _ _ _ _ _ _ q => lt_int q
theorem op_le : OpR X (compareOp .LtE) (rI0 fun i j => .bl (decide (i ≤ j))) := opB0 fun _ _ _ _ _ _ _ q => le_int q
theorem op_gt : OpR X (compareOp .Gt) (rI0 fun i j => .bl (decide (j < i))) := opB0 fun _ _ _ _ _ _ _ q => gt_int q
theorem op_notin_str : OpR X (compareOp .NotIn) (fun x y H Q => ∃ i j, x = .str i ∧ y = .str j ∧ Q (.bl (!(!(Builtin.Str.occurrences j i 0 j.length 1).isEmpty))) H) := by
  intro pins s σ H x y v u Q I rx ry h
  obtain ⟨i, j, rfl, rfl, q⟩ := h
  obtain ⟨t, rfl⟩ := rx
  obtain ⟨t', rfl⟩ := ry
  exact notIn_str (fin_bl I q rfl)
/-- is, is not of two objects that are tracked lists or instances -/
def isObj : HO → Bool
  | .lst _ => true
  | .ins _ _ _ => true
  | _ => false
theorem nomark (b : Expr) {op : CmpOp} (h : op ≠ .In := by decide) (h2 : op ≠ .NotIn := by decide) : behindInMarks op b = false := by
  have e1 : (op == CmpOp.In) = false := by cases op <;> first | rfl | exact absurd rfl h
  have e2 : (op == CmpOp.NotIn) = false := by cases op <;> first | rfl | exact absurd rfl h2
  cases b <;> simp [behindInMarks, e1, e2]
/-- a comparison as a value; hm: nomark b, or (for in, not in) by with_unfolding_all rfl -/
theorem pe_cmpR {op : CmpOp} {r : R2} (ho : OpR X (compareOp op) r) (ha : PE X a ta) (hb : PE X b tb) (hm : behindInMarks op b = false) : PE X (.Compare a [op] [b] pos) (tOp r ta tb) := by
  intro pins s σ H Q I h
  exact wpAny_Compare1 (binT ha hb I h fun v u s2 x y H2 I2 rx ry q => ho pins s2 σ H2 x y v u Q I2 rx ry q) hm
/-- a reading of a value as a test -/
def tTest (t : TE) : TT := fun σ H Q => t σ H fun x H' => ∃ k, x = .bl k ∧ Q k H'
theorem pt_cmpR {op : CmpOp} {r : R2} (ho : OpR X (compareOp op) r) (ha : PE X a ta) (hb : PE X b tb) (hm : behindInMarks op b = false) : PT X (.Compare a [op] [b] pos) (tTest (tOp r ta tb)) := by
  intro pins s σ H Q I h
  refine wpAny_isTrue_Compare1 (thn (ha pins s σ H _ I h) fun v s1 ⟨x, H1, I1, r1, q1⟩ => thn (hb pins s1 σ H1 _ I1 q1) fun u s2 ⟨y, H2, I2, r2, q2⟩ =>
    thn (ho pins s2 σ H2 x y v u _ I2 r1 r2 q2) fun c s3 ⟨z, H3, I3, r3, k, e, q3⟩ => ?_) hm
  subst e
  cases r3
  exact wpAny_truthy_bool ⟨H3, I3, q3⟩
/-- a op1 b op2 c -/
def tChain (r r' : R2) (ta tb tc : TE) : TE := fun σ H Q => ta σ H fun x H1 => tb σ H1 fun y H2 => r x y H2 fun z H3 => ∃ k, z = .bl k ∧
  (if k = true then tc σ H3 fun w' H4 => r' y w' H4 Q else Q (.bl false) H3)
theorem pe_chain {op op' : CmpOp} {r r' : R2} (ho : OpR X (compareOp op) r) (ho' : OpR X (compareOp op') r') (ha : PE X a ta) (hb : PE X b tb) (hc : PE X c tc)
    (hm : lastMarks [op, op'] [b, c] = false := by with_unfolding_all rfl) : PE X (.Compare a [op, op'] [b, c] pos) (tChain r r' ta tb tc) := by
  intro pins s σ H Q I h
  refine Compare_chain (thn (ha pins s σ H _ I h) fun v s1 ⟨x, H1, I1, r1, q1⟩ => chain_link (thn (hb pins s1 σ H1 _ I1 q1) fun u s2 ⟨y, H2, I2, r2, q2⟩ =>
    thn (ho pins s2 σ H2 x y v u _ I2 r1 r2 q2) fun d s3 ⟨z, H3, I3, r3, k, e, q3⟩ => ?_)) hm
  subst e
  cases r3
  refine wpAny_truthy_bool ?_
  cases k with
  | false => exact ite_ff ⟨.bl false, H3, I3, rfl, q3⟩
  | true => exact ite_tt (chain_last (thn (hc pins s3 σ H3 _ I3 q3) fun w' s4 ⟨z', H4, I4, r4, q4⟩ => ho' pins s4 σ H4 y z' u w' Q I4 r2 r4 q4))
theorem pt_chain {op op' : CmpOp} {r r' : R2} (ho : OpR X (compareOp op) r) (ho' : OpR X (compareOp op') r') (ha : PE X a ta) (hb : PE X b tb) (hc : PE X c tc)
    (hm : lastMarks [op, op'] [b, c] = false := by with_unfolding_all rfl) : PT X (.Compare a [op, op'] [b, c] pos) (tTest (tChain r r' ta tb tc)) := by
  intro pins s σ H Q I h
  refine isTrue_chain (thn (ha pins s σ H _ I h) fun v s1 ⟨x, H1, I1, r1, q1⟩ => test_link (thn (hb pins s1 σ H1 _ I1 q1) fun u s2 ⟨y, H2, I2, r2, q2⟩ =>
    thn (ho pins s2 σ H2 x y v u _ I2 r1 r2 q2) fun d s3 ⟨z, H3, I3, r3, k, e, q3⟩ => ?_)) hm
  subst e
  cases r3
  refine wpAny_truthy_bool ?_
  cases k with
  | false =>
    obtain ⟨k', e', q'⟩ := q3
    cases e'
    exact ite_ff ⟨H3, I3, q'⟩
  | true =>
    refine ite_tt (test_last (thn (hc pins s3 σ H3 _ I3 q3) fun w' s4 ⟨z', H4, I4, r4, q4⟩ => thn (ho' pins s4 σ H4 y z' u w' _ I4 r2 r4 q4) fun d' s5 ⟨z2, H5, I5, r5, k2, e2, q5⟩ => ?_))
    subst e2
    cases r5
    exact wpAny_truthy_bool ⟨H5, I5, q5⟩

/-! ### truth -/
/-- a value's truth by the abstract heap -/
def TruV (K : PySem.W.Frag) (x : V) (H : Hp) (k : Bool) : Prop :=
  match x with
  | .non => k = false
  | .bl b => k = b
  | .int i => k = (i != 0)
  | .str y => y.length ≤ sizeLine ∧ k = ((y.length : Int) != 0)
  | .byt y => y.size ≤ sizeLine ∧ k = ((y.size : Int) != 0)
  | .ref p => (∃ xs, SqL K H p xs ∧ k = !xs.isEmpty) ∨ (∃ xs, SqT K H p xs ∧ k = !xs.isEmpty) ∨ ∃ kvs, H p = some (.dK kvs) ∧ k = !kvs.isEmpty
  | _ => False
theorem line63 : (sizeLine : Nat) < 2 ^ 63 := by rw [sizeLine_eq]; decide
/-! ### strs and bytes -/
theorem op_add_str : OpR X (binaryOp .Add) (fun x y H Q => ∃ i j, x = .str i ∧ y = .str j ∧ i.length + j.length ≤ sizeLine ∧ Q (.str (i ++ j)) H) := by
  intro pins s σ H x y v u Q I rx ry h
  obtain ⟨i, j, rfl, rfl, hz, q⟩ := h
  obtain ⟨t, rfl⟩ := rx
  obtain ⟨t', rfl⟩ := ry
  exact add_str (fun t' tk => ⟨.str (i ++ j), H, I.tok _, ⟨_, rfl⟩, q⟩) hz
theorem op_add_byt : OpR X (binaryOp .Add) (fun x y H Q => ∃ i j, x = .byt i ∧ y = .byt j ∧ i.size + j.size ≤ 16777216 ∧ Q (.byt (i ++ j)) H) := by
  intro pins s σ H x y v u Q I rx ry h
  obtain ⟨i, j, rfl, rfl, hz, q⟩ := h
  obtain ⟨t, rfl⟩ := rx
  obtain ⟨t', rfl⟩ := ry
  exact PySem.W.KBy.add_bytes hz (fun t' tk => ⟨.byt (i ++ j), H, I.tok _, ⟨_, rfl⟩, q⟩)

def PlainIxT (b : Expr) : Prop := ∀ o i, subscripted b false o i = operate [o, i] (getItem o i)
/-! ### scalar builtins, by CallR -/
theorem vals1 {x : V} {us : List Value} (r : Vals [x] us) : ∃ u, us = [u] ∧ RelV x u := by
  cases r with
  | cons r1 r2 => cases r2; exact ⟨_, rfl, r1⟩
theorem vals2 {x y : V} {us : List Value} (r : Vals [x, y] us) : ∃ u w', us = [u, w'] ∧ RelV x u ∧ RelV y w' := by
  cases r with
  | cons r1 r2 =>
    cases r2 with
    | cons r3 r4 => cases r4; exact ⟨_, _, rfl, r1, r3⟩
theorem call_max2 (hc : X.calm = true) : CallR X (.builtin "max") (fun xs H Q => ∃ i j, xs = [.int i, .int j] ∧ Q (.int (if j > i then j else i)) H) := by
  intro pins s σ H xs us Q I r h
  obtain ⟨i, j, rfl, q⟩ := h
  obtain ⟨u, w', rfl, ⟨t, rfl⟩, ⟨t', rfl⟩⟩ := vals2 r
  refine max_two_ints (I.ok.hd hc) fun h' tk k => ⟨_, H, I.kept k, ?_, q⟩
  by_cases hj : j > i
  · rw [if_pos hj, if_pos hj]; exact ⟨_, rfl⟩
  · rw [if_neg hj, if_neg hj]; exact ⟨_, rfl⟩
theorem call_min2 (hc : X.calm = true) : CallR X (.builtin "min") (fun xs H Q => ∃ i j, xs = [.int i, .int j] ∧ Q (.int (if j < i then j else i)) H) := by
  intro pins s σ H xs us Q I r h
  obtain ⟨i, j, rfl, q⟩ := h
  obtain ⟨u, w', rfl, ⟨t, rfl⟩, ⟨t', rfl⟩⟩ := vals2 r
  refine min_two_ints (I.ok.hd hc) fun h' tk k => ⟨_, H, I.kept k, ?_, q⟩
  by_cases hj : j < i
  · rw [if_pos hj, if_pos hj]; exact ⟨_, rfl⟩
  · rw [if_neg hj, if_neg hj]; exact ⟨_, rfl⟩
/-- len of a str, a bytes, a list, a tuple -/
def LenV (K : PySem.W.Frag) (x : V) (H : Hp) (n : Nat) : Prop :=
  match x with
  | .str y => y.length ≤ sizeLine ∧ n = y.length
  | .byt y => y.size ≤ sizeLine ∧ n = y.size
  | .ref p => (∃ xs, SqL K H p xs ∧ n = xs.length) ∨ ∃ xs, SqT K H p xs ∧ n = xs.length
  | _ => False
end
end L2

namespace L2
open PySem PySem.Spec PyProof.Rows

/-! ### an instance, its attributes a map -/
structure ObjM (h : Heap) (x dx C : Addr) (mA : Str → Option Value) : Prop where
  obj : h.get? x = some (PySem.W.instObj C dx)
  ns : h.Ns1 dx mA
  ne : dx ≠ x

theorem lookIn_ns {h : Heap} {dx : Addr} {mA : Str → Option Value} (n : h.Ns1 dx mA) : ∃ od, h.get? dx = some od ∧ ∀ name, PySem.W.lookIn name od = some (mA name) := by
  obtain ⟨o, es, ep, ho, hd, hk, _, hm⟩ := n
  refine ⟨o, ho, fun name => ?_⟩
  have e := hm name
  unfold nsFind findBy at e
  rw [← Array.find?_toList] at e
  unfold PySem.W.lookIn
  rw [hd]
  dsimp only
  split
  · rename_i y q
    rw [q] at e
    exact congrArg some e
  · rename_i q
    rw [q] at e
    have a : es.toList.any (·.refKey) = false := by
      rw [List.any_eq_false]
      intro y hy
      obtain ⟨z, t, hkey⟩ := hk y (Array.mem_toList_iff.mp hy)
      simp [DictEntry.refKey, hkey]
    have a' : ¬ es.toList.any (·.refKey) = true := by rw [a]; exact Bool.false_ne_true
    rw [if_neg a']
    exact congrArg some e

theorem ObjM.look {h : Heap} {x dx C : Addr} {mA : Str → Option Value} (I : ObjM h x dx C mA) : ∃ od, PySem.W.InstAt h x (PySem.W.instObj C dx) C (some od) ∧ ∀ name, PySem.W.lookIn name od = some (mA name) :=
  let ⟨od, ho, hl⟩ := lookIn_ns I.ns
  ⟨od, ⟨I.obj, rfl, rfl, ho⟩, hl⟩

section
variable {prog : Program} {w : World} {A : Around} {E : Value → Shared → Prop} {s : Shared} {K : PySem.W.Frag} {x dx C f : Addr} {mA : Str → Option Value} {name : Str} {v : Value}

theorem get_map {expr : Bool} {Q : Value → Shared → Prop} (X : K.In s.heap) (I : ObjM s.heap x dx C mA) (hg : PySem.W.plainGet K C name = true) (hh : PySem.W.hasDictIn K C = true)
    (ha : PySem.W.findIn K (.ref C) name = some none) (hv : mA name = some v) (hv' : PySem.W.handedIn v = true) (h : Q v { s with toks := s.toks + 1 }) :
    wpAny (model prog w) A (getAttr (.ref x) name expr) Q E s := by
  obtain ⟨od, J, hl⟩ := I.look
  exact PySem.W.get_value X J (PySem.W.plainGet_of hg).1 (PySem.W.findObj_own hh ha rfl (by rw [hl, hv])) hv' h

theorem get_meth {pl : Sem Bool} {Q : Value × List Value → Shared → Prop} (X : K.In s.heap) (I : ObjM s.heap x dx C mA) (hg : PySem.W.plainGet K C name = true)
    (hf : PySem.W.findIn K (.ref C) name = some (some (.ref f))) (ht : PySem.W.isFn K (.ref f) = true) (hv : mA name = none) (h : Q (.ref f, [.ref x]) s) :
    wpAny (model prog w) A (getMethod (.ref x) name pl) Q E s := by
  obtain ⟨od, J, hl⟩ := I.look
  exact PySem.W.method_fn X J (PySem.W.plainGet_of hg).1 (PySem.W.plainGet_of hg).2 hf (beq_iff_eq.mp ht) (by show (PySem.W.lookIn name od).map (·.isSome) = some false; rw [hl, hv]; rfl) h

theorem set_map {ns : List Str} {Q : Unit → Shared → Prop} (X : K.In s.heap) (I : ObjM s.heap x dx C mA)
    (hs : PySem.W.findIn K (.ref C) "__setattr__" = some (some (.builtin "object.__setattr__"))) (hp : PySem.W.plainOver K C = true) (ht : PySem.W.takerIn K C name = some none) (hh : PySem.W.hasDictIn K C = true)
    (hw : PySem.Within mA ns) (hsz : ns.length ≤ sizeLine)
    (h : ∀ h', ObjM h' x dx C (fun y => if y = name then some v else mA y) → Heap.SameBut dx s.heap h' → Q () { s with heap := h', toks := s.toks + 2 }) :
    wpAny (model prog w) A (setAttr (.ref x) name v) Q E s := by
  obtain ⟨od, J, hl⟩ := I.look
  refine PySem.W.set_plain X J hs (PySem.W.osa_open (s := { s with toks := s.toks + 1 }) (r := none) X J hp ht fun b => ?_)
  obtain ⟨cd, hc, hd'⟩ := PySem.W.any_some hh
  have hx : s.heap.get? x = some ⟨.ref C, some dx, .plain, #[]⟩ := I.obj
  refine wpAny_bind (wpAny_pure (wpAny_bind (wpAny_bind (wpAny_loadPart hx (wpAny_bind (PySem.W.Looks.here (s := { s with toks := s.toks + 1 }) (PySem.W.looks_clsIn X hc) ?_))))))
  rw [hd']
  refine wpAny_pure (a := some dx) (wpAny_bind (wpAny_pure (wpAny_bind ?_)))
  refine wpAny_nsSet1 (s := { s with toks := s.toks + 1 }) I.ns fun h' hn2 hs2 => ?_
  obtain ⟨oD, esD, epD, hoD, hdD, hcD⟩ := hn2.count (PySem.Within.cons name v hw)
  refine wpAny_bind (wpAny_lookBehind hoD (by rw [hdD]; exact pastItsLine_dict (Nat.le_trans hcD (by rw [List.length_cons]; omega))) ?_)
  exact wpAny_pure (h _ ⟨(hs2.2 _ (Ne.symm I.ne)).trans I.obj, hn2, I.ne⟩ hs2)

/-- C(..): the dict at the heap's end, the instance behind it; then its __init__ -/
theorem make_map {R : Result → Shared → Prop} {vs : List Value} {kw : List (Str × Value)} (X : K.In s.heap) (hm : PySem.W.makesIn K C = true)
    (hi : PySem.W.findIn K (.ref C) "__init__" = some (some (.ref f))) (hf : PySem.W.typeIn K (.ref f) = some (.type "function"))
    (h : codeAny (model prog w) (A.under (.builtin "type.__call__" ⟨.ref C :: vs, kw⟩)) (.call (.ref f) ⟨.ref (s.heap.objs.size + 1) :: vs, kw⟩) (PySem.W.InitBack (s.heap.objs.size + 1) R)
      { s with heap := (s.heap.push PySem.W.emptyDict).push (PySem.W.instObj C s.heap.objs.size) }) :
    codeAny (model prog w) A (.call (.ref C) ⟨vs, kw⟩) R s := by
  obtain ⟨hh, g, d, t, os⟩ := s
  exact PySem.W.make_core (PySem.W.makes_of X hm) (PySem.W.looks_findIn X hi) (fun self => PySem.W.bind_fn X self hf) (.inl rfl) h
end

/-! ### the attributes as a list of pairs -/
def putF (f : Str) (v : V) : List (Str × V) → List (Str × V)
  | [] => [(f, v)]
  | (g, x) :: r => if g = f then (g, v) :: r else (g, x) :: putF f v r
theorem lookup_putF (f g : Str) (v : V) : ∀ fs : List (Str × V), (putF f v fs).lookup g = if g = f then some v else fs.lookup g
  | [] => by
    show List.lookup g [(f, v)] = _
    by_cases h : g = f
    · have hb : (g == f) = true := beq_iff_eq.mpr h
      simp only [List.lookup, hb, if_pos h]
    · have hb : (g == f) = false := beq_eq_false_iff_ne.mpr h
      simp only [List.lookup, hb, if_neg h]
  | (k, x) :: r => by
    have ih := lookup_putF f g v r
    rw [show putF f v ((k, x) :: r) = (if k = f then (k, v) :: r else (k, x) :: putF f v r) from rfl]
    by_cases hk : k = f
    · rw [if_pos hk]
      by_cases h : g = k
      · have hb : (g == k) = true := beq_iff_eq.mpr h
        simp only [List.lookup, hb, if_pos (h.trans hk)]
      · have hb : (g == k) = false := beq_eq_false_iff_ne.mpr h
        simp only [List.lookup, hb, if_neg (fun e : g = f => h (e.trans hk.symm))]
    · rw [if_neg hk]
      by_cases h : g = k
      · have hb : (g == k) = true := beq_iff_eq.mpr h
        simp only [List.lookup, hb, if_neg (fun e : g = f => hk (h.symm.trans e))]
      · have hb : (g == k) = false := beq_eq_false_iff_ne.mpr h
        simp only [List.lookup, hb]
        exact ih
theorem keys_putF (f : Str) (v : V) : ∀ fs : List (Str × V), f ∈ (putF f v fs).map (·.1) ∧ ∀ g, g ∈ fs.map (·.1) → g ∈ (putF f v fs).map (·.1)
  | [] => ⟨by simp [putF], fun g h => by simp at h⟩
  | (k, x) :: r => by
    obtain ⟨i1, i2⟩ := keys_putF f v r
    rw [show putF f v ((k, x) :: r) = (if k = f then (k, v) :: r else (k, x) :: putF f v r) from rfl]
    by_cases hk : k = f
    · rw [if_pos hk]
      subst hk
      exact ⟨by simp, fun g h => by simpa using h⟩
    · rw [if_neg hk]
      refine ⟨?_, fun g h => ?_⟩
      · rw [List.map_cons]
        exact List.mem_cons_of_mem _ i1
      · rw [List.map_cons] at h ⊢
        rcases List.mem_cons.mp h with e | e
        · exact List.mem_cons.mpr (.inl e)
        · exact List.mem_cons_of_mem _ (i2 g e)
theorem length_putF (f : Str) (v : V) : ∀ fs : List (Str × V), (putF f v fs).length ≤ fs.length + 1
  | [] => by simp [putF]
  | (k, x) :: r => by
    have ih := length_putF f v r
    rw [show putF f v ((k, x) :: r) = (if k = f then (k, v) :: r else (k, x) :: putF f v r) from rfl]
    by_cases hk : k = f
    · rw [if_pos hk, List.length_cons, List.length_cons]; omega
    · rw [if_neg hk, List.length_cons, List.length_cons]; omega

theorem RelO.some_of {v : V} {o : Option Value} (r : RelO (some v) o) : ∃ u, o = some u ∧ RelV v u := by
  cases o with
  | none => exact (show False from r).elim
  | some u => exact ⟨u, rfl, r⟩
theorem RelO.none_of {o : Option Value} (r : RelO none o) : o = none := by
  cases o with
  | none => rfl
  | some u => exact (show False from r).elim
theorem handed_of {v : V} {u : Value} (r : RelV v u) : PySem.W.handedIn u = true := by
  cases v with
  | non => cases (show u = Value.none from r); rfl
  | bl b => cases (show u = Value.bool b from r); rfl
  | int i => obtain ⟨t, e⟩ := (show ∃ t, u = Value.int i t from r); cases e; rfl
  | str x => obtain ⟨t, e⟩ := (show ∃ t, u = Value.str x t from r); cases e; rfl
  | byt b => obtain ⟨t, e⟩ := (show ∃ t, u = Value.bytes b t from r); cases e; rfl
  | flt b => obtain ⟨t, e⟩ := (show ∃ t, u = Value.float b t from r); cases e; rfl
  | ref a => cases (show u = Value.ref a from r); rfl
  | ty n => cases (show u = Value.type n from r); rfl

section
variable {P : Program} {w : World} {H H' : Hp} {h h' : Heap} {a C dx : Addr} {fs fs' : List (Str × V)}
theorem ins_get (hok : HOk P w H h) (e : H a = some (.ins C dx fs)) : ∃ mA, ObjM h a dx C mA ∧ (∀ f, RelO (fs.lookup f) (mA f)) ∧ PySem.Within mA (fs.map (·.1)) ∧ fs.length ≤ 1000 ∧ H dx = some (.own a) := by
  obtain ⟨d, z, ne, ob, mA, n, r, q⟩ := (show ObjOk P w H h a (.ins C dx fs) from hok a _ e)
  exact ⟨mA, ⟨ob, n, ne⟩, r, q, z, d⟩
end

/-! ### what of the text a class must have -/
structure Cls (K : PySem.W.Frag) (C : Addr) : Prop where
  pg : PySem.W.plainGet K C Str.empty = true
  hd : PySem.W.hasDictIn K C = true
  po : PySem.W.plainOver K C = true
  sa : PySem.W.findIn K (.ref C) "__setattr__" = some (some (.builtin "object.__setattr__"))
theorem Cls.get {K : PySem.W.Frag} {C : Addr} (c : Cls K C) (f : Str) : PySem.W.plainGet K C f = true := c.pg
/-- no class of it has the name -/
def NoAttr (K : PySem.W.Frag) (C : Addr) (f : Str) : Prop := PySem.W.findIn K (.ref C) f = some none
theorem NoAttr.taker {K : PySem.W.Frag} {C : Addr} {f : Str} (n : NoAttr K C f) : PySem.W.takerIn K C f = some none := by
  unfold PySem.W.takerIn
  rw [show PySem.W.findIn K (.ref C) f = some none from n]
  rfl
/-- a constant of the class -/
structure Con (K : PySem.W.Frag) (C : Addr) (f : Str) (v : V) (u : Value) : Prop where
  at_ : PySem.W.findIn K (.ref C) f = some (some u)
  rel : RelV v u
  get : PySem.W.specialIn K u "__get__" = some none
  cp : PySem.W.copiedNames.contains f = false
/-- a method: a plain def of the class or of one above it -/
structure Meth (K : PySem.W.Frag) (C : Addr) (m : Str) (f : Addr) : Prop where
  at_ : PySem.W.findIn K (.ref C) m = some (some (.ref f))
  fn : PySem.W.isFn K (.ref f) = true
  kp : PySem.W.keepIn K (.ref f) = true

section
variable {X : Cx} {pins : List (Addr × Obj)} {σ : St} {H : Hp} {s : Shared} {a C dx : Addr} {fs : List (Str × V)} {f : Str} {v : V} {A : Around} {E : Value → Shared → Prop}

theorem getattr_ok {b : Bool} {Q : Value → Shared → Prop} (I : Inv X pins σ H s) (e : H a = some (.ins C dx fs)) (c : Cls X.K C) (n : NoAttr X.K C f) (l : fs.lookup f = some v)
    (h : ∀ u s', Inv X pins σ H s' → RelV v u → Q u s') : wpAny (model X.prog X.w) A (getAttr (.ref a) f b) Q E s := by
  obtain ⟨mA, O, r, _, _, _⟩ := ins_get I.hok e
  obtain ⟨u, hu, ru⟩ := RelO.some_of (v := v) (o := mA f) (by rw [← l]; exact r f)
  exact get_map I.kIn O (c.get f) c.hd n hu (handed_of ru) (h u _ (I.tok _) ru)

theorem getmeth_ok {m : Str} {g : Addr} {pl : Sem Bool} {Q : Value × List Value → Shared → Prop} (I : Inv X pins σ H s) (e : H a = some (.ins C dx fs)) (c : Cls X.K C) (k : Meth X.K C m g) (l : fs.lookup m = none)
    (h : Q (.ref g, [.ref a]) s) : wpAny (model X.prog X.w) A (getMethod (.ref a) m pl) Q E s := by
  obtain ⟨mA, O, r, _, _, _⟩ := ins_get I.hok e
  have hn : mA m = none := RelO.none_of (by rw [← l]; exact r m)
  exact get_meth I.kIn O (c.get m) k.at_ k.fn hn h

theorem setattr_ok {y : V} {u : Value} {Q : Unit → Shared → Prop} (I : Inv X pins σ H s) (e : H a = some (.ins C dx fs)) (c : Cls X.K C) (n : NoAttr X.K C f) (hl : fs.length < 1000) (ry : RelV y u)
    (h : ∀ s', Inv X pins σ (upd H a (.ins C dx (putF f y fs))) s' → Q () s') : wpAny (model X.prog X.w) A (setAttr (.ref a) f u) Q E s := by
  obtain ⟨mA, O, r, wi, _, ho⟩ := ins_get I.hok e
  have hz : (fs.map (·.1)).length ≤ sizeLine := by rw [List.length_map, sizeLine_eq]; omega
  refine set_map I.kIn O c.sa c.po n.taker c.hd wi hz fun h' O' sb => h _ ?_
  have hd : ∃ o, h'.get? dx = some o := let ⟨o, _, _, e', _⟩ := O'.ns; ⟨o, e'⟩
  refine I.write (x := a) (e := dx) (by rw [e]; exact True.intro) (.inr ho) (fun b q hb z => (sb.2 b hb).trans z) hd ?_
  refine ⟨by rw [upd_ne O.ne]; exact ho, ?_, O.ne, O'.obj, _, O'.ns, fun g => ?_, fun g hg => ?_⟩
  · have := length_putF f y fs; omega
  · show RelO ((putF f y fs).lookup g) (if g = f then some u else mA g)
    rw [lookup_putF]
    by_cases q : g = f
    · rw [if_pos q, if_pos q]; exact ry
    · rw [if_neg q, if_neg q]; exact r g
  · by_cases q : g = f
    · rw [q]; exact (keys_putF f y fs).1
    · refine (keys_putF f y fs).2 g (wi g fun z => hg ?_)
      show (if g = f then some u else mA g) = none
      rw [if_neg q]; exact z

/-- a new instance, tracked, without attributes -/
theorem Inv.made (I : Inv X pins σ H s) : Inv X pins σ (upd (upd H s.heap.objs.size (.own (s.heap.objs.size + 1))) (s.heap.objs.size + 1) (.ins C s.heap.objs.size []))
    { s with heap := (s.heap.push PySem.W.emptyDict).push (PySem.W.instObj C s.heap.objs.size) } := by
  have e1 : (s.heap.push PySem.W.emptyDict).get? s.heap.objs.size = some PySem.W.emptyDict := Heap.get?_push_size s.heap rfl
  have e2 : ((s.heap.push PySem.W.emptyDict).push (PySem.W.instObj C s.heap.objs.size)).get? (s.heap.objs.size + 1) = some (PySem.W.instObj C s.heap.objs.size) := by
    have := Heap.get?_push_size (s.heap.push PySem.W.emptyDict) (o := PySem.W.instObj C s.heap.objs.size) rfl
    rwa [Heap.size_push] at this
  have e3 : (s.heap.push PySem.W.emptyDict).Ns s.heap.objs.size (fun _ => none) := ⟨PySem.W.emptyDict, #[], _, e1, rfl, (fun e he => absurd he (by simp)), fun _ => rfl⟩
  have I1 := I.laid (a := s.heap.objs.size) (o := .own (s.heap.objs.size + 1)) (h' := s.heap.push PySem.W.emptyDict) (t' := s.toks) (fun b u q => Heap.get?_push_of_some _ q) (Nat.le_refl _) ⟨_, e1⟩
  refine I1.laid (a := s.heap.objs.size + 1) (o := .ins C s.heap.objs.size []) (t' := s.toks) (fun b u q => Heap.get?_push_of_some _ q) (Nat.le_of_eq (Heap.size_push _ _)) ?_
  have ne : s.heap.objs.size ≠ s.heap.objs.size + 1 := Nat.ne_of_lt (Nat.lt_succ_self _)
  refine ⟨by rw [upd_ne ne, upd_same], Nat.zero_le _, ne, e2, fun _ => none, (Heap.Ns1.of_empty e3).at fun o q => Heap.get?_push_of_some _ q, fun _ => True.intro, fun y hy => absurd rfl hy⟩

/-- e.f where nothing but the object is asked: through attributeBase (super) and the last hold -/
theorem attr_of {prog : Program} {w : World} {env : Env} {e : Expr} {f : Str} {pos : Pos} {s : Shared} {Q : Value → Shared → Prop} (hb : attributeBase e f env (eval e env) = eval e env)
    (h : wpAny (model prog w) A (eval e env) (fun o s₁ => wpAny (model prog w) A (getAttr o f true) Q E s₁) E s) : wpAny (model prog w) A (eval (.Attribute e f pos) env) Q E s :=
  Attribute_any_ h (by rw [arm_eval_Attribute, hb])
end

/-! ### readings and rules -/
/-- e.f, an attribute of the instance -/
def tFld (K : PySem.W.Frag) (ta : TE) (f : Str) : TE := fun σ H Q => ta σ H fun x H1 => ∃ a C dx fs v, x = .ref a ∧ H1 a = some (.ins C dx fs) ∧ Cls K C ∧ NoAttr K C f ∧ fs.lookup f = some v ∧ Q v H1
/-- e.f, a constant of the class -/
def tCon (K : PySem.W.Frag) (ta : TE) (f : Str) : TE := fun σ H Q => ta σ H fun x H1 => ∃ a C dx fs v u, x = .ref a ∧ H1 a = some (.ins C dx fs) ∧ Cls K C ∧ Con K C f v u ∧ fs.lookup f = none ∧ Q v H1
/-- e.f = value -/
def sFld (K : PySem.W.Frag) (ta tv : TE) (f : Str) : TS := fun D σ H => tv σ H fun y H1 => ta σ H1 fun x H2 => ∃ a C dx fs, x = .ref a ∧ H2 a = some (.ins C dx fs) ∧ Cls K C ∧ NoAttr K C f ∧ fs.length < 1000 ∧
  D.nx σ (upd H2 a (.ins C dx (putF f y fs)))
/-- an augmented operator on two values -/
def InOp (X : Cx) (op : Operator) (rd : V → V → Hp → VK → Prop) : Prop :=
  ∀ (pins : List (Addr × Obj)) (s : Shared) (σ : St) (H : Hp) (x y : V) (u v : Value) (Q : VK), Inv X pins σ H s → RelV x u → RelV y v → rd x y H Q → wpAny (model X.prog X.w) X.A (inplaceOp op u v) (EP X pins σ Q) X.xe s
/-- e.f op= value -/
def sFldAug (K : PySem.W.Frag) (ta tv : TE) (rd : V → V → Hp → VK → Prop) (f : Str) : TS := fun D σ H => ta σ H fun x H1 => ∃ a C dx fs v, x = .ref a ∧ H1 a = some (.ins C dx fs) ∧ Cls K C ∧ NoAttr K C f ∧ fs.lookup f = some v ∧
  tv σ H1 fun y H2 => rd v y H2 fun z H3 => ∃ dx' fs', H3 a = some (.ins C dx' fs') ∧ fs'.length < 1000 ∧ D.nx σ (upd H3 a (.ins C dx' (putF f z fs')))

section
variable {X : Cx} {o e value : Expr} {f : Str} {pos pos' tpos : Pos} {ta tv : TE}
theorem pe_fld (he : PE X e ta) (hb : attributeBase e f X.env (eval e X.env) = eval e X.env) : PE X (.Attribute e f pos) (tFld X.K ta f) := by
  intro pins s σ H Q I h
  refine attr_of hb (thn (he pins s σ H _ I h) fun u s1 ⟨x, H1, I1, rx, a, C, dx, fs, v, ex, ea, c, n, l, q⟩ => ?_)
  subst ex
  obtain rfl : u = Value.ref a := rx
  exact getattr_ok I1 ea c n l fun u' s2 I2 ru => ⟨v, H1, I2, ru, q⟩
theorem ps_fld (ha : PE X o ta) (hv : PE X value tv) (hs : swapsWith value (some (.Attribute o f pos')) pos.line X.env = pure false) : PS X (.Assign [.Attribute o f pos'] value pos) (sFld X.K ta tv f) := by
  intro pins s σ H D I h
  refine plainObj_wpAny_Assign_Attribute (thn (hv pins s σ H _ I h) fun u s1 ⟨y, H1, I1, ry, q⟩ => thn (ha pins s1 σ H1 _ I1 q) fun ov s2 ⟨x, H2, I2, rx, a, C, dx, fs, ex, ea, c, n, l, q2⟩ => ?_) hs
  subst ex
  obtain rfl : ov = Value.ref a := rx
  exact setattr_ok I2 ea c n l ry fun s3 I3 => ⟨σ, _, I3, q2⟩
def rAdd : V → V → Hp → VK → Prop := fun x y H Q => ∃ i j, x = .int i ∧ y = .int j ∧ Q (.int (i + j)) H
def rSub : V → V → Hp → VK → Prop := fun x y H Q => ∃ i j, x = .int i ∧ y = .int j ∧ Q (.int (i - j)) H
end

/-! ### isinstance -/
section
variable {X : Cx} {pins : List (Addr × Obj)} {σ : St} {H : Hp} {s : Shared} {A : Around} {E : Value → Shared → Prop} {Q : Value → Shared → Prop} {c : Value} {b : Bool}
/-- the type of a value, as the fragment's deciders take it; for an instance its class -/
inductive TyOf (K : PySem.W.Frag) (H : Hp) : V → Value → Prop where
  | non : TyOf K H .non (.type "NoneType")
  | bl (x : Bool) : TyOf K H (.bl x) (.type "bool")
  | int (i : Int) : TyOf K H (.int i) (.type "int")
  | str (x : Str) : TyOf K H (.str x) (.type "str")
  | flt (x : UInt64) : TyOf K H (.flt x) (.type "float")
  | lst {a : Addr} {xs : List V} (e : H a = some (.lst xs)) : TyOf K H (.ref a) (.type "list")
  | frz {a : Addr} {o : Obj} {xs : List V} (e : H a = some (.frz o (.lst xs))) : TyOf K H (.ref a) (.type "list")
  | tup {a : Addr} {xs : List V} (e : H a = some (.tup xs)) : TyOf K H (.ref a) (.type "tuple")
  | dK {a : Addr} {kvs : List (Key × V)} (e : H a = some (.dK kvs)) : TyOf K H (.ref a) (.type "dict")
  | dT {a : Addr} {kvs : List (List Key × V)} (e : H a = some (.dT kvs)) : TyOf K H (.ref a) (.type "dict")
  | ins {a C dx : Addr} {fs : List (Str × V)} (e : H a = some (.ins C dx fs)) (cl : Cls K C) (ha : PySem.W.findIn K (.ref C) "__class__" = some (some (.builtin "object.__class__")))
      (hn : PySem.W.specialIn K (.builtin "object.__class__") "__get__" = some (some (.builtin "getset_descriptor.__get__"))) (htk : PySem.W.takesIn K (.builtin "object.__class__") = some true)
      (hm : PySem.W.mroIn K C (.type "object") = some true) : TyOf K H (.ref a) (.ref C)
/-- isinstance(x, c) for one class c, a built-in or an own one: kitOne's answer -/
theorem isinst_ok {x : V} {u t : Value} (I : Inv X pins σ H s) (rx : RelV x u) (ty : TyOf X.K H x t) (e : PySem.W.kitOne X.K t c = some b) (h : ∀ tk, Q (.bool b) { s with toks := tk }) :
    wpAny (model X.prog X.w) A (call (.builtin "isinstance") [u, c]) Q E s := by
  cases ty with
  | non => cases (show u = Value.none from rx); exact PySem.W.kia_one PySem.W.kitx_none I.kIn True.intro e (fun z => nomatch z) h
  | bl y => cases (show u = Value.bool y from rx); exact PySem.W.kia_one PySem.W.kitx_bool I.kIn True.intro e (fun z => nomatch z) h
  | int i => obtain ⟨t, q⟩ := (show ∃ t, u = Value.int i t from rx); cases q; exact PySem.W.kia_one PySem.W.kitx_int I.kIn True.intro e (fun z => nomatch z) h
  | str y => obtain ⟨t, q⟩ := (show ∃ t, u = Value.str y t from rx); cases q; exact PySem.W.kia_one PySem.W.kitx_str I.kIn True.intro e (fun z => nomatch z) h
  | flt y => obtain ⟨t, q⟩ := (show ∃ t, u = Value.float y t from rx); cases q; exact PySem.W.kia_one PySem.W.kitx_float I.kIn True.intro e (fun z => nomatch z) h
  | @lst a xs ea =>
    cases (show u = Value.ref a from rx)
    obtain ⟨_, _, n, _, h1⟩ := (show ObjOk X.prog X.w H s.heap a (.lst xs) from I.hok a _ ea)
    exact PySem.W.kia_one PySem.W.kitx_list I.kIn ⟨_, h1, rfl⟩ e (fun z => nomatch z) h
  | @frz a ob xs ea =>
    cases (show u = Value.ref a from rx)
    obtain ⟨_, _, _, n, _, h1⟩ := (show ObjOk X.prog X.w H s.heap a (.frz ob (.lst xs)) from I.hok a _ ea)
    exact PySem.W.kia_one PySem.W.kitx_list I.kIn ⟨_, h1, rfl⟩ e (fun z => nomatch z) h
  | @tup a xs ea =>
    cases (show u = Value.ref a from rx)
    obtain ⟨_, _, _, p⟩ := (show ObjOk X.prog X.w H s.heap a (.tup xs) from I.hok a _ ea)
    obtain ⟨o, h1, h2, _⟩ := p
    exact PySem.W.kia_one PySem.W.kitx_tuple I.kIn ⟨o, h1, h2⟩ e (fun z => nomatch z) h
  | @dK a kvs ea =>
    cases (show u = Value.ref a from rx)
    obtain ⟨_, _, vs, _, p⟩ := (show ObjOk X.prog X.w H s.heap a (.dK kvs) from I.hok a _ ea)
    obtain ⟨o, es, ep, h1, h2, _⟩ := p
    exact PySem.W.kia_one PySem.W.kitx_dict I.kIn ⟨o, h1, h2.1⟩ e (fun z => nomatch z) h
  | @dT a kvs ea =>
    cases (show u = Value.ref a from rx)
    obtain ⟨_, _, xs, _, o, es, ep, h1, h2, _⟩ := (show ObjOk X.prog X.w H s.heap a (.dT kvs) from I.hok a _ ea)
    exact PySem.W.kia_one PySem.W.kitx_dict I.kIn ⟨o, h1, h2.1⟩ e (fun z => nomatch z) h
  | @ins a C dx fs ea cl ha hn htk hm =>
    cases (show u = Value.ref a from rx)
    obtain ⟨mA, O, _⟩ := ins_get I.hok ea
    obtain ⟨od, J, _⟩ := O.look
    exact PySem.W.kia_one (PySem.W.kitx_own (cl.get _) cl.hd ha hn htk hm) I.kIn J e (fun z => nomatch z) h
end
end L2

namespace L2
open PySem PySem.Spec PyProof.Rows

/-! ### room -/
structure Room (k : Nat) (A : Around) : Prop where
  hd : A.handled = none
  dp : A.depth + 3 * k + 5 < recursionLimit
  un : A.units + 16 * k + 200 < cLine
theorem Room.mono {j k : Nat} {A : Around} (r : Room k A) (h : j ≤ k) : Room j A := ⟨r.hd, by have := r.dp; omega, by have := r.un; omega⟩
theorem Room.deeper {k : Nat} {A : Around} (r : Room (k + 1) A) (env : Env) : Room k (A.deeper env) :=
  ⟨r.hd, by have := r.dp; show A.depth + 1 + 3 * k + 5 < _; omega, by have := r.un; show A.units + 3 + 16 * k + 200 < _; omega⟩
theorem make_depth {A : Around} {C : Addr} {us : List Value} {kw : List (Str × Value)} : (A.under (.builtin "type.__call__" ⟨.ref C :: us, kw⟩)).depth = A.depth + 1 := by
  first | rfl | simp [Around.under, Code.weight, Code.isCreation, Code.isGuard, Code.isCaller, Code.frames, Code.isFrame, guardIds]
theorem make_units {A : Around} {C : Addr} {us : List Value} {kw : List (Str × Value)} : (A.under (.builtin "type.__call__" ⟨.ref C :: us, kw⟩)).units = A.units + 1 := by
  first | rfl | simp [Around.under, Code.cUnits, Code.frames, Code.isFrame]
theorem Room.make {k : Nat} {A : Around} (r : Room (k + 1) A) (C : Addr) (us : List Value) (kw : List (Str × Value)) : Room k (A.under (.builtin "type.__call__" ⟨.ref C :: us, kw⟩)) :=
  ⟨r.hd, by have := r.dp; rw [make_depth]; omega, by have := r.un; rw [make_units]; omega⟩
theorem Room.depth {k : Nat} {A : Around} (r : Room k A) : A.depth < recursionLimit := by have := r.dp; omega
theorem Room.units {k : Nat} {A : Around} (r : Room k A) : A.units + 64 < cLine := by have := r.un; omega
/-! ### argument lists and displays -/
def tNil : TA := fun _ H Q => Q [] H
def tCons (ta : TE) (tr : TA) : TA := fun σ H Q => ta σ H fun x H1 => tr σ H1 fun xs H2 => Q (x :: xs) H2
section
variable {X : Cx} {e : Expr} {es : List Expr} {te : TE} {t : TA} {pos : Pos}
theorem pa_nil : PA X [] tNil := fun _ _ _ _ H Q I h => Calls.spliced_nil ⟨[], H, I, .nil, h⟩
theorem pa_cons (ha : PE X e te) (hr : PA X es t) (hs : starEach (e :: es) X.env = (false, eval e X.env) :: starEach es X.env := by rfl) : PA X (e :: es) (tCons te t) := by
  intro pos pins s σ H Q I h
  rw [hs]
  show wpAny _ _ (spliced ((false, eval e X.env) :: backTo pos (starEach es X.env))) _ _ s
  refine Calls.spliced_cons (thn (ha pins s σ H _ I h) fun u s1 ⟨x, H1, I1, r1, q1⟩ => ?_)
  exact thn (hr pos pins s1 σ H1 _ I1 q1) fun us s2 ⟨xs, H2, I2, r2, q2⟩ => ⟨x :: xs, H2, I2, .cons r1 r2, q2⟩

/-- a tuple, a list of written items -/
def tTup (t : TA) : TE := fun σ H Q => t σ H fun xs H1 => xs.length ≤ sizeLine ∧ ∀ p, H1 p = none → Q (.ref p) (upd H1 p (.tup xs))
def tLst (t : TA) : TE := fun σ H Q => t σ H fun xs H1 => xs.length ≤ sizeLine ∧ ∀ p, H1 p = none → Q (.ref p) (upd H1 p (.lst xs))
theorem pe_tup {x1} (h : PA X es t) : PE X (.Tuple es x1 pos) (tTup t) := by
  intro pins s σ H Q I hq
  refine wpAny_Tuple_spliced (thn (h pos pins s σ H _ I hq) fun us s1 ⟨xs, H1, I1, r, z, q⟩ => ⟨by rw [← r.length]; exact z, ?_⟩)
  have hf : H1 s1.heap.objs.size = none := I1.hok.fresh (Nat.le_refl _)
  refine ⟨.ref s1.heap.objs.size, upd H1 s1.heap.objs.size (.tup xs), I1.laid (t' := s1.toks) (fun b u e => Heap.get?_push_of_some _ e) (Nat.le_refl _) ?_, rfl, q _ hf⟩
  exact ⟨z, us, r, ⟨_, Heap.get?_push_size _ rfl, rfl, _, rfl⟩⟩
theorem pe_lst (h : PA X es t) : PE X (.List es pos) (tLst t) := by
  intro pins s σ H Q I hq
  refine wpAny_List_spliced (thn (h pos pins s σ H _ I hq) fun us s1 ⟨xs, H1, I1, r, z, q⟩ => ⟨by rw [← r.length]; exact z, ?_⟩)
  have hf : H1 s1.heap.objs.size = none := I1.hok.fresh (Nat.le_refl _)
  refine ⟨.ref s1.heap.objs.size, upd H1 s1.heap.objs.size (.lst xs), I1.laid (t' := s1.toks) (fun b u e => Heap.get?_push_of_some _ e) (Nat.le_refl _) ?_, rfl, q _ hf⟩
  exact ⟨z, us, 0, r, Heap.get?_push_size _ rfl⟩
end

/-! ### what a def promises -/
/-- a def's promise: the bound arguments in the parameters' order, the heap, the wanted end, the wanted exception -/
abbrev Sp := List V → Hp → VK → XK → Prop
/-- how an exception lies behind a call (file 08 gives it): the callers' frames, abstract heap and state ahead of the call, the wish, the exception, the state -/
abbrev CXT := List Env → Hp → Shared → XK → Value → Shared → Prop

/-- the state at a call -/
structure Env0 (P : Program) (w : World) (K : PySem.W.Frag) (mg : Str → Option Value) (base : Heap) (A : Around) (outer : List Env) (s : Shared) (H : Hp) : Prop where
  frames : A.frames = some outer
  mod : Mod K mg base
  bs : ∀ b o, base.get? b = some o → s.heap.get? b = some o ∧ H b = none
  bsz : base.objs.size ≤ s.heap.objs.size
  funs : s.heap.FunFrames base outer
  frf : ∀ b ∈ frs outer, H b = none
  hok : HOk P w H s.heap
  bare : AllBare s.gens
/-- a call's end -/
def CE (outer : List Env) (P : Program) (w : World) (H : Hp) (s : Shared) (Q : VK) (u : Value) (s' : Shared) : Prop :=
  ∃ v H', s'.os = s.os ∧ AllBare s'.gens ∧ Un (frs outer) [] H H' s.heap s'.heap ∧ HOk P w H' s'.heap ∧ RelV v u ∧ Q v H'
def CR (CX : CXT) (outer : List Env) (P : Program) (w : World) (H : Hp) (s : Shared) (Q : VK) (E : XK) (r : Result) (s' : Shared) : Prop :=
  match r with
  | .ok (.ret u) => CE outer P w H s Q u s'
  | .ok _ => False
  | .error e => CX outer H s E e s'
structure FnOk (P : Program) (w : World) (K : PySem.W.Frag) (mg : Str → Option Value) (base : Heap) (CX : CXT) (k : Nat) (f : Addr) (fd : FuncData) (ps : List Str) (sp : Sp) : Prop where
  len : ∀ vs H Q E, sp vs H Q E → vs.length = ps.length
  run : ∀ (A : Around) (outer : List Env) (s : Shared) (H : Hp) (args : Args) (us : List Value) (vs : List V) (Q : VK) (E : XK), Room k A → Env0 P w K mg base A outer s H → BindsTo s fd args (ps.zip us) → Vals vs us → sp vs H Q E →
    codeAny (model P w) A (.call (.ref f) args) (CR CX outer P w H s Q E) s
theorem FnOk.mono {P : Program} {w : World} {K : PySem.W.Frag} {mg : Str → Option Value} {base : Heap} {CX : CXT} {j k : Nat} {f : Addr} {fd : FuncData} {ps : List Str} {sp : Sp} (F : FnOk P w K mg base CX j f fd ps sp) (h : j ≤ k) :
    FnOk P w K mg base CX k f fd ps sp := ⟨F.len, fun A outer s H args us vs Q E hr => F.run A outer s H args us vs Q E (hr.mono h)⟩
theorem Env0.make {P : Program} {w : World} {K : PySem.W.Frag} {mg : Str → Option Value} {base : Heap} {A : Around} {outer : List Env} {s : Shared} {H : Hp} (e : Env0 P w K mg base A outer s H) (C : Addr) (us : List Value) (kw : List (Str × Value)) :
    Env0 P w K mg base (A.under (.builtin "type.__call__" ⟨.ref C :: us, kw⟩)) outer s H := ⟨by first | exact e.frames | (simpa [Around.under, Code.envs, Code.isFrame, pushEnvs] using e.frames), e.mod, e.bs, e.bsz, e.funs, e.frf, e.hok, e.bare⟩
section
variable {X : Cx} {pins : List (Addr × Obj)} {σ : St} {H : Hp} {s s' : Shared}
/-- from a body: what a callee wants -/
theorem Inv.env0 (I : Inv X pins σ H s) : Env0 X.prog X.w X.K X.mg X.base X.A X.stack s H :=
  ⟨I.ok.frames, I.ok.mod, I.bs, Nat.le_trans I.ok.bsz I.sz, I.stack, I.stkFree, I.hok, I.bare⟩
/-- behind a call -/
theorem Inv.after {Q : VK} {u : Value} (I : Inv X pins σ H s) (h : CE X.stack X.prog X.w H s Q u s') : EP X pins σ Q u s' := by
  obtain ⟨v, H', os, bare, un, hok, r, q⟩ := h
  obtain ⟨hh, g, d, t, os'⟩ := s'
  obtain rfl : os' = s.os := os
  exact ⟨v, H', I.call (h' := hh) (g' := g) (d' := d) (t' := t) (ch := []) un hok bare (fun b z => absurd z (by simp)), r, q⟩
end

/-! ### calls -/
/-- f(..): the written arguments, then the defaults dvs; E: what is wanted of an exception -/
def tCall (sp : Sp) (dvs : List V) (E : XK) (t : TA) : TE := fun σ H Q => t σ H fun vs H1 => sp (vs ++ dvs) H1 Q E
/-- o.m(..) of an instance of the class at C -/
def tMeth (C : Addr) (m : Str) (sp : Sp) (dvs : List V) (E : XK) (ta : TE) (t : TA) : TE := fun σ H Q => ta σ H fun x H1 => ∃ a dx fs, x = .ref a ∧ H1 a = some (.ins C dx fs) ∧ fs.lookup m = none ∧
  t σ H1 fun vs H2 => sp (x :: (vs ++ dvs)) H2 Q E
/-- C(..): a new instance and its dict, then __init__ -/
def tMake (C : Addr) (sp : Sp) (dvs : List V) (E : XK) (t : TA) : TE := fun σ H Q => t σ H fun vs H1 => ∀ x dx, H1 x = none → H1 dx = none → dx ≠ x →
  sp (.ref x :: (vs ++ dvs)) (upd (upd H1 dx (.own x)) x (.ins C dx [])) (fun v H2 => v = .non ∧ Q (.ref x) H2) E

/-- how the parameters are bound: us the positional arguments, kw the keywords' values by name, ds the defaults that fill up -/
def Binds (K : PySem.W.Frag) (fd : FuncData) (ps : List Str) (ds : List Value) : Prop :=
  ∀ (s : Shared) (us : List Value), K.In s.heap → (us ++ ds).length = ps.length → BindsTo s fd ⟨us, []⟩ (ps.zip (us ++ ds))
/-- every parameter is given -/
theorem Binds.all {K : PySem.W.Frag} {fd : FuncData} {ps : List Str} (h : ∀ us : List Value, us.length = ps.length → bindArgs fd ⟨us, []⟩ = pure (ps.zip us)) : Binds K fd ps [] := fun s us _ hl => by
  rw [List.append_nil] at hl ⊢
  exact .of_eq (h us hl)

/-- an exception of a callee reaches what this body wants of exceptions -/
def Passes (CX : CXT) (X : Cx) (E : XK) : Prop := ∀ (pins : List (Addr × Obj)) (σ : St) (H : Hp) (s : Shared) (e : Value) (s' : Shared), Inv X pins σ H s → CX X.stack H s E e s' → X.xe e s'

section
variable {X : Cx} {CX : CXT} {k : Nat} {f C : Addr} {fd : FuncData} {ps : List Str} {sp : Sp} {dvs : List V} {ds : List Value} {E : XK} {x m : Str} {p pos apos : Pos} {e o : Expr} {es : List Expr} {ta : TE} {t : TA}

/-- the callee runs -/
theorem run_fn {pins : List (Addr × Obj)} {σ : St} {H : Hp} {s : Shared} {Q : VK} {us : List Value} {vs : List V} (F : FnOk X.prog X.w X.K X.mg X.base CX k f fd ps sp) (hr : Room k X.A) (hb : Binds X.K fd ps ds) (hd : Vals dvs ds) (hx : Passes CX X E)
    (I : Inv X pins σ H s) (r : Vals vs us) (h : sp (vs ++ dvs) H Q E) : wpAny (model X.prog X.w) X.A (call (.ref f) us) (EP X pins σ Q) X.xe s := by
  have r2 : Vals (vs ++ dvs) (us ++ ds) := r.append hd
  have hl : (us ++ ds).length = ps.length := by rw [← r2.length]; exact F.len _ _ _ _ h
  refine wpAny_call (codeAny_mono (F.run X.A X.stack s H ⟨us, []⟩ (us ++ ds) (vs ++ dvs) Q E hr I.env0 (hb s us I.kIn hl) r2 h) fun r s' hq => ?_)
  cases r with
  | error e => exact hx pins σ H s e s' I hq
  | ok fl =>
    cases fl with
    | ret u => exact I.after hq
    | next => exact False.elim hq
    | brk => exact False.elim hq
    | cont => exact False.elim hq

theorem pe_call (F : FnOk X.prog X.w X.K X.mg X.base CX k f fd ps sp) (hr : Room k X.A) (hg : Gl X x) (hm : X.mg x = some (.ref f)) (hk : PySem.W.keepIn X.K (.ref f) = true) (hb : Binds X.K fd ps ds) (hd : Vals dvs ds) (hx : Passes CX X E)
    (ha : PA X (e :: es) t) (hdb : (x == ("__debug__" : Str)) = false := by decide) (he : starEach (e :: es) X.env = (false, eval e X.env) :: starEach es X.env := by rfl) (hpl : (backTo pos (starEach es X.env)).any (·.1) = false := by rfl) :
    PE X (.Call (.Name x p) (e :: es) [] pos) (tCall sp dvs E t) := by
  intro pins s σ H Q I h
  refine wpAny_Call_Name_kw (ld_glob I hg hm ?_ hdb)
  refine PySem.W.callWith_K (h₀ := X.base) I.ok.mod.kin hk (thn (ha pos pins s σ H _ I h) fun us s1 ⟨vs, H1, I1, r, q⟩ => ⟨I1.kIn, ?_⟩) he hpl
  exact run_fn F hr hb hd hx I1 r q
/-- what a class must have to be made -/
structure Mk (K : PySem.W.Frag) (C f : Addr) : Prop where
  makes : PySem.W.makesIn K C = true
  init : PySem.W.findIn K (.ref C) "__init__" = some (some (.ref f))
  fn : PySem.W.isFn K (.ref f) = true
  kp : PySem.W.keepIn K (.ref C) = true

theorem run_make {pins : List (Addr × Obj)} {σ : St} {H : Hp} {s : Shared} {Q : VK} {us : List Value} {vs : List V} (M : Mk X.K C f) (F : FnOk X.prog X.w X.K X.mg X.base CX k f fd ps sp) (hr : Room (k + 1) X.A) (hb : Binds X.K fd ps ds) (hd : Vals dvs ds)
    (hx : Passes CX X E) (I : Inv X pins σ H s) (r : Vals vs us)
    (h : ∀ x dx, H x = none → H dx = none → dx ≠ x → sp (.ref x :: (vs ++ dvs)) (upd (upd H dx (.own x)) x (.ins C dx [])) (fun v H2 => v = .non ∧ Q (.ref x) H2) E) :
    wpAny (model X.prog X.w) X.A (call (.ref C) us) (EP X pins σ Q) X.xe s := by
  have hq := h (s.heap.objs.size + 1) s.heap.objs.size (I.hok.fresh (Nat.le_succ _)) (I.hok.fresh (Nat.le_refl _)) (Nat.ne_of_lt (Nat.lt_succ_self _))
  have I2 := Inv.made (C := C) I
  have r2 : Vals (V.ref (s.heap.objs.size + 1) :: (vs ++ dvs)) (Value.ref (s.heap.objs.size + 1) :: (us ++ ds)) := .cons rfl (r.append hd)
  have hl : (Value.ref (s.heap.objs.size + 1) :: us ++ ds).length = ps.length := by
    have e := r2.length
    rw [F.len _ _ _ _ hq] at e
    exact e.symm
  refine wpAny_call (make_map (f := f) I.kIn M.makes M.init (beq_iff_eq.mp M.fn) (codeAny_mono (F.run _ X.stack _ _ ⟨Value.ref (s.heap.objs.size + 1) :: us, []⟩ (Value.ref (s.heap.objs.size + 1) :: (us ++ ds)) _ _ E (hr.make C us [])
    (I2.env0.make C us []) (hb _ (Value.ref (s.heap.objs.size + 1) :: us) I2.kIn hl) r2 hq) fun r s' hq' => ?_))
  cases r with
  | error e => exact hx pins σ _ _ e s' I2 hq'
  | ok fl =>
    cases fl with
    | ret u =>
      obtain ⟨v, H', I3, rv, ev, q3⟩ := I2.after hq'
      subst ev
      exact ⟨rv, ⟨V.ref (s.heap.objs.size + 1), H', I3, rfl, q3⟩⟩
    | next => exact False.elim hq'
    | brk => exact False.elim hq'
    | cont => exact False.elim hq'
theorem pe_make (M : Mk X.K C f) (F : FnOk X.prog X.w X.K X.mg X.base CX k f fd ps sp) (hr : Room (k + 1) X.A) (hg : Gl X x) (hm : X.mg x = some (.ref C)) (hb : Binds X.K fd ps ds) (hd : Vals dvs ds) (hx : Passes CX X E)
    (ha : PA X (e :: es) t) (hdb : (x == ("__debug__" : Str)) = false := by decide) (he : starEach (e :: es) X.env = (false, eval e X.env) :: starEach es X.env := by rfl) (hpl : (backTo pos (starEach es X.env)).any (·.1) = false := by rfl) :
    PE X (.Call (.Name x p) (e :: es) [] pos) (tMake C sp dvs E t) := by
  intro pins s σ H Q I h
  refine wpAny_Call_Name_kw (ld_glob I hg hm ?_ hdb)
  refine PySem.W.callWith_K (h₀ := X.base) I.ok.mod.kin M.kp (thn (ha pos pins s σ H _ I h) fun us s1 ⟨vs, H1, I1, r, q⟩ => ⟨I1.kIn, ?_⟩) he hpl
  exact run_make M F hr hb hd hx I1 r q
theorem pe_make0 (M : Mk X.K C f) (F : FnOk X.prog X.w X.K X.mg X.base CX k f fd ps sp) (hr : Room (k + 1) X.A) (hg : Gl X x) (hm : X.mg x = some (.ref C)) (hb : Binds X.K fd ps ds) (hd : Vals dvs ds) (hx : Passes CX X E)
    (hdb : (x == ("__debug__" : Str)) = false := by decide) : PE X (.Call (.Name x p) [] [] pos) (tMake C sp dvs E tNil) := by
  intro pins s σ H Q I h
  refine wpAny_Call_Name_kw (ld_glob I hg hm ?_ hdb)
  exact PySem.W.callWith_K0 I.kIn M.kp (run_make (us := []) M F hr hb hd hx I .nil h)
end

/-! ### keywords -/
/-- the values of the keywords, from the left -/
def PK (X : Cx) (kws : List Keyword) (t : TA) : Prop :=
  ∀ (pos : Pos) (pins : List (Addr × Obj)) (s : Shared) (σ : St) (H : Hp) (Q : List V → Hp → Prop), Inv X pins σ H s → t σ H Q → wpAny (model X.prog X.w) X.A (evalAll ((backToKw pos (keywordEach kws X.env)).map (·.2))) (AP X pins σ Q) X.xe s
section
variable {X : Cx} {CX : CXT} {k : Nat} {f C : Addr} {fd : FuncData} {ps ks : List Str} {sp : Sp} {E : XK} {x m : Str} {p pos apos kpos : Pos} {e o : Expr} {es : List Expr} {kws : List Keyword} {te ta : TE} {t tk : TA} {nm : Option Str}
/-- how a call with keywords binds: g puts the positional values us and the keywords' values ws (names ks) in the parameters' order, defaults among them -/
structure KBinds (K : PySem.W.Frag) (fd : FuncData) (ps ks : List Str) (g : List Value → List Value → List Value) (gV : List V → List V → List V) : Prop where
  to : ∀ (s : Shared) (us ws : List Value), K.In s.heap → (g us ws).length = ps.length → BindsTo s fd ⟨us, ks.zip ws⟩ (ps.zip (g us ws))
  rel : ∀ {vs : List V} {us : List Value} {zs : List V} {ws : List Value}, Vals vs us → Vals zs ws → Vals (gV vs zs) (g us ws)
def tCallK (sp : Sp) (gV : List V → List V → List V) (E : XK) (t tk : TA) : TE := fun σ H Q => t σ H fun vs H1 => tk σ H1 fun zs H2 => sp (gV vs zs) H2 Q E
variable {g : List Value → List Value → List Value} {gV : List V → List V → List V}
end

/-! ### a def's body keeps its promise -/
/-- names: the parameters first -/
structure FnScope (N P : List Str) (sc : Scope) : Prop where
  kind : sc.kind = .function
  co : sc.isCoroutine = false
  gen : sc.isGenerator = false
  nd : N.Nodup
  pre : N.take P.length = P
  par : ∀ x ∈ P, sc.names.lookup x = some .local ∨ sc.names.lookup x = some .cell
  nofree : ∀ y ∈ sc.names, y.2 ≠ .free

theorem bindL_out {kindOf : Str → Option NameKind} {x : Str} : ∀ {binds : List (Str × Value)} {m : Str → Option Value}, (∀ v, (x, v) ∉ binds) → bindL kindOf binds m x = m x
  | [], _, _ => rfl
  | (n, v) :: r, m, h => by
    unfold bindL
    rw [bindL_out fun w hw => h w (List.mem_cons_of_mem _ hw)]
    split
    · have : x ≠ n := by rintro rfl; exact h v List.mem_cons_self
      simp [this]
    · rfl
theorem bindC_out {kindOf : Str → Option NameKind} {x : Str} : ∀ {binds : List (Str × Value)} {m : Str → Option Value}, (∀ v, (x, v) ∉ binds) → bindC kindOf binds m x = m x
  | [], _, _ => rfl
  | (n, v) :: r, m, h => by
    unfold bindC
    rw [bindC_out fun w hw => h w (List.mem_cons_of_mem _ hw)]
    split
    · rfl
    · have : x ≠ n := by rintro rfl; exact h v List.mem_cons_self
      simp [this]
theorem bindL_get {kindOf : Str → Option NameKind} {x : Str} {v : Value} : ∀ {P : List Str} {vs : List Value} {i : Nat} {m : Str → Option Value}, P.Nodup → P[i]? = some x → vs[i]? = some v → kindOf x = some .local →
    bindL kindOf (P.zip vs) m x = some v
  | [], _, _, _, _, h, _, _ => by simp at h
  | _ :: _, [], _, _, _, _, h, _ => by simp at h
  | p :: P, w :: vs, 0, m, nd, h1, h2, hk => by
    simp at h1 h2; subst h1; subst h2
    show bindL kindOf ((p, w) :: P.zip vs) m p = _
    unfold bindL
    rw [bindL_out fun v hv => (List.nodup_cons.mp nd).1 (List.of_mem_zip hv).1, if_pos hk]
    simp
  | p :: P, w :: vs, i + 1, m, nd, h1, h2, hk => by
    show bindL kindOf ((p, w) :: P.zip vs) m x = _
    unfold bindL
    exact bindL_get (i := i) (List.nodup_cons.mp nd).2 (by simpa using h1) (by simpa using h2) hk
theorem bindC_get {kindOf : Str → Option NameKind} {x : Str} {v : Value} : ∀ {P : List Str} {vs : List Value} {i : Nat} {m : Str → Option Value}, P.Nodup → P[i]? = some x → vs[i]? = some v → kindOf x ≠ some .local →
    bindC kindOf (P.zip vs) m x = some v
  | [], _, _, _, _, h, _, _ => by simp at h
  | _ :: _, [], _, _, _, _, h, _ => by simp at h
  | p :: P, w :: vs, 0, m, nd, h1, h2, hk => by
    simp at h1 h2; subst h1; subst h2
    show bindC kindOf ((p, w) :: P.zip vs) m p = _
    unfold bindC
    rw [bindC_out fun v hv => (List.nodup_cons.mp nd).1 (List.of_mem_zip hv).1, if_neg hk]
    simp
  | p :: P, w :: vs, i + 1, m, nd, h1, h2, hk => by
    show bindC kindOf ((p, w) :: P.zip vs) m x = _
    unfold bindC
    exact bindC_get (i := i) (List.nodup_cons.mp nd).2 (by simpa using h1) (by simpa using h2) hk

/-- the names' values at the entry -/
def start (N : List Str) (vs : List V) : St := vs.map some ++ List.replicate (N.length - vs.length) none

/-- the context of a def's body, at its entry; an exception leaves the frame, then lies as CX says -/
def cxOf (CX : CXT) (P : Program) (w : World) (K : PySem.W.Frag) (mg : Str → Option Value) (base : Heap) (N : List Str) (qual : Str) (scope : Scope) (f : Addr) (cd : Value) (A : Around) (outer : List Env) (s : Shared) (H : Hp) (E : XK) : Cx where
  prog := P
  w := w
  K := K
  mg := mg
  base := base
  A := A.deeper (envOfC qual scope s.heap.objs.size f cd)
  N := N
  s₀ := s
  H₀ := H
  env := envOfC qual scope s.heap.objs.size f cd
  outer := outer
  stack := envOfC qual scope s.heap.objs.size f cd :: outer
  ex := []
  calm := true
  fn := fun _ => true
  pn := []
  xe := fun e s' => wpAny (model P w) (A.deeper (envOfC qual scope s.heap.objs.size f cd)) (leaving (envOfC qual scope s.heap.objs.size f cd) e) (fun _ s'' => CX outer H s E e s'') (fun e' s'' => CX outer H s E e' s'') s'

theorem cell_has {sc : Scope} {n : Nat} {x : Str} (h : sc.names.lookup x = some .cell) : ∃ c, (cellsFrom n sc.names []).lookup x = some c := by
  have q := PySem.W.cellsFrom_some sc.names n [] (.inl h)
  exact Option.isSome_iff_exists.mp q

theorem inv_start {CX : CXT} {P : Program} {w : World} {K : PySem.W.Frag} {mg : Str → Option Value} {base : Heap} {N ps : List Str} {qual : Str} {scope : Scope} {f : Addr} {cd : Value} {A : Around} {outer : List Env} {s s1 : Shared} {H : Hp} {E : XK} {us : List Value} {vs : List V}
    (S : FnScope N ps scope) (hd : A.handled = none) (e0 : Env0 P w K mg base A outer s H) (hl : vs.length = ps.length) (r : Vals vs us)
    (x : InCallC s s.heap.objs.size (bindL (envOfC qual scope s.heap.objs.size f cd).kindOf (ps.zip us) fun _ => none) (cellsFrom (s.heap.objs.size + 1) scope.names []) (bindC (envOfC qual scope s.heap.objs.size f cd).kindOf (ps.zip us) fun _ => none) s1) :
    Inv (cxOf CX P w K mg base N qual scope f cd A outer s H E) [] (start N vs) H s1 := by
  have hpl : ps.length ≤ N.length := by have := congrArg List.length S.pre; rw [List.length_take] at this; omega
  obtain ⟨h1, tk, rfl, hk⟩ := x.done
  have noA : ∀ b : Addr, b ∉ (cxOf CX P w K mg base N qual scope f cd A outer s H E).ex := fun b z => absurd (show b ∈ ([] : List Addr) from z) (by simp)
  refine ⟨⟨e0.mod, S.kind, rfl, rfl, Nat.le_refl _, fun y z c h1 h2 => ?_, fun y hy => ?_, fun y c _ h => ?_, fun _ => hd, Around.frames_deeper e0.frames, .inr ⟨rfl, rfl⟩, fun b z => absurd z (noA b), e0.bs, e0.bsz, fun b _ _ => noA b, fun b z => absurd z (noA b), e0.funs, e0.frf⟩,
    rfl, e0.bare, Un.kept hk, ⟨_, x.toInCall.ns, fun i y v h1 h2 h3 => ?_⟩, fun y c h => ⟨_, x.cell y c h⟩, e0.hok.fresh (Nat.le_refl _), fun y c h => ?_, fun p hp => absurd (show p ∈ ([] : List (Addr × Obj)) from hp) (by simp), e0.hok.kept hk, ?_⟩
  · exact name_of_addr x.apart (PySem.mem_of_lookup h1) (PySem.mem_of_lookup h2)
  · have hy : scope.names.lookup y = some .cell ∨ scope.names.lookup y = some .free := hy
    rcases hy with hy | hy
    · exact cell_has hy
    · exact absurd rfl (S.nofree _ (PySem.mem_of_lookup hy))
  · exact Nat.le_of_lt (x.above y c (PySem.mem_of_lookup h))
  · have hi : i < vs.length := by
      unfold start at h2
      by_cases hi : i < vs.length
      · exact hi
      · rw [List.getElem?_append_right (by simpa using hi)] at h2
        rw [List.getElem?_replicate] at h2
        split at h2 <;> cases h2
    have ha : vs[i]? = some v := by
      unfold start at h2
      rw [List.getElem?_append_left (by simpa using hi), List.getElem?_map] at h2
      cases e : vs[i]? with
      | none => rw [e] at h2; cases h2
      | some a => rw [e] at h2; cases h2; rfl
    obtain ⟨u, hu, rv⟩ := r.get ha
    have hp : ps[i]? = some y := by
      rw [← S.pre, List.getElem?_take_of_lt (by omega)]; exact h1
    have ndP : ps.Nodup := by rw [← S.pre]; exact S.nd.sublist (List.take_sublist _ _)
    refine ⟨u, rv, ?_⟩
    rcases S.par y (List.mem_of_getElem? hp) with k | k
    · exact .inl ⟨k, bindL_get ndP hp hu k⟩
    · obtain ⟨c, e⟩ := cell_has (n := s.heap.objs.size + 1) k
      refine .inr ⟨.inl k, c, e, ?_⟩
      have q := x.cell y c e
      rw [bindC_get ndP hp hu (by show scope.names.lookup y ≠ _; rw [k]; decide)] at q
      exact q
  · exact e0.hok.fresh (Nat.le_of_lt (x.above y c (PySem.mem_of_lookup h)))
  · unfold start
    show _ = N.length
    rw [List.length_append, List.length_map, List.length_replicate]
    omega

/-- THE RULE: a def (or a method) of the text, by its body. The body's reading t is chosen for each entry; it is run at the parameters' values -/
theorem fn_of {CX : CXT} {P : Program} {w : World} {K : PySem.W.Frag} {mg : Str → Option Value} {base : Heap} {k : Nat} {f : Addr} {name qual : Str} {params : Arguments} {body : List Stmt} {scope : Scope} {dV kV doc pm cdv ct oc : Value} {an od : Option Addr}
    {osl : Array (Option Value)} {N ps : List Str} {sp : Sp} (lk : K.lookup f = some ⟨oc, od, .func (PySem.W.fnOf name qual params body scope dV kV doc pm an cdv ct), osl⟩) (hcd : PySem.W.codeIn K cdv qual = true) (S : FnScope N ps scope)
    (len : ∀ vs H Q E, sp vs H Q E → vs.length = ps.length)
    (hbody : ∀ (A : Around) (outer : List Env) (s : Shared) (H : Hp) (vs : List V) (Q : VK) (E : XK), Room k (A.deeper (envOfC qual scope s.heap.objs.size f cdv)) → sp vs H Q E →
      ∃ t, PSs (cxOf CX P w K mg base N qual scope f cdv A outer s H E) body t ∧ t { nx := fun _ H' => Q .non H', rt := Q } (start N vs) H) :
    FnOk P w K mg base CX (k + 1) f (PySem.W.fnOf name qual params body scope dV kV doc pm an cdv ct) ps sp := by
  refine ⟨len, fun A outer s H args us vs Q E hr e0 hb r hsp => ?_⟩
  have hl := len _ _ _ _ hsp
  have KX : K.In s.heap := e0.mod.kin.keeps fun b o e => (e0.bs b o e).1
  have lim : s.heap.NoLimit := e0.mod.nolimit.keeps fun b o e => (e0.bs b o e).1
  have hkind : ∀ y ∈ ps.zip us, scope.names.lookup y.1 = some .local ∨ (scope.names.lookup y.1 = some .cell ∧ ((cellsFrom (s.heap.objs.size + 1) scope.names []).lookup y.1).isSome = true) := fun ⟨n, v⟩ hy => by
    rcases S.par n (List.of_mem_zip hy).1 with q | q
    · exact .inl q
    · exact .inr ⟨q, PySem.W.cellsFrom_some _ _ _ (.inl q)⟩
  refine codeAny_call_function hr.depth (KX _ _ lk) rfl S.co S.gen rfl (PySem.W.codeRec_of KX hcd) (hb _ _ _ _ ?_)
  refine wpAny_newFunctionEnv_cells S.kind hkind fun env he s1 x => ?_
  subst he
  refine ⟨lim.keeps x.toInCall.keep, codeAny_func ?_⟩
  obtain ⟨t, ht, hq⟩ := hbody A outer s H vs Q E (hr.deeper _) hsp
  have I : Inv (cxOf CX P w K mg base N qual scope f cdv A outer s H E) [] (start N vs) H s1 := inv_start S hr.hd e0 hl r x
  refine wpAny_mono (ht [] s1 (start N vs) H _ I hq) (fun fl s' hs => ?_) fun e s' hs => hs
  have fin : ∀ {σ' : St} {H' : Hp} {v : V} {u : Value}, Inv (cxOf CX P w K mg base N qual scope f cdv A outer s H E) [] σ' H' s' → RelV v u → Q v H' → CE outer P w H s Q u s' :=
    fun {σ' H' v u} J rv q => ⟨v, H', J.os, J.bare, J.base, J.hok, rv, q⟩
  cases fl with
  | ret u =>
    obtain ⟨v, σ', H', J, rv, q⟩ := hs
    exact fin J rv q
  | next =>
    obtain ⟨σ', H', J, q⟩ := hs
    exact fin (v := V.non) (u := Value.none) J rfl q
  | brk =>
    obtain ⟨_, _, _, q⟩ := hs
    exact False.elim q
  | cont =>
    obtain ⟨_, _, _, q⟩ := hs
    exact False.elim q
end L2

namespace L2
open PySem PySem.Spec PyProof.Rows
section
variable {X : Cx} {x : Str} {p pos : Pos} {e : Expr} {es : List Expr} {t : TA} {id T : String} {r : List V → Hp → VK → Prop}

def tCB (r : List V → Hp → VK → Prop) (t : TA) : TE := fun σ H Q => t σ H fun vs H1 => r vs H1 Q
/-- f(e, ..), f a built-in function -/
theorem pe_callB (hc : CallR X (.builtin id) r) (hg : Gl X x) (hm : X.mg x = none) (hv : bootBuiltins x = some (.builtin id)) (ha : PA X (e :: es) t) (hn : x ≠ "__name__" := by decide) (hdb : (x == ("__debug__" : Str)) = false := by decide)
    (he : starEach (e :: es) X.env = (false, eval e X.env) :: starEach es X.env := by rfl) (hpl : (backTo pos (starEach es X.env)).any (·.1) = false := by rfl) : PE X (.Call (.Name x p) (e :: es) [] pos) (tCB r t) := by
  intro pins s σ H Q I h
  refine wpAny_Call_Name_kw (ld_blt I hg hm hv ?_ hn hdb)
  exact PyProof.Rows.callWith_builtin1 (thn (ha pos pins s σ H _ I h) fun us s1 ⟨vs, H1, I1, r1, q1⟩ => hc pins s1 σ H1 vs us Q I1 r1 q1) he hpl
/-- T(e, ..), T a built-in type -/
theorem pe_callTy (hc : CallR X (.type T) r) (hg : Gl X x) (hm : X.mg x = none) (hv : bootBuiltins x = some (.type T)) (ha : PA X (e :: es) t) (hn : x ≠ "__name__" := by decide) (hdb : (x == ("__debug__" : Str)) = false := by decide)
    (he : starEach (e :: es) X.env = (false, eval e X.env) :: starEach es X.env := by rfl) (hpl : (backTo pos (starEach es X.env)).any (·.1) = false := by rfl) : PE X (.Call (.Name x p) (e :: es) [] pos) (tCB r t) := by
  intro pins s σ H Q I h
  refine wpAny_Call_Name_kw (ld_blt I hg hm hv ?_ hn hdb)
  exact PyProof.Rows.callWith_type1 (thn (ha pos pins s σ H _ I h) fun us s1 ⟨vs, H1, I1, r1, q1⟩ => hc pins s1 σ H1 vs us Q I1 r1 q1) he hpl
end
end L2

namespace HT
open PySem PyProof.Rows

/-- t < u of tuples of ints -/
def lexLt : List Int → List Int → Bool
  | [], [] => false
  | [], _ :: _ => true
  | _ :: _, [] => false
  | x :: xs, y :: ys => if x = y then lexLt xs ys else decide (x < y)
section
open PySem.SeqAt
open PySem.AutoSeq1 (wpAny_loadPart')
open PySem.MeetsSeq PySem.MeetsSeq2 PySem.MeetsSeq3

end

section
variable {prog : Program} {w : World} {A : Around} {E : Value → Shared → Prop} {s : Shared}

/-! ### t[a:b], not the whole -/
/-- a slice's bound as a place among n (d where it is left out) -/
def sIx (n d : Nat) : Option Int → Nat
  | none => d
  | some v => if v < 0 then (v + (n : Int)).toNat else min v.toNat n
theorem sIx_nat (n d k : Nat) : sIx n d (some (k : Int)) = min k n := by
  show (if (k : Int) < 0 then ((k : Int) + (n : Int)).toNat else min (k : Int).toNat n) = min k n
  rw [if_neg (by omega), Int.toNat_natCast]
end
end HT

namespace L2
open PySem PySem.Spec PyProof.Rows

/-! ### the parts of a slice -/
abbrev TO := St → Hp → (Option Int → Hp → Prop) → Prop
/-- a slice's part (left out, or an int) -/
def PO (X : Cx) (e : Option Expr) (t : TO) : Prop :=
  ∀ (pins : List (Addr × Obj)) (s : Shared) (σ : St) (H : Hp) (Q : Option Int → Hp → Prop), Inv X pins σ H s → t σ H Q →
    wpAny (model X.prog X.w) X.A (evalPart e X.env) (fun u s' => ∃ o H', Inv X pins σ H' s' ∧ IsPart u o ∧ Q o H') X.xe s
def tNoPart : TO := fun _ H Q => Q none H
def tPart (t : TE) : TO := fun σ H Q => t σ H fun x H1 => ∃ i, x = .int i ∧ Q (some i) H1

section
variable {X : Cx} {e : Expr} {te : TE} {lo hi : Option Expr} {tl th : TO} {pos p2 : Pos}

theorem po_none : PO X none tNoPart := by
  intro pins s σ H Q I h
  rw [evalPart_none]
  exact wpAny_pure ⟨none, H, I, .none, h⟩
theorem po_some (h : PE X e te) : PO X (some e) (tPart te) := by
  intro pins s σ H Q I hw
  rw [evalPart_some]
  refine thn (h pins s σ H _ I hw) fun u s1 ⟨x, H1, I1, r1, q1⟩ => ?_
  obtain ⟨i, rfl, q⟩ := q1
  obtain ⟨t, rfl⟩ := r1
  exact ⟨some i, H1, I1, .int i t, q⟩

/-- what a slice of a value is, by values: the slice object stands at sl -/
def SlR (X : Cx) (r : V → Option Int → Option Int → Hp → VK → Prop) : Prop :=
  ∀ (pins : List (Addr × Obj)) (s : Shared) (σ : St) (H : Hp) (x : V) (v vl vu : Value) (lo hi : Option Int) (sl : Addr) (Q : VK), Inv X pins σ H s → RelV x v → s.heap.IsSliceOf sl vl vu .none → IsPart vl lo → IsPart vu hi → r x lo hi H Q →
    ∃ T id, typeLookup (.type T) "__getitem__" = pure (some (.builtin id)) ∧ s.TypeIs v T ∧ wpAny (model X.prog X.w) X.A (getItem v (.ref sl)) (EP X pins σ Q) X.xe s
def tSl (r : V → Option Int → Option Int → Hp → VK → Prop) (te : TE) (tl th : TO) : TE := fun σ H Q => te σ H fun x H1 => tl σ H1 fun l H2 => th σ H2 fun u H3 => r x l u H3 Q
/-- a[lo:hi], any a -/
theorem pe_slice {r : V → Option Int → Option Int → Hp → VK → Prop} (hr : SlR X r) (he : PE X e te) (hl : PO X lo tl) (hu : PO X hi th) : PE X (.Subscript e (.Slice lo hi none p2) pos) (tSl r te tl th) := by
  intro pins s σ H Q I h
  refine Subscript_ (thn (he pins s σ H _ I h) fun v s1 ⟨x, H1, I1, r1, q1⟩ => ?_)
  refine wpAny_Slice (thn (hl pins s1 σ H1 _ I1 q1) fun vl s2 ⟨l, H2, I2, pl, q2⟩ => thn (hu pins s2 σ H2 _ I2 q2) fun vu s3 ⟨u, H3, I3, pu, q3⟩ => ?_)
  rw [evalPart_none]
  refine wpAny_pure ?_
  have I4 : Inv X pins σ H3 { s3 with heap := s3.heap.push { cls := .type "slice", data := .fields #[vl, vu, .none] } } := I3.kept (t' := s3.toks) fun b ob q => Heap.get?_push_of_some _ q
  obtain ⟨T, id, hT, ht, hg⟩ := hr pins { s3 with heap := s3.heap.push { cls := .type "slice", data := .fields #[vl, vu, .none] } } σ H3 x v vl vu l u s3.heap.objs.size Q I4 r1 (Heap.IsSliceOf.new ..) pl pu q3
  show wpAny (model X.prog X.w) X.A (subscriptTail e (.Slice lo hi none p2) v (.ref s3.heap.objs.size)) (EP X pins σ Q) X.xe { s3 with heap := s3.heap.push { cls := .type "slice", data := .fields #[vl, vu, .none] } }
  exact tail_any (ops := [.ref s3.heap.objs.size, v]) ht hT hg (by with_unfolding_all rfl)

/-- the items of xs[lo:hi] -/
def cutV (xs : List V) (lo hi : Option Int) : List V := (xs.drop (HT.sIx xs.length 0 lo)).take (HT.sIx xs.length xs.length hi - HT.sIx xs.length 0 lo)
theorem cutV_length (xs : List V) (lo hi : Option Int) : (cutV xs lo hi).length ≤ xs.length := by
  unfold cutV
  rw [List.length_take, List.length_drop]
  omega
/-- t[lo:hi], not the whole of it (the whole would be t itself) -/
def rSlT (K : PySem.W.Frag) : V → Option Int → Option Int → Hp → VK → Prop := fun x lo hi H Q => ∃ a xs, x = .ref a ∧ SqT K H a xs ∧
  ¬ (HT.sIx xs.length 0 lo = 0 ∧ HT.sIx xs.length xs.length hi = xs.length) ∧ ∀ p, H p = none → Q (.ref p) (upd H p (.tup (cutV xs lo hi)))
/-! ### t < u, t + u -/
def rLtT (K : PySem.W.Frag) : R2 := fun x y H Q => ∃ a b ns ms, x = .ref a ∧ y = .ref b ∧ SqT K H a (ns.map V.int) ∧ SqT K H b (ms.map V.int) ∧ Q (.bl (HT.lexLt ns ms)) H
/-- t + u, t not empty: u empty gives t itself -/
def rCatT (K : PySem.W.Frag) : R2 := fun x y H Q => ∃ a b xs ys, x = .ref a ∧ y = .ref b ∧ SqT K H a xs ∧ SqT K H b ys ∧ xs ≠ [] ∧ xs.length + ys.length ≤ sizeLine ∧
  (ys = [] → Q (.ref a) H) ∧ (ys ≠ [] → ∀ p, H p = none → Q (.ref p) (upd H p (.tup (xs ++ ys))))
end
end L2

namespace L2
open PySem PySem.Spec PyProof.Rows

/-! ### places -/
/-- the place that an index of any sign means -/
def ixN (n : Nat) (i : Int) : Option Nat := if 0 ≤ i then (if i < n then some i.toNat else none) else if -(n : Int) ≤ i then some (i + n).toNat else none
def atI {α : Type} (xs : List α) (i : Int) : Option α := (ixN xs.length i).bind fun j => xs[j]?
theorem ixN_seq {n : Nat} {i : Int} {j : Nat} (h : ixN n i = some j) : seqIndex? i n = some j ∧ j < n ∧ -(n : Int) ≤ i ∧ i < n := by
  unfold ixN at h
  by_cases h0 : 0 ≤ i
  · rw [if_pos h0] at h
    by_cases h1 : i < n
    · rw [if_pos h1] at h
      have e : i.toNat = j := Option.some.inj h
      exact ⟨by rw [seqIndex_of h0 h1, e], by omega, by omega, h1⟩
    · rw [if_neg h1] at h; cases h
  · rw [if_neg h0] at h
    by_cases h1 : -(n : Int) ≤ i
    · rw [if_pos h1] at h
      have e : (i + n).toNat = j := Option.some.inj h
      exact ⟨by rw [seqIndex_neg (by omega) h1, e], by omega, h1, by omega⟩
    · rw [if_neg h1] at h; cases h
theorem atI_get {α : Type} {xs : List α} {i : Int} {v : α} (h : atI xs i = some v) : ∃ j, seqIndex? i xs.length = some j ∧ xs[j]? = some v ∧ j < xs.length ∧ -(xs.length : Int) ≤ i ∧ i < xs.length := by
  unfold atI at h
  cases e : ixN xs.length i with
  | none => rw [e] at h; cases h
  | some j =>
    rw [e] at h
    obtain ⟨h1, h2, h3, h4⟩ := ixN_seq e
    exact ⟨j, h1, h, h2, h3, h4⟩
theorem atI_nat {α : Type} {xs : List α} {j : Nat} {v : α} (h : xs[j]? = some v) : atI xs (j : Int) = some v := by
  have hj : j < xs.length := (List.getElem?_eq_some_iff.mp h).1
  have e : ixN xs.length (j : Int) = some j := by
    unfold ixN
    rw [if_pos (by omega), if_pos (by omega)]; simp
  unfold atI; rw [e]; exact h
/-! ### what may be subscripted -/
/-- what stands as an index of a plain subscript -/
def PlainIx (b : Expr) : Prop := ∀ o i, subscripted b false o i = operate [o, i] (getItem o i)
/-- a subscript by values -/
def IxR (X : Cx) (r : R2) : Prop :=
  ∀ (value slice : Expr) (pins : List (Addr × Obj)) (s : Shared) (σ : St) (H : Hp) (x y : V) (v u : Value) (Q : VK), Inv X pins σ H s → RelV x v → RelV y u → r x y H Q →
    subscripted slice false v u = operate [v, u] (getItem v u) → wpAny (model X.prog X.w) X.A (subscriptTail value slice v u) (EP X pins σ Q) X.xe s
/-- a call of a builtin's method by values: the receiver, the arguments -/
def MtR (X : Cx) (id : String) (r : V → List V → Hp → VK → Prop) : Prop :=
  ∀ (pins : List (Addr × Obj)) (s : Shared) (σ : St) (H : Hp) (x : V) (xs : List V) (v : Value) (us : List Value) (Q : VK), Inv X pins σ H s → RelV x v → Vals xs us → r x xs H Q →
    wpAny (model X.prog X.w) X.A (call (.builtin id) (v :: us)) (EP X pins σ Q) X.xe s
section
variable {X : Cx} {a b : Expr} {ta tb : TE} {pos : Pos}
/-- a[b] -/
theorem pe_ix {r : R2} (hr : IxR X r) (ha : PE X a ta) (hb : PE X b tb) (hs : PlainIx b) : PE X (.Subscript a b pos) (tOp r ta tb) := by
  intro pins s σ H Q I h
  exact Subscript_ (binT ha hb I h fun v u s2 x y H2 I2 rx ry q => hr a b pins s2 σ H2 x y v u Q I2 rx ry q (hs _ _))

def rIxL (K : PySem.W.Frag) : R2 := fun x y H Q => ∃ p xs i v, x = .ref p ∧ y = .int i ∧ SqL K H p xs ∧ atI xs i = some v ∧ Q v H
def rIxT (K : PySem.W.Frag) : R2 := fun x y H Q => ∃ p xs i v, x = .ref p ∧ y = .int i ∧ SqT K H p xs ∧ atI xs i = some v ∧ Q v H
def rIxS : R2 := fun x y H Q => ∃ z i c, x = .str z ∧ y = .int i ∧ z.length ≤ sizeLine ∧ atI z.cps.toList i = some c ∧ Q (.str ⟨#[c]⟩) H
theorem ix_list : IxR X (rIxL X.K) := by
  intro value slice pins s σ H x y v u Q I rx ry h hs
  obtain ⟨p, xs, i, z, rfl, rfl, hq, he, q⟩ := h
  cases rx
  obtain ⟨t, rfl⟩ := ry
  obtain ⟨its, r, pl, hz⟩ := I.list hq
  obtain ⟨j, h1, h2, h3, h4, h5⟩ := atI_get he
  obtain ⟨w, ew, rw'⟩ := r.get h2
  have hl := r.length
  have hn := line63
  have fin : EP X pins σ Q w s := ⟨z, H, I, rw', q⟩
  by_cases h0 : 0 ≤ i
  · have hj : i.toNat = j := by
      rw [seqIndex_of h0 h5] at h1
      exact Option.some.inj h1
    exact item_listR pl.isList h0 (by omega) (by rw [hj]; simpa using ew) fin hs
  · have hj : (i + (its.toArray.size : Int)).toNat = j := by
      rw [seqIndex_neg (by omega) h4] at h1
      rw [List.size_toArray, ← hl]
      exact Option.some.inj h1
    exact subscriptTail_builtinR (x := w) pl.isList.typeIs slot_list_getitem.lookup
      (wpAny_getItem_list_neg (Q := fun r s' => r = w ∧ EP X pins σ Q r s') pl.isList (by omega) (by rw [List.size_toArray] <;> omega) (by omega) (by rw [hj]; simpa using ew) ⟨rfl, fin⟩) hs
theorem ix_tup : IxR X (rIxT X.K) := by
  intro value slice pins s σ H x y v u Q I rx ry h hs
  obtain ⟨p, xs, i, z, rfl, rfl, hq, he, q⟩ := h
  cases rx
  obtain ⟨t, rfl⟩ := ry
  obtain ⟨its, r, pl, hz⟩ := I.tuple hq
  obtain ⟨j, h1, h2, h3, h4, h5⟩ := atI_get he
  obtain ⟨w, ew, rw'⟩ := r.get h2
  have hl := r.length
  have hn := line63
  have fin : EP X pins σ Q w s := ⟨z, H, I, rw', q⟩
  exact subscriptTail_builtinR (x := w) pl.typeIs slot_tuple_getitem.lookup
    (getItem_tuple (j := j) (Q := fun r s' => r = w ∧ EP X pins σ Q r s') pl (by omega) (by omega) (by rw [List.size_toArray, ← hl]; exact h1) (by simpa using ew) ⟨rfl, fin⟩) hs
theorem ix_str : IxR X rIxS := by
  intro value slice pins s σ H x y v u Q I rx ry h hs
  obtain ⟨z, i, c, rfl, rfl, hz, he, q⟩ := h
  obtain ⟨t, rfl⟩ := rx
  obtain ⟨t', rfl⟩ := ry
  obtain ⟨j, h1, h2, h3, h4, h5⟩ := atI_get he
  have hl : z.cps.toList.length = z.length := by simp [Str.length]
  rw [hl] at h1 h4 h5
  have hn := line63
  exact tail_any (typeIs_str s z t) slot_str_getitem.lookup (getItem_str (c := c) (by
    have e1 : decide (i < -(2 ^ 63 : Int)) = false := decide_eq_false (by omega)
    have e2 : decide (i ≥ 2 ^ 63) = false := decide_eq_false (by omega)
    rw [e1, e2, Bool.or_false]) (by rw [h1]; simpa using h2) ⟨.str ⟨#[c]⟩, H, I.tok _, ⟨_, rfl⟩, q⟩) hs
/-- list, tuple or str -/
def rIx (K : PySem.W.Frag) : R2 := fun x y H Q => rIxL K x y H Q ∨ rIxT K x y H Q ∨ rIxS x y H Q
/-! ### xs[i] = v, any sign -/
/-- the list's object behind a store -/
theorem mapSeq_set (its : List Value) (n j : Nat) (u : Value) : Obj.mapSeq (·.setIfInBounds j u) { cls := .type "list", data := .seq its.toArray n } = { cls := .type "list", data := .seq (its.set j u).toArray n } := by
  simp [Obj.mapSeq]
theorem Inv.lst {pins : List (Addr × Obj)} {σ : St} {H : Hp} {s : Shared} {p : Addr} {xs : List V} (I : Inv X pins σ H s) (h : H p = some (.lst xs)) :
    ∃ (its : List Value) (n : Nat), Vals xs its ∧ s.heap.get? p = some { cls := .type "list", data := .seq its.toArray n } ∧ xs.length ≤ sizeLine := by
  obtain ⟨z, its, n, r, e⟩ := I.hok p _ h
  exact ⟨its, n, r, e, z⟩
/-- the list at p is written by an update of its object -/
theorem Inv.lstUpd {pins : List (Addr × Obj)} {σ : St} {H : Hp} {s : Shared} {p : Addr} {xs ys : List V} {its its' : List Value} {n n' : Nat} {f : Obj → Obj} (I : Inv X pins σ H s) (h : H p = some (.lst xs))
    (ho : s.heap.get? p = some { cls := .type "list", data := .seq its.toArray n }) (hf : f { cls := .type "list", data := .seq its.toArray n } = { cls := .type "list", data := .seq its'.toArray n' }) (r : Vals ys its') (hz : ys.length ≤ sizeLine) (t : Nat) :
    Inv X pins σ (upd H p (.lst ys)) { s with heap := s.heap.update p f, toks := t } := by
  have e : (s.heap.update p f).get? p = some { cls := .type "list", data := .seq its'.toArray n' } := by
    rw [Heap.get?_update_self f ho (by rw [hf] <;> rfl), hf]
  refine I.write (x := p) (e := p) (by rw [h]; trivial) (.inl rfl) (fun b u hb q => (Heap.get?_update_other _ _ (Ne.symm hb)).trans q) ⟨_, e⟩ ?_
  exact ⟨hz, its', n', r, e⟩
def rSetL : V → V → V → Hp → (Hp → Prop) → Prop := fun o i v H Q => ∃ p xs k j, o = .ref p ∧ i = .int k ∧ H p = some (.lst xs) ∧ ixN xs.length k = some j ∧ Q (upd H p (.lst (xs.set j v)))
theorem set_list : PSet X rSetL := by
  intro pins s σ H o i v ov iv u Q I ro ri rv h
  obtain ⟨p, xs, k, j, rfl, rfl, hp, hj, q⟩ := h
  cases ro
  obtain ⟨t, rfl⟩ := ri
  obtain ⟨its, n, r, ho, hz⟩ := I.lst hp
  obtain ⟨h1, h2, h3, h4⟩ := ixN_seq hj
  have hl := r.length
  have hn := line63
  have I' : Inv X pins σ (upd H p (.lst (xs.set j v))) { s with heap := s.heap.update p (Obj.mapSeq (·.setIfInBounds j u)) } :=
    I.lstUpd hp ho (mapSeq_set its n j u) (r.set rv j) (by rw [List.length_set]; exact hz) s.toks
  by_cases h0 : 0 ≤ k
  · have hk : k.toNat = j := by
      rw [seqIndex_of h0 h4] at h1
      exact Option.some.inj h1
    exact PySem.W.ki_setAt ho h0 (by omega) (by rw [List.size_toArray, ← hl]; exact h4) (by rw [hk]; exact ⟨_, I', q⟩)
  · have hk : (k + (its.toArray.size : Int)).toNat = j := by
      rw [seqIndex_neg (by omega) h3] at h1
      rw [List.size_toArray, ← hl]
      exact Option.some.inj h1
    exact PySem.W.ki_setBack ho (by omega) (by rw [List.size_toArray, ← hl]; exact h3) (by omega) (by rw [hk]; exact ⟨_, I', q⟩)

/-! ### slices -/
theorem slice_bounds (lo hi : Option Int) (n : Nat) : (sliceBounds lo hi none n).1 = ((HT.sIx n 0 lo : Nat) : Int) ∧ (sliceBounds lo hi none n).2.1 = ((HT.sIx n n hi : Nat) : Int) ∧ (sliceBounds lo hi none n).2.2 = 1 := by
  refine ⟨?_, ?_, rfl⟩
  · cases lo with
    | none => simp [sliceBounds, HT.sIx]
    | some i =>
      simp only [sliceBounds, HT.sIx, Option.getD_none, show (1 : Int) > 0 by decide, if_true]
      by_cases h : i < 0
      · simp only [h, if_true] <;> omega
      · simp only [h, if_false] <;> omega
  · cases hi with
    | none => simp [sliceBounds, HT.sIx]
    | some i =>
      simp only [sliceBounds, HT.sIx, Option.getD_none, show (1 : Int) > 0 by decide, if_true]
      by_cases h : i < 0
      · simp only [h, if_true] <;> omega
      · simp only [h, if_false] <;> omega
theorem slicePick_cut (its : List Value) (lo hi : Option Int) : slicePick its.toArray lo hi none = ((its.drop (HT.sIx its.length 0 lo)).take (HT.sIx its.length its.length hi - HT.sIx its.length 0 lo)).toArray := by
  obtain ⟨h1, h2, h3⟩ := slice_bounds lo hi its.toArray.size
  unfold slicePick
  rw [h1, h2, h3]
  simp only [sliceRange_one, pick_run, List.size_toArray] <;> rfl
/-- xs[lo:hi] of a list: a new list -/
def rSlL (K : PySem.W.Frag) : V → Option Int → Option Int → Hp → VK → Prop := fun x lo hi H Q => ∃ a xs, x = .ref a ∧ SqL K H a xs ∧ ∀ p, H p = none → Q (.ref p) (upd H p (.lst (cutV xs lo hi)))
theorem sl_list : SlR X (rSlL X.K) := by
  intro pins s σ H x v vl vu lo hi sl Q I rx hs pl pu h
  obtain ⟨a, xs, rfl, hx, q⟩ := h
  cases rx
  obtain ⟨its, r, ht, hz⟩ := I.list hx
  have hlen := r.length
  refine ⟨"list", _, slot_list_getitem.lookup, ht.isList.typeIs, ?_⟩
  refine wpAny_getItem_list_slice ht.isList hs pl pu .none (by simp) ?_ (by rw [List.size_toArray] <;> omega)
  rw [slicePick_cut, ← hlen]
  refine ⟨.ref s.heap.objs.size, _, I.laid (t' := s.toks) (o := .lst (cutV xs lo hi)) (fun b ob q => Heap.get?_push_of_some _ q) (Nat.le_refl _) ?_, rfl, q _ (I.hok.fresh (Nat.le_refl _))⟩
  exact ⟨Nat.le_trans (cutV_length xs lo hi) hz, _, 0, (r.drop (HT.sIx xs.length 0 lo)).take (HT.sIx xs.length xs.length hi - HT.sIx xs.length 0 lo), Heap.get?_push_size _ rfl⟩

/-! ### in, not in: flat items -/
def flatV : V → Bool
  | .non => true
  | .bl _ => true
  | .int _ => true
  | .str _ => true
  | _ => false
/-- == of flat values -/
def eqV : V → V → Bool
  | .non, .non => true
  | .bl a, .bl b => a == b
  | .bl a, .int b => (if a then 1 else 0) == b
  | .int a, .bl b => a == (if b then 1 else 0)
  | .int a, .int b => a == b
  | .str a, .str b => a == b
  | _, _ => false
theorem eqAt_V {A : Around} {s : Shared} {y x : V} {u v : Value} (ry : RelV y u) (rx : RelV x v) (fy : flatV y = true) (fx : flatV x = true) : SeqAt.EqAt A s u v (eqV y x) := by
  cases y with
  | non =>
    cases ry
    cases x with
    | non => cases rx; exact SeqAt.EqAt.same _
    | bl b => cases rx; exact SeqAt.EqAt.none_bool b
    | int b => obtain ⟨t, rfl⟩ := rx; exact SeqAt.EqAt.none_int b t
    | str b => obtain ⟨t, rfl⟩ := rx; exact SeqAt.EqAt.none_str b t
    | _ => exact absurd (show false = true from fx) Bool.false_ne_true
  | bl a =>
    cases ry
    cases x with
    | non => cases rx; exact SeqAt.EqAt.bool_none a
    | bl b => cases rx; exact SeqAt.EqAt.bool_bool a b
    | int b => obtain ⟨t, rfl⟩ := rx; exact SeqAt.EqAt.bool_int a b t
    | str b => obtain ⟨t, rfl⟩ := rx; exact SeqAt.EqAt.bool_str a b t
    | _ => exact absurd (show false = true from fx) Bool.false_ne_true
  | int a =>
    obtain ⟨t', rfl⟩ := ry
    cases x with
    | non => cases rx; exact SeqAt.EqAt.int_none a t'
    | bl b => cases rx; exact SeqAt.EqAt.int_bool a t' b
    | int b => obtain ⟨t, rfl⟩ := rx; exact SeqAt.EqAt.int_int a t' b t
    | str b => obtain ⟨t, rfl⟩ := rx; exact SeqAt.EqAt.int_str a t' b t
    | _ => exact absurd (show false = true from fx) Bool.false_ne_true
  | str a =>
    obtain ⟨t', rfl⟩ := ry
    cases x with
    | non => cases rx; exact SeqAt.EqAt.str_none a t'
    | bl b => cases rx; exact SeqAt.EqAt.str_bool a t' b
    | int b => obtain ⟨t, rfl⟩ := rx; exact SeqAt.EqAt.str_int a t' b t
    | str b => obtain ⟨t, rfl⟩ := rx; exact SeqAt.EqAt.str_str a t' b t
    | _ => exact absurd (show false = true from fx) Bool.false_ne_true
  | _ => exact absurd (show false = true from fy) Bool.false_ne_true
/-- the items' answers, read off the values (a value's own answer does not lean on its token) -/
def eqU (x : V) (u : Value) : Bool := match u with
  | .none => eqV .non x
  | .bool b => eqV (.bl b) x
  | .int i _ => eqV (.int i) x
  | .str z _ => eqV (.str z) x
  | _ => false
def inV (x : V) (xs : List V) : Bool := xs.any fun y => eqV y x
/-- x in a list or tuple of flat items -/
def rIn (K : PySem.W.Frag) (neg : Bool) : R2 := fun x y H Q => ∃ p xs, y = .ref p ∧ (SqL K H p xs ∨ SqT K H p xs) ∧ flatV x = true ∧ xs.all flatV = true ∧ Q (.bl (if neg then !inV x xs else inV x xs)) H
/-! ### len, list(x), tuple(x) of any list or tuple that is read -/
theorem call_len_seq : CallR X (.builtin "len") (fun xs H Q => ∃ p ys, xs = [.ref p] ∧ (SqL X.K H p ys ∨ SqT X.K H p ys) ∧ Q (.int ys.length) H) := by
  intro pins s σ H xs us Q I r h
  obtain ⟨p, ys, rfl, hq, q⟩ := h
  obtain ⟨u, rfl, rx⟩ := vals1 r
  cases rx
  have hn := line63
  rcases hq with hq | hq
  · obtain ⟨its, r', pl, hz⟩ := I.list hq
    have hlen := r'.length
    exact Calls.call_len_list pl.isList (by simp only [List.size_toArray] <;> omega) ⟨.int ys.length, H, I.tok _, ⟨s.toks + 1, by rw [List.size_toArray, hlen]⟩, q⟩
  · obtain ⟨its, r', pl, hz⟩ := I.tuple hq
    have hlen := r'.length
    exact len_tuple pl (by simp only [List.size_toArray] <;> omega) ⟨.int ys.length, H, I.tok _, ⟨s.toks + 1, by rw [List.size_toArray, hlen]⟩, q⟩
theorem call_len_str : CallR X (.builtin "len") (fun xs H Q => ∃ z, xs = [.str z] ∧ z.length ≤ sizeLine ∧ Q (.int z.length) H) := by
  intro pins s σ H xs us Q I r h
  obtain ⟨z, rfl, hz, q⟩ := h
  obtain ⟨u, rfl, t, rfl⟩ := vals1 r
  have hn := line63
  exact len_str (by omega) ⟨.int z.length, H, I.tok _, ⟨_, rfl⟩, q⟩
theorem call_list_of : CallR X (.type "list") (fun xs H Q => ∃ p ys, xs = [.ref p] ∧ (SqL X.K H p ys ∨ SqT X.K H p ys) ∧ ∀ l, H l = none → Q (.ref l) (upd H l (.lst ys))) := by
  intro pins s σ H xs us Q I r h
  obtain ⟨p, ys, rfl, hq, q⟩ := h
  obtain ⟨u, rfl, rx⟩ := vals1 r
  cases rx
  have fin : ∀ (its : List Value), Vals ys its → ys.length ≤ sizeLine → ∀ (h' : Heap) (c' : Nat), (∀ b o', s.heap.get? b = some o' → h'.get? b = some o') →
      h'.get? s.heap.objs.size = some { cls := .type "list", dict := none, data := .seq its.toArray c', slots := #[] } → EP X pins σ Q (.ref s.heap.objs.size) { s with heap := h' } := fun its r' hz h' c' kp e =>
    ⟨.ref s.heap.objs.size, _, I.laid (t' := s.toks) kp (Nat.le_refl _) (show ObjOk X.prog X.w _ h' _ (.lst ys) from ⟨hz, its, c', r', e⟩), rfl, q _ (I.hok.fresh (Nat.le_refl _))⟩
  rcases hq with hq | hq
  · obtain ⟨its, r', pl, hz⟩ := I.list hq
    have hlen := r'.length
    obtain ⟨o, ho, hc, n, hd⟩ := pl.isList
    exact call_list_seq p (.inl rfl) ho hc hd (fun h' c' kp e => fin its r' hz h' c' kp e) (by simp only [List.size_toArray] <;> omega)
  · obtain ⟨its, r', pl, hz⟩ := I.tuple hq
    have hlen := r'.length
    obtain ⟨o, ho, hc, n, hd⟩ := pl
    exact call_list_seq p (.inr rfl) ho hc hd (fun h' c' kp e => fin its r' hz h' c' kp e) (by simp only [List.size_toArray] <;> omega)
/-! ### the call of a builtin's method: o.m(..) -/
/-- the value is of that builtin type -/
def tyV (K : PySem.W.Frag) (T : String) (x : V) (H : Hp) : Prop := match x with
  | .str _ => T = "str"
  | .int _ => T = "int"
  | .ref p => (T = "list" ∧ ∃ xs, SqL K H p xs) ∨ (T = "tuple" ∧ ∃ o, K.lookup p = some o ∧ o.cls = .type "tuple" ∧ o.dict = none) ∨
      (T = "dict" ∧ ((∃ kvs, H p = some (.dK kvs)) ∨ ∃ kvs, H p = some (.dT kvs))) ∨ (T = "set" ∧ ∃ S n, H p = some (.set S n))
  | _ => False
theorem tyV_is {pins : List (Addr × Obj)} {σ : St} {H : Hp} {s : Shared} {T : String} {x : V} {v : Value} (I : Inv X pins σ H s) (r : RelV x v) (ty : tyV X.K T x H) :
    s.TypeIs v T ∧ ∀ a, v = .ref a → ∃ ob, s.heap.get? a = some ob ∧ ob.dict = none := by
  cases x with
  | str z =>
    obtain ⟨t, rfl⟩ := r
    cases (show T = "str" from ty)
    exact ⟨typeIs_str s z t, fun _ e => nomatch e⟩
  | int i =>
    obtain ⟨t, rfl⟩ := r
    cases (show T = "int" from ty)
    exact ⟨typeIs_int s i t, fun _ e => nomatch e⟩
  | ref p =>
    cases r
    rcases ty with ⟨rfl, xs, hq⟩ | ⟨rfl, o, hk, hc, hd⟩ | ⟨rfl, hk⟩ | ⟨rfl, S, n, hk⟩
    · obtain ⟨its, _, pl, _⟩ := I.list hq
      refine ⟨pl.isList.typeIs, fun a e => ?_⟩
      cases e
      obtain ⟨o, n, e, c, hd, _⟩ := pl
      exact ⟨o, e, hd⟩
    · refine ⟨⟨o, I.kIn p o hk, hc⟩, fun a e => ?_⟩
      cases e
      exact ⟨o, I.kIn _ o hk, hd⟩
    · have z : ∃ o, s.heap.get? p = some o ∧ o.ExactDict := by
        rcases hk with ⟨kvs, hk⟩ | ⟨kvs, hk⟩
        · obtain ⟨_, _, _, _, o, _, _, e, ex, _⟩ := I.hok p _ hk
          exact ⟨o, e, ex⟩
        · obtain ⟨_, _, _, _, o, _, _, e, ex, _⟩ := I.hok p _ hk
          exact ⟨o, e, ex⟩
      obtain ⟨o, e, ex⟩ := z
      refine ⟨⟨o, e, ex.1⟩, fun a e2 => ?_⟩
      cases e2
      exact ⟨o, e, ex.2.1⟩
    · obtain ⟨o, _, _, _, e, ex, _⟩ := I.hok p _ hk
      refine ⟨⟨o, e, ex.1⟩, fun a e2 => ?_⟩
      cases e2
      exact ⟨o, e, ex.2.1⟩
  | _ => exact False.elim ty
def tBM0 (K : PySem.W.Frag) (T : String) (r : V → List V → Hp → VK → Prop) (to : TE) : TE := fun σ H Q => to σ H fun x H1 => tyV K T x H1 ∧ r x [] H1 Q
def tBM (K : PySem.W.Frag) (T : String) (r : V → List V → Hp → VK → Prop) (to : TE) (t : TA) : TE := fun σ H Q => to σ H fun x H1 => tyV K T x H1 ∧ t σ H1 fun xs H2 => r x xs H2 Q
variable {o e : Expr} {es : List Expr} {to : TE} {t : TA} {name : Str} {apos cpos : Pos} {T id : String} {r : V → List V → Hp → VK → Prop}
theorem pe_bm (pa : PlainAttrs T) (slot : Slot T name id) (hty : typeOf (.builtin id) = pure (.type "method_descriptor")) (hm : MtR X id r) (ho : PE X o to) (ha : PA X (e :: es) t)
    (hbase : attributeBase o name X.env (eval o X.env) = eval o X.env := by rfl)
    (hfew : ((backTo cpos (starEach (e :: es) X.env)).all (fun x => !x.1) && (backToKw cpos (keywordEach [] X.env)).all (fun x => x.1.isSome)
      && decide ((e :: es).length + ([] : List Keyword).length + (if ([] : List Keyword).isEmpty then 0 else 1) < 30)) = true := by rfl)
    (hline : (apos.endLine == cpos.line) = true := by rfl) (hs : starEach (e :: es) X.env = (false, eval e X.env) :: starEach es X.env := by rfl) (hplain : (backTo cpos (starEach es X.env)).any (·.1) = false := by rfl) :
    PE X (.Call (.Attribute o name apos) (e :: es) [] cpos) (tBM X.K T r to t) := by
  intro pins s σ H Q I h
  refine wpAny_Call_method_late hbase hfew hline rfl (thn (ho pins s σ H _ I h) fun v s1 ⟨x, H1, I1, r1, ty, q1⟩ => ?_)
  obtain ⟨h1, h2⟩ := tyV_is I1 r1 ty
  refine ⟨T, id, pa, slot, hty, h1, h2, ?_⟩
  have hA := ha cpos pins s1 σ H1 _ I1 q1
  rw [hs] at hA ⊢
  refine Calls.callWith_builtin (by show (false || (backTo cpos (starEach es X.env)).any (·.1)) = false; rw [hplain] <;> rfl) (Calls.evalArgs_plain ?_)
  exact thn hA fun us s2 ⟨vs, H2, I2, r2, q2⟩ => hm pins s2 σ H2 x vs v us Q I2 r1 r2 q2
/- xs.append(e), list.index on a module's tuple .. are MtR facts of 06m -/
end
end L2

namespace L2
open PySem PySem.Spec PyProof.Rows

def MtM (X : Cx) (id : String) (r : V → List V → Hp → VK → Prop) : Prop :=
  ∀ (pins : List (Addr × Obj)) (s : Shared) (σ : St) (H : Hp) (x : V) (xs : List V) (v : Value) (us : List Value) (Q : VK), Inv X pins σ H s → RelV x v → Vals xs us → r x xs H Q →
    wpAny (model X.prog X.w) X.A (call (.builtin id) (v :: us)) (EP X pins σ Q) X.xe s

/-! ### lists of values -/
theorem Vals.one : ∀ {x : V} {us : List Value}, Vals [x] us → ∃ u, us = [u] ∧ RelV x u
  | _, _, .cons r .nil => ⟨_, rfl, r⟩
theorem Vals.two : ∀ {x y : V} {us : List Value}, Vals [x, y] us → ∃ u v, us = [u, v] ∧ RelV x u ∧ RelV y v
  | _, _, _, .cons r (.cons q .nil) => ⟨_, _, rfl, r, q⟩
theorem Vals.rep {xs : List V} {us : List Value} (h : Vals xs us) : ∀ k : Nat, Vals (List.replicate k xs).flatten (List.replicate k us).flatten
  | 0 => .nil
  | k + 1 => by
    rw [List.replicate_succ, List.replicate_succ, List.flatten_cons, List.flatten_cons]
    exact Vals.append h (Vals.rep h k)
theorem foldl_rep (its : List Value) : ∀ (k : Nat) (acc : List Value),
    List.foldl (fun x1 x2 => x1 ++ x2) acc.toArray (List.replicate k its.toArray) = (acc ++ (List.replicate k its).flatten).toArray
  | 0, acc => by simp
  | k + 1, acc => by
    have e : acc.toArray ++ its.toArray = (acc ++ its).toArray := by simp
    have e2 : (acc ++ its) ++ (List.replicate k its).flatten = acc ++ (List.replicate (k + 1) its).flatten := by
      rw [List.replicate_succ, List.flatten_cons, List.append_assoc]
    rw [← e2, ← foldl_rep its k (acc ++ its), ← e, List.replicate_succ, List.foldl_cons]

section
variable {X : Cx} {pins : List (Addr × Obj)} {σ : St} {H : Hp} {s : Shared} {l b : Addr} {xs ys zs : List V}

/-! ### the two steps: a tracked list is rewritten, a new list is laid -/
theorem Inv.lset {its its' : List Value} {n : Nat} {f : Array Value → Array Value} {t' : Nat} (I : Inv X pins σ H s) (hH : H l = some (.lst xs))
    (e : s.heap.get? l = some { cls := .type "list", data := .seq its.toArray n }) (hf : f its.toArray = its'.toArray) (hv : Vals ys its') (hz : ys.length ≤ sizeLine) :
    Inv X pins σ (upd H l (.lst ys)) { s with heap := s.heap.update l (Obj.mapSeq f), toks := t' } := by
  have q := PySem.IsL.update e f
  rw [hf] at q
  refine I.write (x := l) (e := l) (by rw [hH]; exact trivial) (.inl rfl) (fun b' u hb hu => (Heap.get?_update_other s.heap (Obj.mapSeq f) (Ne.symm hb)).trans hu) ⟨_, q⟩ ?_
  exact ⟨hz, its', _, hv, q⟩
theorem Inv.lnew {its : List Value} {t' : Nat} (I : Inv X pins σ H s) (hv : Vals ys its) (hz : ys.length ≤ sizeLine) :
    Inv X pins σ (upd H s.heap.objs.size (.lst ys)) { s with heap := s.heap.push { cls := .type "list", data := .seq its.toArray }, toks := t' } :=
  I.laid (fun _ _ q => Heap.get?_push_of_some _ q) (Nat.le_refl _) ⟨hz, its, 0, hv, Heap.get?_push_size _ rfl⟩
theorem Inv.fresh (I : Inv X pins σ H s) : H s.heap.objs.size = none := I.hok.fresh (Nat.le_refl _)
theorem Inv.lstM (I : Inv X pins σ H s) (hH : H l = some (.lst xs)) : xs.length ≤ sizeLine ∧ ∃ (its : List Value) (n : Nat), Vals xs its ∧ xs.length = its.length ∧ s.heap.get? l = some { cls := .type "list", data := .seq its.toArray n } := by
  obtain ⟨z, its, n, r, e⟩ := I.hok l _ hH
  exact ⟨z, its, n, r, r.length, e⟩

theorem notLongL {n : Nat} (h : n ≤ sizeLine) : Builtin.List.listTooLong n = false := by
  unfold Builtin.List.listTooLong
  exact decide_eq_false (by omega)
end

section
variable {X : Cx}

/-! ### methods -/
def rAppend : V → List V → Hp → VK → Prop := fun x vs H Q => ∃ l xs y, x = .ref l ∧ vs = [y] ∧ H l = some (.lst xs) ∧ xs.length < sizeLine ∧ Q .non (upd H l (.lst (xs ++ [y])))
theorem mt_append : MtM X "list.append" rAppend := by
  intro pins s σ H x vs v us Q I rx rv h
  obtain ⟨l, xs, y, rfl, rfl, hH, hz, q⟩ := h
  cases rx
  obtain ⟨u, rfl, ru⟩ := rv.one
  obtain ⟨z, its, n, r, hl, e⟩ := I.lstM hH
  refine call_meets F.slot_list_append ⟨_, e, rfl⟩ F.entry_list_append (F.args_list_append_2 _ _) (PySem.list_append l its.toArray n u (by rw [List.size_toArray]; omega)) ⟨e, ?_⟩
  refine ⟨.non, _, I.lset (its' := its ++ [u]) hH e (by simp) (r.append (.cons ru .nil)) ?_, rfl, q⟩
  rw [List.length_append, List.length_singleton]
  omega

def rExtend : V → List V → Hp → VK → Prop := fun x vs H Q => ∃ l b xs zs, x = .ref l ∧ vs = [.ref b] ∧ H l = some (.lst xs) ∧ H b = some (.lst zs) ∧ xs.length + zs.length ≤ sizeLine ∧ Q .non (upd H l (.lst (xs ++ zs)))
def rPop : V → List V → Hp → VK → Prop := fun x vs H Q => ∃ l xs y, x = .ref l ∧ vs = [] ∧ H l = some (.lst xs) ∧ xs[xs.length - 1]? = some y ∧ Q y (upd H l (.lst xs.dropLast))
def rPopAt : V → List V → Hp → VK → Prop := fun x vs H Q => ∃ l xs i k y, x = .ref l ∧ vs = [.int i] ∧ H l = some (.lst xs) ∧ -(2 ^ 63) ≤ i ∧ i < 2 ^ 63 ∧ seqIndex? i xs.length = some k ∧ xs[k]? = some y ∧ Q y (upd H l (.lst (xs.eraseIdx k)))
def rReverse : V → List V → Hp → VK → Prop := fun x vs H Q => ∃ l xs, x = .ref l ∧ vs = [] ∧ H l = some (.lst xs) ∧ Q .non (upd H l (.lst xs.reverse))
def rClear : V → List V → Hp → VK → Prop := fun x vs H Q => ∃ l xs, x = .ref l ∧ vs = [] ∧ H l = some (.lst xs) ∧ Q .non (upd H l (.lst []))
/-! ### list + list, list += list, list * int -/
def rCat : R2 := fun x y H Q => ∃ l b xs zs, x = .ref l ∧ y = .ref b ∧ H l = some (.lst xs) ∧ H b = some (.lst zs) ∧ xs.length + zs.length ≤ sizeLine ∧ ∀ p, H p = none → Q (.ref p) (upd H p (.lst (xs ++ zs)))
theorem op_cat : OpR X (binaryOp .Add) rCat := by
  intro pins s σ H x y v u Q I rx ry h
  obtain ⟨l, b, xs, zs, rfl, rfl, hH, hB, hz, q⟩ := h
  cases rx
  cases ry
  obtain ⟨z, its, n, r, hl, e⟩ := I.lstM hH
  obtain ⟨z2, its2, n2, r2, hl2, e2⟩ := I.lstM hB
  refine PySem.P.add_list e e2 ?_ (by rw [List.size_toArray, List.size_toArray]; omega)
  have ea : its.toArray ++ its2.toArray = (its ++ its2).toArray := by simp
  rw [ea]
  exact ⟨.ref _, _, I.lnew (t' := s.toks) (r.append r2) (by rw [List.length_append]; omega), rfl, q _ I.fresh⟩
/-- a list times an int (a negative one is nothing) -/
def rRep : R2 := fun x y H Q => ∃ l k xs, x = .ref l ∧ y = .int k ∧ H l = some (.lst xs) ∧ -(2 ^ 63) ≤ k ∧ k < 2 ^ 63 ∧ xs.length * k.toNat ≤ sizeLine ∧
  ∀ p, H p = none → Q (.ref p) (upd H p (.lst (List.replicate k.toNat xs).flatten))
theorem len_rep {α : Type} (xs : List α) (k : Nat) : (List.replicate k xs).flatten.length = k * xs.length := by
  induction k with
  | zero => simp
  | succ k ih => rw [List.replicate_succ, List.flatten_cons, List.length_append, ih, Nat.succ_mul, Nat.add_comm]
theorem op_rep : OpR X (binaryOp .Mult) rRep := by
  intro pins s σ H x y v u Q I rx ry h
  obtain ⟨l, k, xs, rfl, rfl, hH, h1, h2, hz, q⟩ := h
  cases rx
  obtain ⟨t, rfl⟩ := ry
  obtain ⟨z, its, n, r, hl, e⟩ := I.lstM hH
  have hlen : its.toArray.size * k.toNat ≤ sizeLine := by rw [List.size_toArray, ← hl]; exact hz
  have hcap : ¬ its.toArray.size * k.toNat > (2 ^ 63 - 1) / 8 := by
    have : (sizeLine : Nat) ≤ (2 ^ 63 - 1) / 8 := by decide
    omega
  have hfit : ¬ (!Builtin.List.listFitsIndex k) = true := by
    rw [fitsIndex_both h1 h2]
    exact Bool.false_ne_true
  have hlong : ¬ Builtin.List.listTooLong (its.toArray.size * k.toNat) = true := by
    rw [notLongL hlen]
    exact Bool.false_ne_true
  have hnew : List.foldl (fun x1 x2 => x1 ++ x2) #[] (List.replicate (if its.toArray.isEmpty = true then 0 else k.toNat) its.toArray) = (List.replicate k.toNat its).flatten.toArray := by
    have f0 : ∀ m : Nat, List.foldl (fun x1 x2 => x1 ++ x2) #[] (List.replicate m its.toArray) = (List.replicate m its).flatten.toArray := fun m => by
      have := foldl_rep its m []
      rw [List.nil_append] at this
      exact this
    rw [f0]
    cases its with
    | nil => simp
    | cons a r' => rw [if_neg (by simp)]
  refine wpAny_binaryOp_repeat_ref (T := "list") (U := "int") (by decide) ⟨_, e, rfl⟩ (fun s' => typeIs_int s' k t) noFill_list_mul F.fills_int_mul F.slot_int_rmul repeat_list F.slot_int_index.lookup
    (call_meets F.slot_int_rmul (typeIs_int s k t) F.entry_int_rmul (F.args_int_rmul_2 _ _) (int___rmul___int_list k t l its.toArray n)
      ⟨e, rfl, ⟨_, e, rfl⟩, call_meets F.slot_list_mul ⟨_, e, rfl⟩ F.entry_list_mul (F.args_list_mul_2 _ _) (AutoListH.list___mul___list_int_3 l its.toArray n k t hfit hcap hlong) ⟨e, ?_⟩⟩)
  rw [hnew]
  exact ⟨.ref _, _, I.lnew (t' := s.toks) (r.rep k.toNat) (by rw [len_rep, Nat.mul_comm]; exact hz), rfl, q _ I.fresh⟩

/-! ### del xs[i] -/
end

/-! ### xs[a:b] = ys -/
section
variable {prog : Program} {w : World} {A : Around} {E : Value → Shared → Prop} {s : Shared}
end

section
variable {X : Cx}
end
end L2

namespace Att
open PySem PySem.W PySem.Calls PyProof.Rows

/-! ### the script -/
theorem ints_of_wellAll {P : Params} {h : Heap} : ∀ (ns : List Int) (vs : List Value), WellAll P h vs (ns.map WData.int) → IntsAre vs ns := by
  intro ns
  induction ns with
  | nil =>
    intro vs w
    rw [List.map_nil] at w
    cases w
    exact .nil
  | cons n ns ih =>
    intro vs w
    rw [List.map_cons] at w
    cases w with
    | cons a b =>
      cases a
      exact .cons _ _ (ih _ b)

theorem script_of {l : OpenLaw} {n : Nat} (hn : l.most = some n) {P : Params} {h : Heap} {args : List WData} {vals : List Value}
    (hpre : l.row.toRowW.claim.pre args = true) (hwl : WellAll P h vals args) :
    ∃ a vs ns, vals = [Value.ref a] ∧ args = [WData.list (ns.map WData.int)] ∧ h.get? a = some { cls := .type "list", data := .seq vs.toArray } ∧ IntsAre vs ns ∧ ns.length ≤ n := by
  have hsh : WShape.hasAll [] args [.list .int] = true := (pre_splitW hpre).1
  have hc : l.pre.holds [] { args := args } = true := (pre_splitW hpre).2
  obtain ⟨d, r, rfl, h1, h2⟩ := hasAllW_cons hsh
  obtain rfl := hasAllW_nil h2
  obtain ⟨xs, rfl, h3⟩ := hasW_list h1
  obtain ⟨ns, rfl⟩ := items_int h3
  have hlen : ns.length ≤ n := by
    unfold OpenLaw.pre at hc
    have h4 : (WTm.not (.lt (.lit (.int (n : Int))) (.len (.arg 0)))).holds [] { args := [.list (ns.map .int)] } = true := by
      have h4 := (holds_andW hc).1
      rw [hn] at h4
      exact h4
    have h5 := condW_of h4 (w_not (w_lt w_lit (w_len_list (w_arg rfl))))
    rw [List.length_map] at h5
    refine Nat.le_of_not_lt fun q => ?_
    have q' : (n : Int) < ((ns.length : Nat) : Int) := by omega
    first
      | (rw [decide_eq_true q'] at h5; exact absurd h5 (by decide))
      | (simp at h5; omega)
  cases hwl with
  | cons w1 w2 =>
    cases w2
    cases w1 with
    | list ho hall => exact ⟨_, _, ns, rfl, rfl, ho, ints_of_wellAll ns _ hall, hlen⟩

theorem post_true (l : OpenLaw) (args : List WData) : l.row.toRowW.claim.post args (.bool true) args = true :=
  postW_of (r := l.row.toRowW) (X := (true == true))
    (show WShape.has [] (.bool true) .bool = true by first | rfl | decide | simp [WShape.has, WShape.arms, WShape.armsAll])
    (show (WTm.eq .res (.lit (.bool true))).value [] { args := args, res := some (.bool true), after := args } = some (.bool (true == true)) from w_eq_bool (w_res rfl) w_lit) rfl

/-! ### the attachment: holds_open's last premise (the goal 'hc' behind k_head) from a wpAny of the law's body -/
/-- the same from a codeAny of the CALL (for a layer whose function contracts speak of calls) -/
theorem attach_call {l : OpenLaw} {n : Nat} {q : Program} {loose : List Str} {XP : (Str → Option Value) → Heap → Prop} {YP : World → Heap → Prop} {d : DefRec}
    (hn : l.most = some n) (hdf : d.params.defaults = [])
    (call : ∀ (w : World) (s₀ s₁ : Shared) (mg mb : Str → Option Value) (fa : Addr) (o : Obj) (pm cd doc : Value) (a : Addr) (vs : List Value) (ns : List Int),
      Ground q loose [] XP w s₀ mg mb s₁.heap → YP w s₁.heap →
      s₁.heap.get? fa = some o → o.data = .func (docDef d.name d.params d.body d.scope pm cd doc) → s₁.heap.CodeRec cd d.name → mg d.name = some (.ref fa) →
      s₁.heap.get? a = some { cls := .type "list", data := .seq vs.toArray } → IntsAre vs ns → ns.length ≤ n → s₁.gens = #[] →
      codeAny (model l.prog w) callerA (.call (.ref fa) ⟨[.ref a], []⟩) (fun r s' => r = .ok (.ret (.bool true)) ∧ OldK s₁.heap s'.heap ∧ s'.os = s₁.os ∧ AllBare s'.gens) s₁) :
    WalkO q loose XP YP l.row.toRowW d [] (fun f vs => PySem.call f vs) := by
  intro w s₀ s₁ mg mb G Y fa o pm cd doc dV kV ho hd hcd hD hmg hg args vals as hpre hlay hrd hwl hlo
  obtain rfl : dV = .none := Dflts.none hD hdf
  obtain rfl : kV = .none := Dflts.noKw hD
  obtain ⟨a, vs, ns, rfl, rfl, hobj, hints, hlen⟩ := script_of hn hpre hwl
  refine enter_call (codeAny_mono (call w s₀ s₁ mg mb fa o pm cd doc a vs ns G Y ho (fd_plain hd) hcd hmg hobj hints hlen hg) fun r s' hq => ?_)
  obtain ⟨rfl, h2, h3, h4⟩ := hq
  exact ⟨.inl ⟨.bool true, .bool true, [], rfl, fun _ => rfl, .bool true, post_true l _, fun _ => ⟨List.Pairwise.nil, fun _ hm => (nomatch hm)⟩⟩, h2, h3, h4⟩

/-! ### rules over ANY heap (no ledger) from facts about the written part K: the library's own take a ledger (News) for what they write -/
section
variable {prog : Program} {w : World} {A : Around} {E : Value → Shared → Prop} {s : Shared} {K : Frag}

/-! the whole heap as the ledger: makes every rule that writes through a ledger a rule over any heap -/
def noObjs (h : Heap) : Heap := { h with objs := #[] }
def ledger (h : Heap) (L d : Addr) : List (Addr × Obj) := (List.range h.objs.size).filterMap fun a => if a = L ∨ a = d then none else (h.get? a).map fun o => (a, o)
end
end Att

namespace L2
open PySem PySem.Spec PyProof.Rows

theorem vals_ints : ∀ {vs : List Value} {ns : List Int}, IntsAre vs ns → Vals (ns.map V.int) vs
  | _, _, .nil => .nil
  | _, _, .cons n t h => .cons ⟨t, rfl⟩ (vals_ints h)

/-- nothing is tracked but the script, known to the object (or it is an object of the module) -/
def Only (H : Hp) : Prop := ∀ b, H b = none ∨ ∃ o xs, H b = some (.frz o (.lst xs))

/-- THE HEAD: the law's promise, at the heap behind the top. F, the promise of the law's def, may use that base is part of the heap (so K.In base, base.Ns mainGlobals mg stand in Mod) -/
theorem law_call {P : Program} {w : World} {K : PySem.W.Frag} {mg mb : Str → Option Value} {CX : CXT} {k : Nat} {fa a : Addr} {fd : FuncData} {x : Str} {sp : Sp} {s₁ : Shared} {vs : List Value} {ns : List Int}
    (KX : K.In s₁.heap) (hns : s₁.heap.Ns mainGlobals mg) (hb : s₁.heap.Ns builtinsNs mb) (hbb : ∀ x : Str, x ≠ "__name__" → mb x = bootBuiltins x) (hlim : s₁.heap.NoLimit) (hg : s₁.gens = #[])
    (ha : s₁.heap.get? a = some { cls := .type "list", data := .seq vs.toArray }) (hi : IntsAre vs ns) (hl : ns.length ≤ sizeLine) (hr : Room k callerA)
    (F : ∀ base : Heap, K.In base → base.Ns mainGlobals mg → FnOk P w K mg base CX k fa fd [x] sp) (hbind : ∀ (s : Shared) (u : Value), BindsTo s fd ⟨[u], []⟩ [(x, u)])
    (hsp : ∀ H : Hp, Only H → SqL K H a (ns.map V.int) → sp [.ref a] H (fun v _ => v = .bl true) fun _ _ _ => False)
    (hCX : ∀ H e s', CX [] H s₁ (fun _ _ _ => False) e s' → False) :
    codeAny (model P w) callerA (.call (.ref fa) ⟨[.ref a], []⟩) (fun r s' => r = .ok (.ret (.bool true)) ∧ OldK s₁.heap s'.heap ∧ s'.os = s₁.os ∧ AllBare s'.gens) s₁ := by
  have rv := vals_ints hi
  have lenV := hi.length
  -- from an abstract heap in which nothing but the script may be tracked
  have core : ∀ H : Hp, Only H → SqL K H a (ns.map V.int) → HOk P w H s₁.heap → (∀ b, H b ≠ none → b = a) → (H a ≠ none → K.lookup a = none) →
      codeAny (model P w) callerA (.call (.ref fa) ⟨[.ref a], []⟩) (fun r s' => r = .ok (.ret (.bool true)) ∧ OldK s₁.heap s'.heap ∧ s'.os = s₁.os ∧ AllBare s'.gens) s₁ := by
    intro H hO hS hok hA hK
    have base_of : ∀ {b : Addr} {o : Obj}, s₁.heap.get? b = some o → H b = none → (hidT s₁.heap H).get? b = some o := fun e n => hidT_get e n
    have noA : ∀ {b : Addr} {o : Obj} {es : Array DictEntry} {ep : Nat}, s₁.heap.get? b = some o → o.data = .dict es ep → H b = none := fun {b o es ep} e d => by
      cases q : H b with
      | none => rfl
      | some u =>
        have e' : b = a := hA b (by rw [q]; simp)
        subst e'
        rw [ha] at e; cases e
        have d' : Data.seq vs.toArray _ = Data.dict es ep := d
        cases d'
    have nsK : ∀ {b : Addr} {m : Str → Option Value}, s₁.heap.Ns b m → (hidT s₁.heap H).Ns b m := fun {b m} ⟨o, es, ep, e, d, r⟩ => ⟨o, es, ep, base_of e (noA e d), d, r⟩
    have hKb : K.In (hidT s₁.heap H) := fun b o e => base_of (KX b o e) (by
      cases q : H b with
      | none => rfl
      | some u =>
        have e' : b = a := hA b (by rw [q]; simp)
        subst e'
        rw [hK (by rw [q]; simp)] at e; cases e)
    have hM : Mod K mg (hidT s₁.heap H) := ⟨hKb, nsK hns, ⟨mb, nsK hb, hbb⟩, let ⟨mc, h1, h2⟩ := hlim; ⟨mc, nsK h1, h2⟩⟩
    have e0 : Env0 P w K mg (hidT s₁.heap H) callerA [] s₁ H := ⟨rfl, hM, fun b o e => of_hidT e, Nat.le_of_eq (hidT_size _ _), trivial, fun b hb => absurd (show b ∈ ([] : List Addr) from hb) (by simp), hok, .of_eq hg⟩
    refine codeAny_mono ((F _ hKb (nsK hns)).run callerA [] s₁ H ⟨[.ref a], []⟩ [.ref a] [.ref a] _ _ hr e0 (hbind s₁ (.ref a)) (.cons rfl .nil) (hsp H hO hS)) fun r s' h => ?_
    cases r with
    | error e => exact (hCX H e s' h).elim
    | ok fl =>
      cases fl with
      | next => exact False.elim h
      | brk => exact False.elim h
      | cont => exact False.elim h
      | ret u =>
        obtain ⟨v, H', os, bare, un, hok', r', q⟩ := h
        have q' : v = .bl true := q
        subst q'
        obtain rfl : u = Value.bool true := r'
        refine ⟨rfl, OldK.of_keep fun b o e => ?_, os, bare⟩
        cases q : H b with
        | none => exact un.keep b o e q (by intro z; exact absurd (show b ∈ ([] : List Addr) from z) (by simp)) (by simp)
        | some u =>
          rcases hO b with z | ⟨ob, xs, z⟩
          · rw [q] at z; cases z
          · have z2 := un.frzs b ob _ z
            obtain ⟨e1, _⟩ := hok b _ z
            obtain ⟨e2, _⟩ := hok' b _ z2
            rw [e] at e1; cases e1
            exact e2
  cases hk : K.lookup a with
  | some o =>
    -- the script is one of the module's own objects
    have e := KX a o hk
    rw [ha] at e
    cases e
    refine core (fun _ => none) (fun _ => .inl rfl) (.inr ⟨_, vs.toArray, _, hk, rfl, rfl, rfl, by rw [List.size_toArray, lenV]; exact hl, by simpa using rv⟩) (fun b u z => by have z' : (none : Option HO) = some u := z; cases z') (fun b z => absurd rfl z) fun z => absurd rfl z
  | none =>
    refine core (fun b => if b = a then some (.frz { cls := .type "list", data := .seq vs.toArray } (.lst (ns.map V.int))) else none) (fun b => ?_) (.inl (.inr ⟨{ cls := .type "list", data := .seq vs.toArray }, if_pos rfl⟩)) (fun b u z => ?_) (fun b z => ?_) fun _ => hk
    · by_cases hb : b = a
      · exact .inr ⟨_, _, if_pos hb⟩
      · exact .inl (if_neg hb)
    · by_cases hb : b = a
      · have z' := (if_pos hb).symm.trans z
        cases z'
        subst hb
        exact ⟨ha, by rw [List.length_map]; exact hl, vs, _, rv, ha⟩
      · have z' := (if_neg hb).symm.trans z
        cases z'
    · by_cases hb : b = a
      · exact hb
      · exact absurd (if_neg hb) z
end L2

namespace L2
open PySem PySem.Spec PyProof.Rows

abbrev KOf {K : PySem.W.Frag} {h : Heap} (_ : K.In h) : PySem.W.Frag := K

/-- the goal that k_head leaves (case hc), from the law's promise. F gives the function object fd (K's own) once, then the promise over every base -/
theorem walk_of {l : PySem.W.OpenLaw} {n k : Nat} {q : Program} {loose : List Str} {XP : (Str → Option Value) → Heap → Prop} {YP : World → Heap → Prop} {d : DefRec} {K : Params → PySem.W.Frag} {CX : World → CXT} {sp : World → Sp} {x : Str}
    (hn : l.most = some n) (hn2 : n ≤ sizeLine) (hdf : d.params.defaults = []) (hr : Room k callerA)
    (hY : ∀ (w : World) (h : Heap), YP w h → (K w.params).In h)
    (F : ∀ (w : World) (mg : Str → Option Value) (fa : Addr) (h : Heap), (K w.params).In h → h.Ns mainGlobals mg → mg d.name = some (.ref fa) →
      ∃ fd : FuncData, (∀ (s : Shared) (u : Value), BindsTo s fd ⟨[u], []⟩ [(x, u)]) ∧
        ∀ base : Heap, (K w.params).In base → base.Ns mainGlobals mg → FnOk l.prog w (K w.params) mg base (CX w) k fa fd [x] (sp w))
    (hsp : ∀ (w : World) (H : Hp) (a : Addr) (ns : List Int), ns.length ≤ n → Only H → SqL (K w.params) H a (ns.map V.int) → sp w [.ref a] H (fun v _ => v = .bl true) fun _ _ _ => False)
    (hCX : ∀ (w : World) (H : Hp) (s : Shared) (e : Value) (s' : Shared), CX w [] H s (fun _ _ _ => False) e s' → False) :
    PySem.W.WalkO q loose XP YP l.row.toRowW d [] (fun f vs => PySem.call f vs) := by
  refine Att.attach_call hn hdf fun w s₀ s₁ mg mb fa o pm cd doc a vs ns G Y ho hd hcd hmg hobj hints hlen hg => ?_
  have KX := hY w _ Y
  obtain ⟨fd, hb, hF⟩ := F w mg fa _ KX G.T.g hmg
  exact law_call KX G.T.g G.T.b G.T.builtins G.T.nolimit hg hobj hints (Nat.le_trans hlen hn2) hr hF hb (fun H hO hS => hsp w H a ns hlen hO hS) fun H e s' => hCX w H s₁ e s'
end L2

/- THE LAST THEOREM (shape; LID, My.* are yours):
   My.Adr: a structure of the addresses that your layer names (classes, functions); My.Txt K t: a structure (Prop) of the equations over K;
   My.txt_mk : {K} {implicit addresses ..} (e1 : nsIn K mainGlobals "law" = some (some (.ref f))) (e2 : K.lookup f = some ⟨oc, od, .func (fnOf "law" "law" params body scope dV kV doc pm an cdv ct), sl⟩) (e3 : codeIn K cdv "law" = true) .. : ∃ t, My.Txt K t

set_option maxRecDepth 100000 in
set_option maxHeartbeats 0 in
theorem PySem.Challenge.cw_LID_holds : PySem.Challenge.rw_LID.Holds := by
  w_on; o_law; k_head; (case hw => w_witness2)
  k_fill
  refine L2.walk_of (l := PySem.Challenge.rw_LID) (n := 63) (k := 40) (x := "script") (CX := fun w => ..) (sp := fun _ => My.sp_law) rfl (by decide) rfl ⟨rfl, by decide, by decide⟩ (fun w h Y => PySem.W.kIn_of Y) ?F ?S ?C
  case F =>
    intro w mg fa h KX G hmg
    have T : ∃ t, My.Txt (L2.KOf KX) t := by
      dsimp only [L2.KOf]                          -- K must stand as «<heap const> w.params» for k_is
      refine' My.txt_mk ?e1 ?e2 ?e3 ..
      (case e1 => PySem.W.k_is)                    -- in the order: a name -> its address -> its object -> its parts
      (case e2 => PySem.W.k_is)
      ..
    obtain ⟨t, T⟩ := T
    have e0 := hmg.symm.trans (PySem.W.mg_of KX G T.law)
    cases e0                                       -- fa is the law's own address
    exact ⟨_, fun s u => .of_eq rfl, fun base kb nb => My.law_fn T kb nb⟩     -- if «.of_eq rfl» comes too early: refine' ⟨_, ?b, fun base kb nb => My.law_fn T kb nb⟩; exact fun s u => .of_eq rfl
  case S => exact fun w H a ns hl hO hS => ..
  case C => exact ..
(the tactic k_is has no namespace: write k_is) -/

/-! SHORT WORDS over the layer: a def of the text, its body, what a loop and a test want. -/
namespace L2
open PySem PySem.Spec PyProof.Rows

/-! ### the text by places -/
/-- the j-th statement of a class's body -/
def inClass (s : Stmt) (j : Nat) : Stmt := match s with
  | .ClassDef _ _ _ body _ _ _ _ _ _ _ => body.getD j (.Pass ⟨0, 0, 0, 0⟩)
  | _ => .Pass ⟨0, 0, 0, 0⟩
def defArgs (s : Stmt) : Arguments := match s with
  | .FunctionDef _ a _ _ _ _ _ _ _ _ => a
  | _ => { posonlyargs := [], args := [], vararg := none, kwonlyargs := [], kw_defaults := [], kwarg := none, defaults := [] }
def defBody (s : Stmt) : List Stmt := match s with
  | .FunctionDef _ _ b _ _ _ _ _ _ _ => b
  | _ => []
def defScope (s : Stmt) : Scope := match s with
  | .FunctionDef _ _ _ _ _ _ sc _ _ _ => sc
  | _ => { kind := .function, names := [], isGenerator := false, isCoroutine := false }

/-! ### no exception leaves a def -/
abbrev CX0 : CXT := fun _ _ _ _ _ _ => False
abbrev E0 : XK := fun _ _ _ => False
theorem pass0 {X : Cx} : Passes CX0 X E0 := fun _ _ _ _ _ _ _ h => h.elim

/-! ### a def (or method) of the text as it stands behind the top -/
structure Fun (K : PySem.W.Frag) (x qual : Str) (st : Stmt) (f : Addr) (fd : FuncData) : Prop where
  ex : ∃ (oc : Value) (od : Option Addr) (kV doc pm : Value) (an : Option Addr) (cdv ct : Value) (osl : Array (Option Value)),
    fd = PySem.W.fnOf x qual (defArgs st) (defBody st) (defScope st) .none kV doc pm an cdv ct ∧ K.lookup f = some ⟨oc, od, .func fd, osl⟩ ∧ PySem.W.codeIn K cdv qual = true
  kp : PySem.W.keepIn K (.ref f) = true
section
variable {P : Program} {w : World} {K : PySem.W.Frag} {mg : Str → Option Value} {base : Heap}
/-- THE RULE for a def: its body as a term of rules, and the reading of that term -/
theorem Fun.ok {x qual : Str} {st : Stmt} {f : Addr} {fd : FuncData} {N ps : List Str} {k : Nat} {sp : Sp} (F : Fun K x qual st f fd) (S : FnScope N ps (defScope st)) (len : ∀ vs H Q E, sp vs H Q E → vs.length = ps.length)
    (hbody : ∀ (cdv : Value) (A : Around) (outer : List Env) (s : Shared) (H : Hp) (vs : List V) (Q : VK) (E : XK), Room k (A.deeper (envOfC qual (defScope st) s.heap.objs.size f cdv)) → sp vs H Q E →
      ∃ t, PSs (cxOf CX0 P w K mg base N qual (defScope st) f cdv A outer s H E).nox (defBody st) t ∧ t { nx := fun _ H' => Q .non H', rt := Q } (start N vs) H) : FnOk P w K mg base CX0 (k + 1) f fd ps sp := by
  obtain ⟨oc, od, kV, doc, pm, an, cdv, ct, osl, rfl, lk, hcd⟩ := F.ex
  refine fn_of lk hcd S len fun A outer s H vs Q E hr hsp => ?_
  obtain ⟨t, h, q⟩ := hbody cdv A outer s H vs Q E hr hsp
  exact ⟨t, h.nox, q⟩
/-- how its arguments bind (no defaults): h is «fun _ _ _ _ _ _ us hl => match us, hl with | [_, _], _ => rfl», one _ a parameter -/
theorem Fun.binds {x qual : Str} {st : Stmt} {f : Addr} {fd : FuncData} {ps : List Str} (F : Fun K x qual st f fd)
    (h : ∀ (kV doc pm : Value) (an : Option Addr) (cdv ct : Value) (us : List Value), us.length = ps.length → bindArgs (PySem.W.fnOf x qual (defArgs st) (defBody st) (defScope st) .none kV doc pm an cdv ct) ⟨us, []⟩ = pure (ps.zip us)) : Binds K fd ps [] := by
  obtain ⟨oc, od, kV, doc, pm, an, cdv, ct, osl, rfl, lk, hcd⟩ := F.ex
  exact .all (h kV doc pm an cdv ct)
theorem fun_mk {x qual : Str} {st : Stmt} {f : Addr} {oc : Value} {od an : Option Addr} {osl : Array (Option Value)} {kV doc pm cdv ct : Value} (l : K.lookup f = some ⟨oc, od, .func (PySem.W.fnOf x qual (defArgs st) (defBody st) (defScope st) .none kV doc pm an cdv ct), osl⟩)
    (c : PySem.W.codeIn K cdv qual = true) (k : PySem.W.keepIn K (.ref f) = true) : Fun K x qual st f (PySem.W.fnOf x qual (defArgs st) (defBody st) (defScope st) .none kV doc pm an cdv ct) := ⟨⟨oc, od, kV, doc, pm, an, cdv, ct, osl, rfl, l, c⟩, k⟩
end
theorem small1000 {n : Nat} (h : n ≤ 1000) : n < sizeLine := Nat.lt_of_le_of_lt h (by decide)

/-! ### expressions in short: the name that stands in the i-th slot -/
section
variable {X : Cx}
theorem pv (i : Nat) {x : Str} {pos : Pos} (hN : X.N[i]? = some x := by rfl) (hv : Vis X.env.scope x := by first | exact Or.inl rfl | exact Or.inr (Or.inl rfl) | exact Or.inr (Or.inr rfl)) (hd : (x == ("__debug__" : Str)) = false := by decide)
    (hcd : (x == ("__classdict__" : Str)) = false := by decide) : PE X (.Name x pos) (tVar i) := pe_var hN hv hd hcd
end

/-! ### tests -/
theorem iteF {A B : Prop} (h : B) : if false = true then A else B := by
  rw [if_neg Bool.false_ne_true]
  exact h
theorem iteT {A B : Prop} (h : A) : if true = true then A else B := by
  rw [if_pos rfl]
  exact h
theorem ite2 {c A B : Prop} [Decidable c] (h1 : c → A) (h2 : ¬ c → B) : if c then A else B := by
  by_cases h : c
  · rw [if_pos h]
    exact h1 h
  · rw [if_neg h]
    exact h2 h
theorem iteNS {c A B : Prop} [Decidable c] (hc : c) (h : B) : if (!decide c) = true then A else B := by
  rw [decide_eq_true hc]
  exact iteF h

/-! ### heaps -/
/-- all that was tracked is as it was -/
def Same (H H' : Hp) : Prop := ∀ b o, H b = some o → H' b = some o
theorem Same.refl (H : Hp) : Same H H := fun _ _ h => h
theorem Same.trans {H H1 H2 : Hp} (a : Same H H1) (b : Same H1 H2) : Same H H2 := fun c o h => b c o (a c o h)
theorem Same.free {H H' : Hp} (e : Same H H') {l : Addr} (h : H' l = Option.none) : H l = Option.none := by
  cases q : H l with
  | none => rfl
  | some o =>
    rw [e l o q] at h
    cases h
theorem Same.seq {K : PySem.W.Frag} {H H' : Hp} {a : Addr} {xs : List V} (e : Same H H') (h : SqL K H a xs) : SqL K H' a xs := by
  rcases h with (h | ⟨o, h⟩) | h
  · exact .inl (.inl (e _ _ h))
  · exact .inl (.inr ⟨o, e _ _ h⟩)
  · exact .inr h

end L2

set_option maxHeartbeats 4000000
namespace L2
abbrev Pr := Int × Int
def inR (n : Int) (p : Pr) : Bool := decide (p.1 ≤ n) && decide (n ≤ p.2)
def inP (ps : List Pr) (n : Int) : Bool := ps.any (inR n)
/-- pairs that hold a number each, ascending and apart -/
structure Apart (R : List Pr) : Prop where
  le : ∀ p ∈ R, p.1 ≤ p.2
  gap : R.Pairwise fun p q => p.2 + 2 ≤ q.1
/-- what the loop of tidy keeps: R told so far of the pairs qs -/
structure TidI (R qs : List Pr) : Prop where
  ap : Apart R
  mem : ∀ n, inP R n = inP qs n
  cov : ∀ p ∈ qs, p.1 ≤ p.2 → ∃ r ∈ R, r.1 ≤ p.1 ∧ p.2 ≤ r.2
  low : ∀ r ∈ R, ∃ q ∈ qs, r.1 = q.1
end L2

namespace L2
open PySem PySem.Spec PyProof.Rows
/-! ### a def of the text that may be called, bundled -/
def Callee (P : Program) (w : World) (K : PySem.W.Frag) (mg : Str → Option Value) (base : Heap) (k : Nat) (x : Str) (ps : List Str) (sp : Sp) : Prop :=
  ∃ f fd, FnOk P w K mg base CX0 k f fd ps sp ∧ Binds K fd ps [] ∧ PySem.W.keepIn K (.ref f) = true ∧ mg x = some (.ref f)
theorem Callee.mono {P : Program} {w : World} {K : PySem.W.Frag} {mg : Str → Option Value} {base : Heap} {j k : Nat} {x : Str} {ps : List Str} {sp : Sp} (C : Callee P w K mg base j x ps sp) (h : j ≤ k) : Callee P w K mg base k x ps sp :=
  let ⟨f, fd, F, r⟩ := C
  ⟨f, fd, F.mono h, r⟩
section
variable {X : Cx} {k : Nat} {x : Str} {ps : List Str} {sp : Sp} {e : Expr} {es : List Expr} {t : TA} {p pos : Pos}
/-- f(..) of a bundled def -/
def tFn (sp : Sp) (t : TA) : TE := fun σ H Q => t σ H fun vs H1 => sp vs H1 Q E0
theorem pe_fn (C : Callee X.prog X.w X.K X.mg X.base k x ps sp) (hr : Room k X.A) (hg : Gl X x) (ha : PA X (e :: es) t) (hdb : (x == ("__debug__" : Str)) = false := by decide)
    (he : starEach (e :: es) X.env = (false, eval e X.env) :: starEach es X.env := by rfl) (hpl : (backTo pos (starEach es X.env)).any (·.1) = false := by rfl) : PE X (.Call (.Name x p) (e :: es) [] pos) (tFn sp t) := by
  obtain ⟨f, fd, F, b, kk, m⟩ := C
  have h := pe_call (E := E0) (dvs := []) (ds := []) (p := p) F hr hg m kk b .nil pass0 ha hdb he hpl
  intro pins s σ H Q I q
  refine h pins s σ H Q I ?_
  have q' : t σ H fun vs H1 => sp vs H1 Q E0 := q
  have e1 : (fun (vs : List V) (H1 : Hp) => sp (vs ++ []) H1 Q E0) = fun vs H1 => sp vs H1 Q E0 := by
    funext vs H1
    rw [List.append_nil]
  show t σ H fun vs H1 => sp (vs ++ []) H1 Q E0
  rw [e1]
  exact q'
end
/-! ### a block with a word between its first statement and the rest -/
def tCut (t u : TS) : TS := fun D σ H => ∃ M : St → Hp → Prop, t { D with nx := M } σ H ∧ ∀ σ' H', M σ' H' → u D σ' H'
theorem pss_cut {X : Cx} {st : Stmt} {rest : List Stmt} {t u : TS} (h1 : PS X st t) (h2 : PSs X rest u) : PSs X (st :: rest) (tCut t u) := by
  intro pins s σ H D I ⟨M, a, b⟩
  refine wpAny_execs_cons (thn (h1 pins s σ H { D with nx := M } I a) fun fl s1 q => ?_)
  cases fl with
  | next => obtain ⟨σ', H', I', q⟩ := q; exact h2 pins s1 σ' H' D I' (b σ' H' q)
  | ret v => exact q
  | brk => exact q
  | cont => exact q
/-! ### isinstance(x, T), T a built-in type -/
section
variable {X : Cx}
end
/-! ### == and != of lists -/
/-- what == says of two items of lists: plain values; one object; two tuples of plain values -/
inductive EqI (K : PySem.W.Frag) (H : Hp) : V → V → Bool → Prop where
  | flat {x y : V} (fx : flatV x = true) (fy : flatV y = true) : EqI K H x y (eqV x y)
  | same (a : Addr) : EqI K H (.ref a) (.ref a) true
  | tup {a b : Addr} {xs ys : List V} (ha : SqT K H a xs) (hb : SqT K H b ys) (fx : xs.all flatV = true) (fy : ys.all flatV = true) : EqI K H (.ref a) (.ref b) (decide (xs.length = ys.length) && (List.zipWith eqV xs ys).all id)
theorem eqV_refl : ∀ {x : V}, flatV x = true → eqV x x = true
  | .non, _ => rfl
  | .bl b, _ => by simp [eqV]
  | .int i, _ => by simp [eqV]
  | .str z, _ => by simp [eqV]
theorem eqAll_refl : ∀ {xs : List V}, xs.all flatV = true → (List.zipWith eqV xs xs).all id = true
  | [], _ => rfl
  | x :: xs, h => by
    rw [List.all_cons, Bool.and_eq_true] at h
    rw [List.zipWith_cons_cons, List.all_cons, eqAll_refl h.2, Bool.and_true]
    exact eqV_refl h.1
theorem all_range_zip {f : Nat → Bool} : ∀ {xs ys : List V}, (∀ j x y, xs[j]? = some x → ys[j]? = some y → f j = eqV x y) → (List.range (min xs.length ys.length)).all f = (List.zipWith eqV xs ys).all id
  | [], ys, _ => by simp
  | x :: xs, [], _ => by simp
  | x :: xs, y :: ys, h => by
    have ih := all_range_zip (f := fun j => f (j + 1)) (xs := xs) (ys := ys) fun j a b e1 e2 => h (j + 1) a b (by simpa using e1) (by simpa using e2)
    have e0 := h 0 x y rfl rfl
    have em : min (x :: xs).length (y :: ys).length = min xs.length ys.length + 1 := by simp only [List.length_cons]; omega
    rw [em, List.range_succ_eq_map, List.all_cons, List.zipWith_cons_cons, List.all_cons, List.all_map, e0]
    show (eqV x y && (List.range (min xs.length ys.length)).all (fun j => f (j + 1))) = _
    rw [ih]
    rfl
section
variable {X : Cx} {pins : List (Addr × Obj)} {σ : St} {H : Hp} {s : Shared}
theorem EqI.at {A : Around} {x y : V} {u v : Value} {b : Bool} (e : EqI X.K H x y b) (I : Inv X pins σ H s) (hu : A.units + 1 < cLine) (rx : RelV x u) (ry : RelV y v) : SeqAt.EqAt A s u v b := by
  cases e with
  | flat fx fy => exact eqAt_V rx ry fx fy
  | same a =>
    cases (show u = Value.ref a from rx)
    cases (show v = Value.ref a from ry)
    exact SeqAt.EqAt.same _
  | @tup a b xs ys ha hb fx fy =>
    cases (show u = Value.ref a from rx)
    cases (show v = Value.ref b from ry)
    by_cases z : a = b
    · subst z
      have e := I.tuple_inj ha hb
      subst e
      rw [eqAll_refl fx, decide_eq_true rfl]
      exact SeqAt.EqAt.same _
    · obtain ⟨its, r, p, _⟩ := I.tuple ha
      obtain ⟨its', r', p', _⟩ := I.tuple hb
      have l1 := r.length
      have l2 := r'.length
      have h0 := SeqAt.RcAt.tuples (A := A) (e := fun j => match its[j]?, xs[j]?, ys[j]? with | _, some x, some y => eqV x y | _, _, _ => false) (show s.heap.IsTuple a its.toArray from p) (show s.heap.IsTuple b its'.toArray from p') (by omega) (fun j h1 h2 => by
        have j1 : j < its.length := by simpa using h1
        have j2 : j < its'.length := by simpa using h2
        have x1 : xs[j]? = some xs[j] := List.getElem?_eq_getElem (by omega)
        have y1 : ys[j]? = some ys[j] := List.getElem?_eq_getElem (by omega)
        obtain ⟨u1, q1, r1⟩ := r.get x1
        obtain ⟨u2, q2, r2⟩ := r'.get y1
        have eu : its.toArray[j] = u1 := by
          have := List.getElem?_eq_getElem j1
          rw [this] at q1; simpa using Option.some.inj q1
        have ev : its'.toArray[j] = u2 := by
          have := List.getElem?_eq_getElem j2
          rw [this] at q2; simpa using Option.some.inj q2
        rw [eu, ev]
        rw [x1, y1]
        have f1 : flatV xs[j] = true := List.all_eq_true.mp fx _ (List.getElem_mem _)
        have f2 : flatV ys[j] = true := List.all_eq_true.mp fy _ (List.getElem_mem _)
        exact eqAt_V r1 r2 f1 f2)
      have h1 := SeqAt.EqAt.of_refs z h0
      have e1 : ((List.range (min its.toArray.size its'.toArray.size)).all fun j => match its[j]?, xs[j]?, ys[j]? with | _, some x, some y => eqV x y | _, _, _ => false) = (List.zipWith eqV xs ys).all id := by
        have es : min its.toArray.size its'.toArray.size = min xs.length ys.length := by simp only [List.size_toArray]; omega
        rw [es]
        exact all_range_zip fun j x y q1 q2 => by rw [q1, q2]
      rw [e1] at h1
      have e2 : (its.toArray.size == its'.toArray.size) = decide (xs.length = ys.length) := by
        simp only [List.size_toArray, ← l1, ← l2]
        exact Bool.beq_eq_decide_eq _ _
      rw [e2, Bool.and_comm] at h1
      exact h1
end
/-- == (neg: !=) of two lists -/
def rEqL (K : PySem.W.Frag) (neg : Bool) : R2 := fun x y H Q => ∃ a b xs ys, x = .ref a ∧ y = .ref b ∧ SqL K H a xs ∧ SqL K H b ys ∧
  ((xs.length ≠ ys.length ∧ Q (.bl neg) H) ∨ (xs.length = ys.length ∧ ∃ f : Nat → Bool, (∀ j x y, xs[j]? = some x → ys[j]? = some y → EqI K H x y (f j)) ∧ Q (.bl (if neg then !(List.range xs.length).all f else (List.range xs.length).all f)) H))
section
variable {X : Cx}
theorem eqs_at {pins : List (Addr × Obj)} {σ : St} {H : Hp} {s : Shared} {A : Around} {xs ys : List V} {its its' : List Value} {f : Nat → Bool} (I : Inv X pins σ H s) (hu : A.units + 1 < cLine) (r : Vals xs its) (r' : Vals ys its')
    (hf : ∀ j x y, xs[j]? = some x → ys[j]? = some y → EqI X.K H x y (f j)) : ∀ j (h1 : j < its.toArray.size) (h2 : j < its'.toArray.size), SeqAt.EqAt A s its.toArray[j] its'.toArray[j] (f j) := fun j h1 h2 => by
  have j1 : j < its.length := by simpa using h1
  have j2 : j < its'.length := by simpa using h2
  have l1 := r.length
  have l2 := r'.length
  have x1 : xs[j]? = some xs[j] := List.getElem?_eq_getElem (by omega)
  have y1 : ys[j]? = some ys[j] := List.getElem?_eq_getElem (by omega)
  obtain ⟨u1, q1, r1⟩ := r.get x1
  obtain ⟨u2, q2, r2⟩ := r'.get y1
  have eu : its.toArray[j] = u1 := by
    have := List.getElem?_eq_getElem j1
    rw [this] at q1; simpa using Option.some.inj q1
  have ev : its'.toArray[j] = u2 := by
    have := List.getElem?_eq_getElem j2
    rw [this] at q2; simpa using Option.some.inj q2
  rw [eu, ev]
  exact (hf j _ _ x1 y1).at I hu r1 r2
theorem op_eqL {k : Nat} (hr : Room k X.A) : OpR X (compareOp .Eq) (rEqL X.K false) := by
  intro pins s σ H x y v u Q I rx ry h
  obtain ⟨a, b, xs, ys, rfl, rfl, ha, hb, h⟩ := h
  cases (show v = Value.ref a from rx)
  cases (show u = Value.ref b from ry)
  obtain ⟨its, r, p, _⟩ := I.list ha
  obtain ⟨its', r', p', _⟩ := I.list hb
  have l1 := r.length
  have l2 := r'.length
  have hu := hr.units
  rcases h with ⟨hn, q⟩ | ⟨hl, f, hf, q⟩
  · refine SeqAt.eq_list_lengthsAt p.isList p'.isList (by simp only [List.size_toArray, bne_iff_ne, ne_eq]; omega) (by omega) ⟨.bl false, H, I, rfl, q⟩
  · refine SeqAt.eq_listAt (e := f) p.isList p'.isList (by simp only [List.size_toArray]; omega) (by omega) (eqs_at I (by show X.A.units + 1 + 1 < cLine; omega) r r' hf) ⟨.bl _, H, I, rfl, ?_⟩
    rw [show its.toArray.size = xs.length by simp only [List.size_toArray]; omega]
    exact q
end
/-! ### what stays -/
/-- every tuple stays -/
def SameT (H H' : Hp) : Prop := ∀ b xs, H b = some (.tup xs) → H' b = some (.tup xs)
theorem Same.tups {H H' : Hp} (h : Same H H') : SameT H H' := fun b xs e => h b _ e
theorem SameT.trans {H H1 H2 : Hp} (a : SameT H H1) (b : SameT H1 H2) : SameT H H2 := fun c xs e => b c xs (a c xs e)
theorem sameT_new {H : Hp} {p : Addr} {o : HO} (h : H p = none) : SameT H (upd H p o) := fun b xs e => by rw [upd_ne (ne_of_none e h)]; exact e
theorem sameT_lst {H : Hp} {p : Addr} {o : HO} {ys : List V} (h : H p = some (.lst ys)) : SameT H (upd H p o) := fun b xs e => by rw [upd_ne (ne_of e h (by intro z; cases z))]; exact e
theorem same_new {H : Hp} {p : Addr} (h : H p = none) (o : HO) : Same H (upd H p o) := fun b u q => by rw [upd_ne (ne_of_none q h)]; exact q
/-- an address that was free is changed -/
theorem Same.upd {H H' : Hp} {p : Addr} {o : HO} (s : Same H H') (h : H p = none) : Same H (upd H' p o) := fun b u q => by rw [upd_ne (ne_of_none q h)]; exact s b u q
/-! ### lists of pairs -/
def PL (H : Hp) : List V → List (Int × Int) → Prop := Paired fun x p => ∃ r, x = .ref r ∧ H r = some (.tup [.int p.1, .int p.2])
theorem PL.mono {H H' : Hp} {xs : List V} {ps : List (Int × Int)} (h : PL H xs ps) (s : SameT H H') : PL H' xs ps := Paired.mapP h fun _ _ ⟨r, e, z⟩ => ⟨r, e, s r _ z⟩
theorem PL.get {H : Hp} : ∀ {xs : List V} {ps : List (Int × Int)} {i : Nat} {x : V}, PL H xs ps → xs[i]? = some x → ∃ p r, ps[i]? = some p ∧ x = .ref r ∧ H r = some (.tup [.int p.1, .int p.2])
  | _, _, _, _, .nil, e => by simp at e
  | _, _, 0, _, .cons (b := b) ⟨r, e1, z⟩ _, e => by simp at e; subst e; exact ⟨b, r, rfl, e1, z⟩
  | _, _, i + 1, x, .cons _ t, e => by
    obtain ⟨p, r, q⟩ := PL.get (i := i) (x := x) t (by simpa using e)
    exact ⟨p, r, by simpa using q.1, q.2⟩
theorem PL.length {H : Hp} {xs : List V} {ps : List (Int × Int)} (h : PL H xs ps) : xs.length = ps.length := Paired.length h
theorem PL.snoc {H : Hp} {xs : List V} {ps : List (Int × Int)} {r : Addr} {a b : Int} (h : PL H xs ps) (e : H r = some (.tup [.int a, .int b])) : PL H (xs ++ [.ref r]) (ps ++ [(a, b)]) := Paired.snoc h ⟨r, rfl, e⟩
/-! ### lists of triples of ints -/
abbrev Tr := Int × Int × Int
def TL (H : Hp) : List V → List Tr → Prop := Paired fun x t => ∃ r, x = .ref r ∧ H r = some (.tup [.int t.1, .int t.2.1, .int t.2.2])
theorem dec_t {p : Prop} [Decidable p] (h : decide p = true) : p := of_decide_eq_true h
theorem dec_f {p : Prop} [Decidable p] (h : ¬ decide p = true) : ¬ p := fun e => h (decide_eq_true e)
end L2

namespace L2
open PySem PySem.Spec PyProof.Rows
/-! ### rules that name the written part by itself (within a block) -/
theorem ix_listK {X : Cx} {K : PySem.W.Frag} (h : X.K = K) : IxR X (rIxL K) := h ▸ ix_list
/-! ### a list comprehension with one clause whose target is a plain name -/
/-- the block's context: nothing raises in it; the frames that run are the def's own and its callers' -/
def cmpCx (X : Cx) (N : List Str) (scope : Scope) (cl : List (Str × Addr)) (fp : List Addr) (C : Addr) (s2 : Shared) (H2 : Hp) : Cx :=
  { prog := X.prog, w := X.w, K := X.K, mg := X.mg, base := X.base, A := X.A, N := N, s₀ := s2, H₀ := H2, env := compEnvC scope cl C X.env, outer := X.stack, stack := X.stack, ex := fp, fn := fun _ => false, calm := X.calm, pn := [], xe := fun _ _ => False }
/-- the tests of a clause -/
def PIf (X : Cx) (ifs : List Expr) (t : TT) : Prop :=
  ∀ (pins : List (Addr × Obj)) (s : Shared) (σ : St) (H : Hp) (Q : Bool → Hp → Prop), Inv X pins σ H s → t σ H Q →
    wpAny (model X.prog X.w) X.A (forIn ifs true fun c r => if r = true then do let ok ← isTrue c X.env (eval c X.env); pure (ForInStep.yield ok) else pure (ForInStep.yield r)) (TP X pins σ Q) X.xe s
def tYes : TT := fun _ H Q => Q true H
theorem pif_nil {X : Cx} : PIf X [] tYes := fun _ _ _ H _ I h => wpAny_tests_nil ⟨H, I, h⟩
/-- what is asked of the block's names: N its slots (the target first, then the def's own names that it sees), fr where these stand among the def's slots -/
structure CmpOk (X : Cx) (N : List Str) (fr : List Nat) (scope : Scope) (cl : List (Str × Addr)) (x : Str) : Prop where
  clos : closureFor scope X.env = pure cl
  kind : scope.kind = .function
  nocell : ∀ y ∈ scope.names, y.2 ≠ .cell
  names : ∀ y ∈ scope.names, y.2 = .local → scope.names.lookup y.1 = some .local
  hx : scope.names.lookup x = some .local
  nd : N.Nodup
  n0 : N[0]? = some x
  len : N.length = fr.length + 1
  sub : ∀ (i : Nat) (y : Str), N[i + 1]? = some y → ∃ j, fr[i]? = some j ∧ X.N[j]? = some y ∧ (X.env.kindOf y = some .cell ∨ X.env.kindOf y = some .free) ∧ ((relabel scope X.env).names.lookup y = some .cell ∨ (relabel scope X.env).names.lookup y = some .free)
  cells : ∀ y c, cl.lookup y = some c → X.env.cells.lookup y = some c
  has : ∀ y, ((relabel scope X.env).names.lookup y = some .cell ∨ (relabel scope X.env).names.lookup y = some .free) → ∃ c, cl.lookup y = some c
/-- a block that sees no name of the def -/
theorem cmpOk_plain {X : Cx} {scope : Scope} {x : Str} (kind : scope.kind = .function) (nofree : ∀ y ∈ scope.names, y.2 ≠ .free) (nocell : ∀ y ∈ scope.names, y.2 ≠ .cell)
    (names : ∀ y ∈ scope.names, y.2 = .local → scope.names.lookup y.1 = some .local) (hx : scope.names.lookup x = some .local) : CmpOk X [x] [] scope [] x := by
  have er : (relabel scope X.env).names = scope.names := map_eq_self fun y hy => by
    have z : (y.2 == NameKind.free) = false := by simpa using nofree y hy
    simp [z]
  have no : ∀ y, ¬ ((relabel scope X.env).names.lookup y = some .cell ∨ (relabel scope X.env).names.lookup y = some .free) := fun y h => by
    rw [er] at h
    rcases h with h | h
    · exact nocell _ (PySem.mem_of_lookup h) rfl
    · exact nofree _ (PySem.mem_of_lookup h) rfl
  exact ⟨closureFor_none nofree, kind, nocell, names, hx, by simp, rfl, rfl, fun i y e => by simp at e, (fun y c e => by cases e), fun y h => absurd h (no y)⟩
/-- a block that sees names of the def: those are cells there -/
theorem cmpOk_free {X : Cx} {N : List Str} {fr : List Nat} {scope : Scope} {cl : List (Str × Addr)} {x : Str} (clos : closureFor scope X.env = pure cl) (kind : scope.kind = .function) (nocell : ∀ y ∈ scope.names, y.2 ≠ .cell)
    (names : ∀ y ∈ scope.names, y.2 = .local → scope.names.lookup y.1 = some .local) (hx : scope.names.lookup x = some .local) (nd : N.Nodup) (n0 : N[0]? = some x) (len : N.length = fr.length + 1)
    (sub : ((List.range fr.length).all fun i => match N[i + 1]?, fr[i]? with | some y, some j => (X.N[j]? == some y) && ((X.env.kindOf y == some .cell) && ((relabel scope X.env).names.lookup y == some .cell)) | _, _ => false) = true)
    (cells : ∀ p ∈ cl, X.env.cells.lookup p.1 = some p.2) (has : ((relabel scope X.env).names.all fun p => (p.2 != .cell && p.2 != .free) || (cl.lookup p.1).isSome) = true) : CmpOk X N fr scope cl x := by
  refine ⟨clos, kind, nocell, names, hx, nd, n0, len, fun i y e => ?_, fun y c e => cells _ (PySem.mem_of_lookup e), fun y h => ?_⟩
  · have hi : i < fr.length := by have := (List.getElem?_eq_some_iff.mp e).1; omega
    have z := List.all_eq_true.mp sub i (List.mem_range.mpr hi)
    rw [e, List.getElem?_eq_getElem hi] at z
    simp only [Bool.and_eq_true, beq_iff_eq] at z
    exact ⟨_, List.getElem?_eq_getElem hi, z.1, .inl z.2.1, .inl z.2.2⟩
  · have look : ∀ k, (relabel scope X.env).names.lookup y = some k → (k = .cell ∨ k = .free) → ∃ c, cl.lookup y = some c := fun k e hk => by
      have z := List.all_eq_true.mp has _ (PySem.mem_of_lookup e)
      rcases hk with rfl | rfl
      · exact Option.isSome_iff_exists.mp (by simpa using z)
      · exact Option.isSome_iff_exists.mp (by simpa using z)
    rcases h with h | h
    · exact look _ h (.inl rfl)
    · exact look _ h (.inr rfl)
def cmpSt (σ : St) (fr : List Nat) (x : Option V) : St := x :: fr.map fun j => (σ[j]?).join
/-- the comprehension's reading: D the new list, W the invariant by the turn and a measure -/
def CompAt (J : It) (fr : List Nat) (tt : TT) (te : TE) (σ : St) (Q : VK) (H1 : Hp) : Prop := ∀ D, H1 D = none → ∃ W : Nat → Nat → Hp → Prop, (∃ m, W 0 m (upd H1 D (.lst []))) ∧ ∀ i m H, W i m H →
  (J.stop i H ∧ Q (.ref D) H) ∨ (J.go i H ∧ ∀ x H', J.yld i H x H' → tt (cmpSt σ fr (some x)) H' fun b H2 => if b = true then te (cmpSt σ fr (some x)) H2 fun y H3 => ∃ ys, H3 D = some (.lst ys) ∧ ys.length < sizeLine ∧ ∃ m', m' < m ∧ W (i + 1) m' (upd H3 D (.lst (ys ++ [y])))
    else ∃ m', m' < m ∧ W (i + 1) m' H2)
def tComp (wi : TI) (fr : List Nat) (tt : TT) (te : TE) : TE := fun σ H Q => wi σ H fun J H1 => CompAt J fr tt te σ Q H1
section
variable {prog : Program} {w : World} {A : Around} {R : Result → Shared → Prop} {s : Shared}
theorem comp_turns {elt target iter : Expr} {ifs : List Expr} {scope : Scope} {pos : Pos} {it acc : Value} {env : Env} (J : Nat → Shared → Prop)
    (turn : ∀ n s, J n s → wpAny (model prog w) A (pyNext it) (fun r s1 => match r with
      | none => R (.ok .next) s1
      | some v => wpAny (model prog w) A (letOwnedTupleGo target it v) (fun _ s2 => wpAny (model prog w) A (assign target env v) (fun _ s3 =>
          wpAny (model prog w) A (forIn ifs true fun c r => if r = true then do let ok ← isTrue c env (eval c env); pure (ForInStep.yield ok) else pure (ForInStep.yield r)) (fun ok s4 =>
            if ok = true then wpAny (model prog w) A (eval elt env) (fun y s5 => wpAny (model prog w) A (call (.builtin "list.append") [acc, y]) (fun _ s6 => ∃ m, m < n ∧ J m s6) (fun _ _ => False) s5) (fun _ _ => False) s4
            else ∃ m, m < n ∧ J m s4) (fun _ _ => False) s3) (fun _ _ => False) s2) (fun _ _ => False) s1) (fun _ _ => False) s)
    (n : Nat) (h : J n s) : codeAny (model prog w) A (.compLoop (.ListComp elt [⟨target, iter, ifs, 0⟩] scope pos) 0 it acc env) R s := by
  refine codeAny_loop rfl J (fun n s hJ => ?_) n h
  show wpAny _ A ((compTurn (.ListComp elt [⟨target, iter, ifs, 0⟩] scope pos) 0 it acc env).onRaise (fun x => do noteFrame x env; theTreesLotGoes x)) _ _ s
  refine wpAny_noted ?_
  rw [compTurn_list]
  refine wpAny_bind (wpAny_standAt (wpAny_bind (wpAny_mono (turn n s hJ) (fun r s1 h1 => ?_) fun _ _ z => z.elim)))
  cases r with
  | none => exact wpAny_pure h1
  | some v =>
    refine wpAny_bind (wpAny_mono h1 (fun _ s2 h2 => ?_) fun _ _ z => z.elim)
    refine wpAny_bind (wpAny_mono h2 (fun _ s3 h3 => wpAny_bind (wpAny_mono h3 (fun ok s4 h4 => ?_) fun _ _ z => z.elim)) fun _ _ z => z.elim)
    cases ok with
    | false => exact wpAny_pure ⟨rfl, h4⟩
    | true => exact wpAny_bind (wpAny_bind (wpAny_mono h4 (fun y s5 h5 => wpAny_bind (wpAny_mono h5 (fun _ s6 h6 => wpAny_pure (wpAny_pure ⟨rfl, h6⟩)) fun _ _ z => z.elim)) fun _ _ z => z.elim))
end
section
variable {X : Cx} {elt iter : Expr} {ifs : List Expr} {x : Str} {px pos : Pos} {scope : Scope} {cl : List (Str × Addr)} {N : List Str} {fr : List Nat} {tt : TT} {te : TE}
theorem comp_core {pins : List (Addr × Obj)} {σ : St} {s2 : Shared} {H2 : Hp} {it : Addr} {fp : List Addr} {tn : Nat → Heap → Prop} {J : It} {Q : VK} {E : Value → Shared → Prop} {RR : Value → Addr → Result → Shared → Prop}
    (O : CmpOk X N fr scope cl x) (hc : X.calm = true) (I2 : Inv X pins σ H2 s2) (T : Turn X.prog X.w X.K (.Name x px) J fp it tn) (st2 : tn 0 s2.heap) (f2 : ∀ b ∈ fp, FpOk X pins H2 b)
    (ht : ∀ fp C s H, PIf (cmpCx X N scope cl fp C s H) ifs tt) (he : ∀ fp C s H, PE (cmpCx X N scope cl fp C s H) elt te)
    (hW : CompAt J fr tt te σ Q H2)
    (fin : ∀ D C s' H', s2.heap.objs.size ≤ C → H' C = none → (∃ m, s'.heap.Ns C m) → Inv X pins σ H' s' → Q (.ref D) H' → RR (.ref D) C (.ok .next) s') :
    wpAny (model X.prog X.w) X.A (newList []) (fun acc s3 => wpAny (model X.prog X.w) X.A (newFunctionEnv scope X.env.globals cl [] X.env.qual none .none (some X.env)) (fun cenv s4 =>
      codeAny (model X.prog X.w) X.A (.compStart (.ListComp elt [⟨.Name x px, iter, ifs, 0⟩] scope pos) 0 (.ref it) acc { cenv with scope := relabel scope X.env }) (RR acc cenv.locals) s4) E s3) E s2 := by
  refine wpAny_newObj_type (wpAny_newFunctionEnv O.nocell (by intro y hy; simp at hy) (fun h1 hns hsb => ?_) O.kind)
  dsimp only at hns hsb ⊢
  generalize hG : s2.heap.push { cls := .type "list", dict := none, data := .seq ([] : List Value).toArray } = G at hns hsb ⊢
  have hC : G.objs.size = s2.heap.objs.size + 1 := by rw [← hG, Heap.size_push]
  have old : ∀ b o, s2.heap.get? b = some o → h1.get? b = some o := fun b o e => hsb.extBut b o (Nat.ne_of_lt (by rw [hC]; exact Nat.lt_succ_of_lt (Heap.lt_size e))) (Heap.get?_push_of_some _ (hG ▸ Heap.get?_push_of_some _ e))
  have hacc : h1.get? s2.heap.objs.size = some { cls := .type "list", data := .seq ([] : List Value).toArray 0 } := hsb.extBut _ _ (Nat.ne_of_lt (by rw [hC]; exact Nat.lt_succ_self _)) (Heap.get?_push_of_some _ (hG ▸ Heap.get?_push_size _ rfl))
  have hD : H2 s2.heap.objs.size = none := I2.fresh
  have okX : (cmpCx X N scope cl fp G.objs.size s2 H2).Ok := by
    refine ⟨I2.ok.mod, O.kind, I2.ok.glob, I2.ok.blt, by show s2.heap.objs.size ≤ G.objs.size; rw [hC]; exact Nat.le_succ _, fun y z c e1 e2 => I2.ok.inj y z c (O.cells y c e1) (O.cells z c e2), fun y hy => O.has y hy, fun y c z => absurd (show false = true from z) Bool.false_ne_true, I2.ok.hd, I2.ok.frames, .inl rfl,
      fun b hb => ⟨?_, fun y c e => (f2 b hb).2.2.2.2.1 y c (O.cells y c e)⟩, I2.bs, Nat.le_trans I2.ok.bsz I2.sz, fun b o e hb => ?_, fun b hb z => ?_, I2.stack, I2.stkFree⟩
    · obtain ⟨o, e, _⟩ := T.obj _ _ st2 b hb
      show b ≠ G.objs.size
      exact Nat.ne_of_lt (by rw [hC]; exact Nat.lt_succ_of_lt (Heap.lt_size e))
    · rcases (f2 b hb).2.2.2.1 with z | z
      · exact I2.ok.noex b o e z
      · exact absurd (Nat.lt_of_lt_of_le (Heap.lt_size e) (Nat.le_trans I2.ok.bsz z)) (Nat.lt_irrefl _)
    · rcases List.mem_cons.mp (I2.stkSub b z) with z | z
      · exact (f2 b hb).2.1 z
      · exact (f2 b hb).2.2.1 z
  have statX : ∀ {H' : Hp}, (∀ b ∈ fp, H' b = none) → ∀ b ∈ fp, FpOk (cmpCx X N scope cl fp G.objs.size s2 H2) [] H' b := fun hn b hb =>
    ⟨hn b hb, (okX.exf b hb).1, okX.exfs b hb, .inl hb, (okX.exf b hb).2, fun p hp => absurd (show p ∈ ([] : List (Addr × Obj)) from hp) (by simp)⟩
  have I' : Inv (cmpCx X N scope cl fp G.objs.size s2 H2) [] (cmpSt σ fr none) (upd H2 s2.heap.objs.size (.lst [])) { s2 with heap := h1, toks := s2.toks + ([] : List (Str × Value)).length } := by
    refine ⟨okX, rfl, I2.bare, Un.laid old (Nat.le_refl _) hD, ⟨_, hns, fun i y v e1 e2 e3 => ?_⟩, fun y c e => ?_, ?_, fun y c e => ?_, fun p hp => absurd (show p ∈ ([] : List (Addr × Obj)) from hp) (by simp), I2.hok.laid old (Nat.le_refl _) ⟨Nat.zero_le _, [], 0, .nil, hacc⟩, ?_⟩
    · cases i with
      | zero => cases e2
      | succ i =>
        obtain ⟨j, q1, q2, q3, q4⟩ := O.sub i y e1
        have e2' : (σ[j]?).join = some v := by
          have : (fr.map fun j => (σ[j]?).join)[i]? = some (some v) := e2
          rw [List.getElem?_map, q1] at this
          exact Option.some.inj this
        have e4 : σ[j]? = some (some v) := by
          cases z : σ[j]? with
          | none => rw [z] at e2'; cases e2'
          | some t => rw [z] at e2'; exact congrArg some e2'
        obtain ⟨m, _, hl⟩ := I2.loc
        have vis : Vis X.env.scope y := .inr q3
        obtain ⟨u, r, l⟩ := hl j y v q2 e4 vis
        refine ⟨u, r, .inr ⟨q4, ?_⟩⟩
        obtain ⟨c', hc'⟩ := O.has y q4
        rcases l with ⟨k, _⟩ | ⟨_, c, ec, ic⟩
        · rcases q3 with z | z
          · rw [z] at k; cases k
          · rw [z] at k; cases k
        · have := O.cells y c' hc'
          have e' : c = c' := Option.some.inj (ec.symm.trans this)
          obtain ⟨o, ho, hd⟩ := ic
          rw [e'] at ho
          exact ⟨c', hc', o, old c' o ho, hd⟩
    · obtain ⟨v, o, ho, hd⟩ := I2.cell y c (O.cells y c e)
      exact ⟨v, o, old c o ho, hd⟩
    · show upd H2 s2.heap.objs.size (.lst []) G.objs.size = none
      rw [upd_ne (Nat.ne_of_gt (by rw [hC]; exact Nat.lt_succ_self _))]
      exact I2.hok.fresh (by rw [hC]; exact Nat.le_succ _)
    · obtain ⟨v, o, ho, hd⟩ := I2.cell y c (O.cells y c e)
      rw [upd_ne (Nat.ne_of_lt (Heap.lt_size ho))]
      exact I2.freeC y c (O.cells y c e)
    · show (cmpSt σ fr none).length = N.length
      rw [O.len]; simp [cmpSt]
  have st1 : tn 0 h1 := T.keep _ _ _ st2 fun b hb o e => old b o e
  have loop : ∀ s3 : Shared, s3 = { s2 with heap := h1, toks := s2.toks + ([] : List (Str × Value)).length } →
      codeAny (model X.prog X.w) X.A (.compLoop (.ListComp elt [⟨.Name x px, iter, ifs, 0⟩] scope pos) 0 (.ref it) (.ref s2.heap.objs.size) (compEnvC scope cl G.objs.size X.env)) (RR (.ref s2.heap.objs.size) G.objs.size) s3 := by
    rintro s3 rfl
    obtain ⟨W, ⟨m0, w0⟩, turn⟩ := hW _ hD
    refine comp_turns (fun n s' => ∃ i t H', Inv (cmpCx X N scope cl fp G.objs.size s2 H2) [] (cmpSt σ fr t) H' s' ∧ tn i s'.heap ∧ (∀ b ∈ fp, H' b = none) ∧ W i n H') ?_ m0
      ⟨0, none, _, I', st1, fun b hb => by
        rw [upd_ne (by obtain ⟨o, e, _⟩ := T.obj _ _ st2 b hb; exact Nat.ne_of_lt (Heap.lt_size e))]
        exact (f2 b hb).1, w0⟩
    rintro n s' ⟨i, t, H', I3, st3, fr3, w3⟩
    rcases turn i n H' w3 with ⟨stop, qn⟩ | ⟨go, step⟩
    · refine thn (T.done (cmpCx X N scope cl fp G.objs.size s2 H2) rfl rfl rfl hc i [] s' _ H' _ I3 (statX fr3) st3 stop) fun r s4 ⟨hr, I4⟩ => ?_
      subst hr
      obtain ⟨m, hm, _⟩ := I4.loc
      refine fin _ _ s4 H' (by rw [hC]; exact Nat.le_succ _) I4.free ⟨m, hm⟩ (I2.call' (ch := fp) I4.os I4.base I4.hok I4.bare fun b hb => ?_) qn
      exact ⟨(f2 b hb).2.2.2.1, (f2 b hb).2.1, (f2 b hb).2.2.2.2.1, (f2 b hb).2.2.2.2.2⟩
    · refine thn (T.item (cmpCx X N scope cl fp G.objs.size s2 H2) rfl rfl rfl hc i [] s' _ H' _ I3 (statX fr3) st3 go) fun r s4 ⟨u, hr, h4⟩ => ?_
      subst hr
      refine thn h4 fun _ s5 ⟨y, H5, I5, r5, y5, st5, fr5⟩ => ?_
      have I5' := I5.pinned (statX fr5) (T.obj _ _ st5)
      have lx : (cmpCx X N scope cl fp G.objs.size s2 H2).env.scope.names.lookup x = some .local := lookup_relabel_local O.hx
      refine thn (pg_name (X := cmpCx X N scope cl fp G.objs.size s2 H2) (i := 0) O.nd O.n0 (.inl lx) (.inr lx) _ s5 _ H5 y u (fun σ' H' => σ' = cmpSt σ fr (some y) ∧ H' = H5) I5' r5 ⟨rfl, rfl⟩) fun _ s6 ⟨σ6, H6, I6, e6, e6'⟩ => ?_
      subst e6; subst e6'
      have again : ∀ {σ7 : St} {H7 : Hp} {s7 : Shared} {m' : Nat}, σ7 = cmpSt σ fr (some y) → Inv (cmpCx X N scope cl fp G.objs.size s2 H2) ([] ++ pinsAt fp s5.heap) σ7 H7 s7 → m' < n → W (i + 1) m' H7 →
          ∃ m, m < n ∧ ∃ i t H', Inv (cmpCx X N scope cl fp G.objs.size s2 H2) [] (cmpSt σ fr t) H' s7 ∧ tn i s7.heap ∧ (∀ b ∈ fp, H' b = none) ∧ W i m H' := fun {σ7 H7 s7 m'} e7 I7 hm w7 => by
        subst e7
        refine ⟨m', hm, i + 1, some y, H7, I7.unpinned, T.keep _ _ _ st5 fun b hb o e => (I7.pin (b, o) (List.mem_append_right _ (List.mem_append_right _ (mem_pinsAt hb e)))).1, fun b hb => ?_, w7⟩
        obtain ⟨o, e, d⟩ := T.obj _ _ st5 b hb
        exact (I7.pin (b, o) (List.mem_append_right _ (List.mem_append_right _ (mem_pinsAt hb e)))).2.1
      refine thn (ht fp G.objs.size s2 H2 _ s6 _ H6 _ I6 (step y H6 y5)) fun ok s7 ⟨H7, I7, q7⟩ => ?_
      cases ok with
      | false =>
        rw [if_neg Bool.false_ne_true] at q7 ⊢
        obtain ⟨m', hm, w7⟩ := q7
        exact again rfl I7 hm w7
      | true =>
        rw [if_pos rfl] at q7 ⊢
        refine thn (he fp G.objs.size s2 H2 _ s7 _ H7 _ I7 q7) fun u8 s8 ⟨v8, H8, I8, r8, ys, hys, hlen, m', hm, w8⟩ => ?_
        refine thn (mt_append (X := cmpCx X N scope cl fp G.objs.size s2 H2) _ s8 _ H8 (.ref s2.heap.objs.size) [v8] _ [u8] (fun _ H9 => W (i + 1) m' H9) I8 rfl (.cons r8 .nil) ⟨_, ys, v8, rfl, rfl, hys, hlen, w8⟩) fun _ s9 ⟨_, H9, I9, _, w9⟩ => ?_
        exact again rfl I9 hm w9
  exact codeAny_compStart_list (loop _ rfl) (T.self _ 0 _ _ _ st1 (loop _ rfl))
/-- the frame of a block is let go -/
theorem Inv.left {pins : List (Addr × Obj)} {σ σ2 : St} {s2 s' : Shared} {H2 H' : Hp} {C : Addr} {h' : Heap} (I2 : Inv X pins σ2 H2 s2) (I' : Inv X pins σ H' s') (hC : s2.heap.objs.size ≤ C) (hn : H' C = none) (hs : Heap.SameBut C s'.heap h') : Inv X pins σ H' { s' with heap := h' } := by
  refine I'.turned (t' := s'.toks) (it := C) (fun b o hb e => (hs.2 b hb).trans e) hn (Nat.ne_of_gt (Nat.lt_of_lt_of_le I2.lt hC)) (.inr (Nat.le_trans I2.sz hC)) (fun y c e => ?_) fun p hp => ?_
  · obtain ⟨v, o, ho, _⟩ := I2.cell y c e
    exact Nat.ne_of_lt (Nat.lt_of_lt_of_le (Heap.lt_size ho) hC)
  · exact Nat.ne_of_lt (Nat.lt_of_lt_of_le (Heap.lt_size (I2.pin p hp).1) hC)
/-- [elt for x in iter if ..] -/
theorem pe_comp {wi : TI} (hi : PI X (.Name x px) iter wi) (O : CmpOk X N fr scope cl x) (hc : X.calm = true) (ht : ∀ fp C s H, PIf (cmpCx X N scope cl fp C s H) ifs tt) (he : ∀ fp C s H, PE (cmpCx X N scope cl fp C s H) elt te)
    (hs : ∀ v, foldedSetIterable iter X.env v = pure v := by intro _; rfl) : PE X (.ListComp elt [⟨.Name x px, iter, ifs, 0⟩] scope pos) (tComp wi fr tt te) := by
  intro pins s σ H Q I h
  rw [eval_ListComp]
  refine wpAny_comprehension_free (use := none) rfl hs O.clos O.kind O.names (thn (hi pins s σ H _ I h) fun v s1 h1 => thn h1 fun itv s2 h2 => ?_)
  obtain ⟨it, fp, tn, J, H2, e, I2, T, st2, f2, hW⟩ := h2
  subst e
  refine comp_core (RR := fun acc C => compPost (model X.prog X.w) X.A X.xe none (EP X pins σ Q) acc C) O hc I2 T st2 f2 ht he hW fun D C s' H' hC hn ⟨m, hm⟩ I' q => ?_
  exact ⟨m, hm, fun h' hs' => ⟨.ref D, H', I2.left I' hC hn hs', rfl, q⟩⟩
/-- y = [elt for x in iter if ..], both on one row: stored ahead of the block's end -/
theorem ps_comp {wi : TI} {i : Nat} {y : Str} {py spos : Pos} (hN : X.N.Nodup) (hy : X.N[i]? = some y) (hl : Loc X.env.scope y) (hi : PI X (.Name x px) iter wi) (O : CmpOk X N fr scope cl x) (hc : X.calm = true)
    (ht : ∀ fp C s H, PIf (cmpCx X N scope cl fp C s H) ifs tt) (he : ∀ fp C s H, PE (cmpCx X N scope cl fp C s H) elt te) (hs : ∀ v, foldedSetIterable iter X.env v = pure v := by intro _; rfl)
    (hsw : swapsWith (.ListComp elt [⟨.Name x px, iter, ifs, 0⟩] scope pos) (some (.Name y py)) spos.line X.env = pure true := by rfl) (hf : X.fn y = true ∨ X.env.scope.names.lookup y = some .local := by first | exact .inl rfl | exact .inr rfl | assumption) :
    PS X (.Assign [.Name y py] (.ListComp elt [⟨.Name x px, iter, ifs, 0⟩] scope pos) spos) (tAsg (tComp wi fr tt te) (gName i)) := by
  intro pins s σ H D0 I h
  rw [exec_Assign_Name_used _ _ _ _ hsw]
  refine wpAny_bind (wpAny_standAt (wpAny_bind ?_))
  show wpAny _ X.A (do let _ ← comprehension (.ListComp elt [⟨.Name x px, iter, ifs, 0⟩] scope pos) scope X.env _ (newList []) false (eval iter X.env) (some (assign (.Name y py) X.env))) _ _ s
  refine wpAny_bind (wpAny_mono (wpAny_comprehension_free (use := some (assign (.Name y py) X.env)) (Q := fun _ s' => SP X pins D0 .next s') rfl hs O.clos O.kind O.names (thn (hi pins s σ H _ I h) fun v s1 h1 => thn h1 fun itv s2 h2 => ?_)) (fun _ s' hq => wpAny_pure (wpAny_pure hq)) fun _ _ z => z)
  obtain ⟨it, fp, tn, J, H2, e, I2, T, st2, f2, hW⟩ := h2
  subst e
  refine comp_core (Q := fun v H1 => gName i v σ H1 D0.nx) (RR := fun acc C => compPost (model X.prog X.w) X.A X.xe (some (assign (.Name y py) X.env)) (fun _ s' => SP X pins D0 .next s') acc C) O hc I2 T st2 f2 ht he hW fun D C s' H' hC hn ⟨m, hm⟩ I' q => ?_
  show wpAny _ X.A (assign (.Name y py) X.env (.ref D)) _ _ s'
  refine wpAny_assign_Name (store_ok2 I' hN hy hl (v := .ref D) rfl (fun s3 I3 ⟨a, hsa, ha⟩ => ?_) hf)
  have hCa : C ≠ a := by
    rcases ha with z | z
    · rw [z]; exact Nat.ne_of_gt (Nat.lt_of_lt_of_le I2.lt hC)
    · obtain ⟨v, o, ho, _⟩ := I2.cell y a z
      exact Nat.ne_of_gt (Nat.lt_of_lt_of_le (Heap.lt_size ho) hC)
  exact ⟨m, hm.sameBut hsa hCa, fun h' hs' => ⟨_, H', I2.left I3 hC hn hs', q⟩⟩
/-- what is wanted behind a turn that tells nothing; behind one that tells y -/
def CNext (Pv : Addr → Nat → List V → Hp → Prop) (D : Addr) (i n : Nat) (H2 : Hp) : Prop := ∃ m', m' < n - i ∧ m' = n - (i + 1) ∧ i + 1 ≤ n ∧ ∃ zs, Pv D (i + 1) zs H2
def CYes (Pv : Addr → Nat → List V → Hp → Prop) (D : Addr) (i n : Nat) : VK := fun y H3 => ∃ ys, H3 D = some (.lst ys) ∧ ys.length < sizeLine ∧ CNext Pv D i n (upd H3 D (.lst (ys ++ [y])))
theorem CNext.mk {Pv : Addr → Nat → List V → Hp → Prop} {D : Addr} {i n : Nat} {H2 : Hp} {zs : List V} (hi : i < n) (h : Pv D (i + 1) zs H2) : CNext Pv D i n H2 := ⟨n - (i + 1), by omega, rfl, hi, zs, h⟩
theorem CYes.mk {Pv : Addr → Nat → List V → Hp → Prop} {D : Addr} {i n : Nat} {H3 : Hp} {ys : List V} {y : V} (hi : i < n) (e : H3 D = some (.lst ys)) (hl : ys.length < sizeLine) (h : Pv D (i + 1) (ys ++ [y]) (upd H3 D (.lst (ys ++ [y])))) : CYes Pv D i n y H3 := ⟨ys, e, hl, .mk hi h⟩
/-- over a list that the block leaves as it is -/
theorem comp_list {K : PySem.W.Frag} {a : Addr} {xs : List V} {σ : St} {H1 : Hp} {Q : VK} (Pv : Addr → Nat → List V → Hp → Prop) (h0 : ∀ D, H1 D = none → Pv D 0 [] (upd H1 D (.lst [])))
    (hk : ∀ D i ys H, H1 D = none → i ≤ xs.length → Pv D i ys H → SqL K H a xs)
    (hs : ∀ D i x ys H, H1 D = none → xs[i]? = some x → Pv D i ys H → tt (cmpSt σ fr (some x)) H fun b H2 => if b = true then te (cmpSt σ fr (some x)) H2 (CYes Pv D i xs.length) else CNext Pv D i xs.length H2)
    (hd : ∀ D ys H, H1 D = none → Pv D xs.length ys H → Q (.ref D) H) : CompAt (Itl K a) fr tt te σ Q H1 := by
  intro D hD
  refine ⟨fun i m H => m = xs.length - i ∧ i ≤ xs.length ∧ ∃ ys, Pv D i ys H, ⟨_, rfl, Nat.zero_le _, [], h0 D hD⟩, ?_⟩
  rintro i m H ⟨rfl, hi, ys, p⟩
  have q := hk D i ys H hD hi p
  by_cases hlt : i < xs.length
  · refine .inr ⟨⟨xs, xs[i], q, by simp [hlt]⟩, fun x H' y => ?_⟩
    obtain ⟨e, y⟩ := y
    subst e
    exact hs D i x ys _ hD (y xs q) p
  · have e : i = xs.length := by omega
    subst e
    exact .inl ⟨⟨xs, q, Nat.le_refl _⟩, hd D ys H hD p⟩
/-- over a range -/
theorem comp_range {lo : Int} {n : Nat} {σ : St} {H1 : Hp} {Q : VK} (Pv : Addr → Nat → List V → Hp → Prop) (h0 : ∀ D, H1 D = none → Pv D 0 [] (upd H1 D (.lst [])))
    (hs : ∀ D i ys H, H1 D = none → i < n → Pv D i ys H → tt (cmpSt σ fr (some (.int (lo + i)))) H fun b H2 => if b = true then te (cmpSt σ fr (some (.int (lo + i)))) H2 (CYes Pv D i n) else CNext Pv D i n H2)
    (hd : ∀ D ys H, H1 D = none → Pv D n ys H → Q (.ref D) H) : CompAt (Itr lo n) fr tt te σ Q H1 := by
  intro D hD
  refine ⟨fun i m H => m = n - i ∧ i ≤ n ∧ ∃ ys, Pv D i ys H, ⟨_, rfl, Nat.zero_le _, [], h0 D hD⟩, ?_⟩
  rintro i m H ⟨rfl, hi, ys, p⟩
  by_cases hlt : i < n
  · refine .inr ⟨hlt, fun x H' y => ?_⟩
    obtain ⟨e, y⟩ := y
    subst e; subst y
    exact hs D i ys _ hD hlt p
  · have e : i = n := by omega
    subst e
    exact .inl ⟨Nat.le_refl _, hd D ys H hD p⟩
end
end L2

namespace L2
open PySem PySem.Spec PyProof.Rows
/-! ### a list comprehension whose target is any (a tuple of names): k names of the target first, then the def's own that the block sees -/
structure CmpOkG (X : Cx) (N : List Str) (k : Nat) (fr : List Nat) (scope : Scope) (cl : List (Str × Addr)) : Prop where
  clos : closureFor scope X.env = pure cl
  kind : scope.kind = .function
  nocell : ∀ y ∈ scope.names, y.2 ≠ .cell
  names : ∀ y ∈ scope.names, y.2 = .local → scope.names.lookup y.1 = some .local
  len : N.length = k + fr.length
  sub : ∀ (i : Nat) (y : Str), N[k + i]? = some y → ∃ j, fr[i]? = some j ∧ X.N[j]? = some y ∧ (X.env.kindOf y = some .cell ∨ X.env.kindOf y = some .free) ∧ ((relabel scope X.env).names.lookup y = some .cell ∨ (relabel scope X.env).names.lookup y = some .free)
  cells : ∀ y c, cl.lookup y = some c → X.env.cells.lookup y = some c
  has : ∀ y, ((relabel scope X.env).names.lookup y = some .cell ∨ (relabel scope X.env).names.lookup y = some .free) → ∃ c, cl.lookup y = some c
theorem cmpOkG_plain {X : Cx} {N : List Str} {k : Nat} {scope : Scope} (len : N.length = k) (kind : scope.kind = .function) (nofree : ∀ y ∈ scope.names, y.2 ≠ .free) (nocell : ∀ y ∈ scope.names, y.2 ≠ .cell)
    (names : ∀ y ∈ scope.names, y.2 = .local → scope.names.lookup y.1 = some .local) : CmpOkG X N k [] scope [] := by
  have er : (relabel scope X.env).names = scope.names := map_eq_self fun y hy => by
    have z : (y.2 == NameKind.free) = false := by simpa using nofree y hy
    simp [z]
  have no : ∀ y, ¬ ((relabel scope X.env).names.lookup y = some .cell ∨ (relabel scope X.env).names.lookup y = some .free) := fun y h => by
    rw [er] at h
    rcases h with h | h
    · exact nocell _ (PySem.mem_of_lookup h) rfl
    · exact nofree _ (PySem.mem_of_lookup h) rfl
  refine ⟨closureFor_none nofree, kind, nocell, names, by rw [len]; rfl, fun i y e => ?_, (fun y c e => by cases e), fun y h => absurd h (no y)⟩
  have := (List.getElem?_eq_some_iff.mp e).1
  omega
def cmpStG (σ : St) (fr : List Nat) (ts : St) : St := ts ++ fr.map fun j => (σ[j]?).join
def CompAtG (J : It) (gt : TG) (k : Nat) (fr : List Nat) (tt : TT) (te : TE) (σ : St) (Q : VK) (H1 : Hp) : Prop := ∀ D, H1 D = none → ∃ W : Nat → Nat → Hp → Prop, (∃ m, W 0 m (upd H1 D (.lst []))) ∧ ∀ i m H, W i m H →
  (J.stop i H ∧ Q (.ref D) H) ∨ (J.go i H ∧ ∀ x H', J.yld i H x H' → ∀ ts : St, ts.length = k → gt x (cmpStG σ fr ts) H' fun σ2 H2 => (∃ ts2 : St, ts2.length = k ∧ σ2 = cmpStG σ fr ts2) ∧ tt σ2 H2 fun b H3 => if b = true then te σ2 H3 fun y H4 => ∃ ys, H4 D = some (.lst ys) ∧ ys.length < sizeLine ∧ ∃ m', m' < m ∧ W (i + 1) m' (upd H4 D (.lst (ys ++ [y])))
    else ∃ m', m' < m ∧ W (i + 1) m' H3)
def tCompG (wi : TI) (gt : TG) (k : Nat) (fr : List Nat) (tt : TT) (te : TE) : TE := fun σ H Q => wi σ H fun J H1 => CompAtG J gt k fr tt te σ Q H1
section
variable {X : Cx} {elt iter tg : Expr} {ifs : List Expr} {pos : Pos} {scope : Scope} {cl : List (Str × Addr)} {N : List Str} {k : Nat} {fr : List Nat} {gt : TG} {tt : TT} {te : TE}
theorem comp_coreG {pins : List (Addr × Obj)} {σ : St} {s2 : Shared} {H2 : Hp} {it : Addr} {fp : List Addr} {tn : Nat → Heap → Prop} {J : It} {Q : VK} {E : Value → Shared → Prop} {RR : Value → Addr → Result → Shared → Prop}
    (O : CmpOkG X N k fr scope cl) (hc : X.calm = true) (I2 : Inv X pins σ H2 s2) (T : Turn X.prog X.w X.K tg J fp it tn) (st2 : tn 0 s2.heap) (f2 : ∀ b ∈ fp, FpOk X pins H2 b)
    (ht : ∀ fp C s H, PIf (cmpCx X N scope cl fp C s H) ifs tt) (he : ∀ fp C s H, PE (cmpCx X N scope cl fp C s H) elt te)
    (hg : ∀ fp C s H, PG (cmpCx X N scope cl fp C s H) tg gt) (hW : CompAtG J gt k fr tt te σ Q H2)
    (fin : ∀ D C s' H', s2.heap.objs.size ≤ C → H' C = none → (∃ m, s'.heap.Ns C m) → Inv X pins σ H' s' → Q (.ref D) H' → RR (.ref D) C (.ok .next) s') :
    wpAny (model X.prog X.w) X.A (newList []) (fun acc s3 => wpAny (model X.prog X.w) X.A (newFunctionEnv scope X.env.globals cl [] X.env.qual none .none (some X.env)) (fun cenv s4 =>
      codeAny (model X.prog X.w) X.A (.compStart (.ListComp elt [⟨tg, iter, ifs, 0⟩] scope pos) 0 (.ref it) acc { cenv with scope := relabel scope X.env }) (RR acc cenv.locals) s4) E s3) E s2 := by
  refine wpAny_newObj_type (wpAny_newFunctionEnv O.nocell (by intro y hy; simp at hy) (fun h1 hns hsb => ?_) O.kind)
  dsimp only at hns hsb ⊢
  generalize hG : s2.heap.push { cls := .type "list", dict := none, data := .seq ([] : List Value).toArray } = G at hns hsb ⊢
  have hC : G.objs.size = s2.heap.objs.size + 1 := by rw [← hG, Heap.size_push]
  have old : ∀ b o, s2.heap.get? b = some o → h1.get? b = some o := fun b o e => hsb.extBut b o (Nat.ne_of_lt (by rw [hC]; exact Nat.lt_succ_of_lt (Heap.lt_size e))) (Heap.get?_push_of_some _ (hG ▸ Heap.get?_push_of_some _ e))
  have hacc : h1.get? s2.heap.objs.size = some { cls := .type "list", data := .seq ([] : List Value).toArray 0 } := hsb.extBut _ _ (Nat.ne_of_lt (by rw [hC]; exact Nat.lt_succ_self _)) (Heap.get?_push_of_some _ (hG ▸ Heap.get?_push_size _ rfl))
  have hD : H2 s2.heap.objs.size = none := I2.fresh
  have okX : (cmpCx X N scope cl fp G.objs.size s2 H2).Ok := by
    refine ⟨I2.ok.mod, O.kind, I2.ok.glob, I2.ok.blt, by show s2.heap.objs.size ≤ G.objs.size; rw [hC]; exact Nat.le_succ _, fun y z c e1 e2 => I2.ok.inj y z c (O.cells y c e1) (O.cells z c e2), fun y hy => O.has y hy, fun y c z => absurd (show false = true from z) Bool.false_ne_true, I2.ok.hd, I2.ok.frames, .inl rfl,
      fun b hb => ⟨?_, fun y c e => (f2 b hb).2.2.2.2.1 y c (O.cells y c e)⟩, I2.bs, Nat.le_trans I2.ok.bsz I2.sz, fun b o e hb => ?_, fun b hb z => ?_, I2.stack, I2.stkFree⟩
    · obtain ⟨o, e, _⟩ := T.obj _ _ st2 b hb
      show b ≠ G.objs.size
      exact Nat.ne_of_lt (by rw [hC]; exact Nat.lt_succ_of_lt (Heap.lt_size e))
    · rcases (f2 b hb).2.2.2.1 with z | z
      · exact I2.ok.noex b o e z
      · exact absurd (Nat.lt_of_lt_of_le (Heap.lt_size e) (Nat.le_trans I2.ok.bsz z)) (Nat.lt_irrefl _)
    · rcases List.mem_cons.mp (I2.stkSub b z) with z | z
      · exact (f2 b hb).2.1 z
      · exact (f2 b hb).2.2.1 z
  have statX : ∀ {H' : Hp}, (∀ b ∈ fp, H' b = none) → ∀ b ∈ fp, FpOk (cmpCx X N scope cl fp G.objs.size s2 H2) [] H' b := fun hn b hb =>
    ⟨hn b hb, (okX.exf b hb).1, okX.exfs b hb, .inl hb, (okX.exf b hb).2, fun p hp => absurd (show p ∈ ([] : List (Addr × Obj)) from hp) (by simp)⟩
  have I' : Inv (cmpCx X N scope cl fp G.objs.size s2 H2) [] (cmpStG σ fr (List.replicate k none)) (upd H2 s2.heap.objs.size (.lst [])) { s2 with heap := h1, toks := s2.toks + ([] : List (Str × Value)).length } := by
    refine ⟨okX, rfl, I2.bare, Un.laid old (Nat.le_refl _) hD, ⟨_, hns, fun i y v e1 e2 e3 => ?_⟩, fun y c e => ?_, ?_, fun y c e => ?_, fun p hp => absurd (show p ∈ ([] : List (Addr × Obj)) from hp) (by simp), I2.hok.laid old (Nat.le_refl _) ⟨Nat.zero_le _, [], 0, .nil, hacc⟩, ?_⟩
    · by_cases hik : i < k
      · have e2' : (List.replicate k none ++ fr.map fun j => (σ[j]?).join)[i]? = some (some v) := e2
        rw [List.getElem?_append_left (by rw [List.length_replicate]; exact hik), List.getElem?_replicate, if_pos hik] at e2'
        cases e2'
      · obtain ⟨j, q1, q2, q3, q4⟩ := O.sub (i - k) y (by rw [show k + (i - k) = i by omega]; exact e1)
        have e2' : (σ[j]?).join = some v := by
          have : (List.replicate k none ++ fr.map fun j => (σ[j]?).join)[i]? = some (some v) := e2
          rw [List.getElem?_append_right (by rw [List.length_replicate]; omega), List.length_replicate, List.getElem?_map, q1] at this
          exact Option.some.inj this
        have e4 : σ[j]? = some (some v) := by
          cases z : σ[j]? with
          | none => rw [z] at e2'; cases e2'
          | some t => rw [z] at e2'; exact congrArg some e2'
        obtain ⟨m, _, hl⟩ := I2.loc
        have vis : Vis X.env.scope y := .inr q3
        obtain ⟨u, r, l⟩ := hl j y v q2 e4 vis
        refine ⟨u, r, .inr ⟨q4, ?_⟩⟩
        obtain ⟨c', hc'⟩ := O.has y q4
        rcases l with ⟨k, _⟩ | ⟨_, c, ec, ic⟩
        · rcases q3 with z | z
          · rw [z] at k; cases k
          · rw [z] at k; cases k
        · have := O.cells y c' hc'
          have e' : c = c' := Option.some.inj (ec.symm.trans this)
          obtain ⟨o, ho, hd⟩ := ic
          rw [e'] at ho
          exact ⟨c', hc', o, old c' o ho, hd⟩
    · obtain ⟨v, o, ho, hd⟩ := I2.cell y c (O.cells y c e)
      exact ⟨v, o, old c o ho, hd⟩
    · show upd H2 s2.heap.objs.size (.lst []) G.objs.size = none
      rw [upd_ne (Nat.ne_of_gt (by rw [hC]; exact Nat.lt_succ_self _))]
      exact I2.hok.fresh (by rw [hC]; exact Nat.le_succ _)
    · obtain ⟨v, o, ho, hd⟩ := I2.cell y c (O.cells y c e)
      rw [upd_ne (Nat.ne_of_lt (Heap.lt_size ho))]
      exact I2.freeC y c (O.cells y c e)
    · show (cmpStG σ fr (List.replicate k none)).length = N.length
      rw [O.len]; simp [cmpStG]
  have st1 : tn 0 h1 := T.keep _ _ _ st2 fun b hb o e => old b o e
  have loop : ∀ s3 : Shared, s3 = { s2 with heap := h1, toks := s2.toks + ([] : List (Str × Value)).length } →
      codeAny (model X.prog X.w) X.A (.compLoop (.ListComp elt [⟨tg, iter, ifs, 0⟩] scope pos) 0 (.ref it) (.ref s2.heap.objs.size) (compEnvC scope cl G.objs.size X.env)) (RR (.ref s2.heap.objs.size) G.objs.size) s3 := by
    rintro s3 rfl
    obtain ⟨W, ⟨m0, w0⟩, turn⟩ := hW _ hD
    refine comp_turns (fun n s' => ∃ i ts H', ts.length = k ∧ Inv (cmpCx X N scope cl fp G.objs.size s2 H2) [] (cmpStG σ fr ts) H' s' ∧ tn i s'.heap ∧ (∀ b ∈ fp, H' b = none) ∧ W i n H') ?_ m0
      ⟨0, List.replicate k none, _, List.length_replicate, I', st1, fun b hb => by
        rw [upd_ne (by obtain ⟨o, e, _⟩ := T.obj _ _ st2 b hb; exact Nat.ne_of_lt (Heap.lt_size e))]
        exact (f2 b hb).1, w0⟩
    rintro n s' ⟨i, ts, H', hts, I3, st3, fr3, w3⟩
    rcases turn i n H' w3 with ⟨stop, qn⟩ | ⟨go, step⟩
    · refine thn (T.done (cmpCx X N scope cl fp G.objs.size s2 H2) rfl rfl rfl hc i [] s' _ H' _ I3 (statX fr3) st3 stop) fun r s4 ⟨hr, I4⟩ => ?_
      subst hr
      obtain ⟨m, hm, _⟩ := I4.loc
      refine fin _ _ s4 H' (by rw [hC]; exact Nat.le_succ _) I4.free ⟨m, hm⟩ (I2.call' (ch := fp) I4.os I4.base I4.hok I4.bare fun b hb => ?_) qn
      exact ⟨(f2 b hb).2.2.2.1, (f2 b hb).2.1, (f2 b hb).2.2.2.2.1, (f2 b hb).2.2.2.2.2⟩
    · refine thn (T.item (cmpCx X N scope cl fp G.objs.size s2 H2) rfl rfl rfl hc i [] s' _ H' _ I3 (statX fr3) st3 go) fun r s4 ⟨u, hr, h4⟩ => ?_
      subst hr
      refine thn h4 fun _ s5 ⟨y, H5, I5, r5, y5, st5, fr5⟩ => ?_
      have I5' := I5.pinned (statX fr5) (T.obj _ _ st5)
      refine thn (hg fp G.objs.size s2 H2 _ s5 _ H5 y u _ I5' r5 (step y H5 y5 ts hts)) fun _ s6 ⟨σ6, H6, I6, ⟨ts6, hts6, e6⟩, q6⟩ => ?_
      subst e6
      have again : ∀ {σ7 : St} {H7 : Hp} {s7 : Shared} {m' : Nat}, σ7 = cmpStG σ fr ts6 → Inv (cmpCx X N scope cl fp G.objs.size s2 H2) ([] ++ pinsAt fp s5.heap) σ7 H7 s7 → m' < n → W (i + 1) m' H7 →
          ∃ m, m < n ∧ ∃ i ts H', ts.length = k ∧ Inv (cmpCx X N scope cl fp G.objs.size s2 H2) [] (cmpStG σ fr ts) H' s7 ∧ tn i s7.heap ∧ (∀ b ∈ fp, H' b = none) ∧ W i m H' := fun {σ7 H7 s7 m'} e7 I7 hm w7 => by
        subst e7
        refine ⟨m', hm, i + 1, ts6, H7, hts6, I7.unpinned, T.keep _ _ _ st5 fun b hb o e => (I7.pin (b, o) (List.mem_append_right _ (List.mem_append_right _ (mem_pinsAt hb e)))).1, fun b hb => ?_, w7⟩
        obtain ⟨o, e, d⟩ := T.obj _ _ st5 b hb
        exact (I7.pin (b, o) (List.mem_append_right _ (List.mem_append_right _ (mem_pinsAt hb e)))).2.1
      refine thn (ht fp G.objs.size s2 H2 _ s6 _ H6 _ I6 q6) fun ok s7 ⟨H7, I7, q7⟩ => ?_
      cases ok with
      | false =>
        rw [if_neg Bool.false_ne_true] at q7 ⊢
        obtain ⟨m', hm, w7⟩ := q7
        exact again rfl I7 hm w7
      | true =>
        rw [if_pos rfl] at q7 ⊢
        refine thn (he fp G.objs.size s2 H2 _ s7 _ H7 _ I7 q7) fun u8 s8 ⟨v8, H8, I8, r8, ys, hys, hlen, m', hm, w8⟩ => ?_
        refine thn (mt_append (X := cmpCx X N scope cl fp G.objs.size s2 H2) _ s8 _ H8 (.ref s2.heap.objs.size) [v8] _ [u8] (fun _ H9 => W (i + 1) m' H9) I8 rfl (.cons r8 .nil) ⟨_, ys, v8, rfl, rfl, hys, hlen, w8⟩) fun _ s9 ⟨_, H9, I9, _, w9⟩ => ?_
        exact again rfl I9 hm w9
  exact codeAny_compStart_list (loop _ rfl) (T.self _ 0 _ _ _ st1 (loop _ rfl))
theorem pe_compG {wi : TI} (hi : PI X tg iter wi) (O : CmpOkG X N k fr scope cl) (hc : X.calm = true) (hg : ∀ fp C s H, PG (cmpCx X N scope cl fp C s H) tg gt) (ht : ∀ fp C s H, PIf (cmpCx X N scope cl fp C s H) ifs tt) (he : ∀ fp C s H, PE (cmpCx X N scope cl fp C s H) elt te)
    (hs : ∀ v, foldedSetIterable iter X.env v = pure v := by intro _; rfl) : PE X (.ListComp elt [⟨tg, iter, ifs, 0⟩] scope pos) (tCompG wi gt k fr tt te) := by
  intro pins s σ H Q I h
  rw [eval_ListComp]
  refine wpAny_comprehension_free (use := none) rfl hs O.clos O.kind O.names (thn (hi pins s σ H _ I h) fun v s1 h1 => thn h1 fun itv s2 h2 => ?_)
  obtain ⟨it, fp, tn, J, H2, e, I2, T, st2, f2, hW⟩ := h2
  subst e
  refine comp_coreG (RR := fun acc C => compPost (model X.prog X.w) X.A X.xe none (EP X pins σ Q) acc C) O hc I2 T st2 f2 ht he hg hW fun D C s' H' hC hn ⟨m, hm⟩ I' q => ?_
  exact ⟨m, hm, fun h' hs' => ⟨.ref D, H', I2.left I' hC hn hs', rfl, q⟩⟩
theorem compG_list {K : PySem.W.Frag} {a : Addr} {xs : List V} {σ : St} {H1 : Hp} {Q : VK} (Pv : Addr → Nat → List V → Hp → Prop) (h0 : ∀ D, H1 D = none → Pv D 0 [] (upd H1 D (.lst [])))
    (hk : ∀ D i ys H, H1 D = none → i ≤ xs.length → Pv D i ys H → SqL K H a xs)
    (hs : ∀ D i x ys H, H1 D = none → xs[i]? = some x → Pv D i ys H → ∀ ts : St, ts.length = k → gt x (cmpStG σ fr ts) H fun σ2 H2 => (∃ ts2 : St, ts2.length = k ∧ σ2 = cmpStG σ fr ts2) ∧ tt σ2 H2 fun b H3 => if b = true then te σ2 H3 (CYes Pv D i xs.length) else CNext Pv D i xs.length H3)
    (hd : ∀ D ys H, H1 D = none → Pv D xs.length ys H → Q (.ref D) H) : CompAtG (Itl K a) gt k fr tt te σ Q H1 := by
  intro D hD
  refine ⟨fun i m H => m = xs.length - i ∧ i ≤ xs.length ∧ ∃ ys, Pv D i ys H, ⟨_, rfl, Nat.zero_le _, [], h0 D hD⟩, ?_⟩
  rintro i m H ⟨rfl, hi, ys, p⟩
  have q := hk D i ys H hD hi p
  by_cases hlt : i < xs.length
  · refine .inr ⟨⟨xs, xs[i], q, by simp [hlt]⟩, fun x H' y => ?_⟩
    obtain ⟨e, y⟩ := y
    subst e
    exact hs D i x ys _ hD (y xs q) p
  · have e : i = xs.length := by omega
    subst e
    exact .inl ⟨⟨xs, q, Nat.le_refl _⟩, hd D ys H hD p⟩
end
theorem gTupK {X : Cx} {K : PySem.W.Frag} {es : List Expr} {k : Nat} {t : TGs} {n : Nat} {pos : Pos} (hK : X.K = K) (hc : X.calm = true) (h : PGs X es t) (hn : (assignEach es X.env).length = n := by rfl) (hst : (assignEach es X.env).findIdx? (·.1) = none := by rfl) : PG X (.Tuple es k pos) (gTup K n t) := hK ▸ pg_tup hc h hn hst
end L2

namespace Srt
open PySem PySem.W PyProof.Rows
/-- the tree's end under an oracle; each question is about places below n -/
def Ok (n : Nat) (lt : Nat → Nat → Bool) {α : Type} : KasT α → (α → Prop) → Prop
  | .ret a, Q => Q a
  | .ask i j k, Q => i < n ∧ j < n ∧ Ok n lt (k (lt i j)) Q
section
variable {n : Nat} {lt : Nat → Nat → Bool}
abbrev g (p : Array Nat) (i : Nat) : Nat := p.getD i 0
/-- p holds places below n alone -/
def Bd (n : Nat) (p : Array Nat) : Prop := 0 < n ∧ ∀ i, g p i < n
/-- ascending up to k; not ascending up to k -/
def Up (lt : Nat → Nat → Bool) (p : Array Nat) (k : Nat) : Prop := ∀ i j, i ≤ j → j < k → lt (g p j) (g p i) = false
def Dn (lt : Nat → Nat → Bool) (p : Array Nat) (k : Nat) : Prop := ∀ i j, i ≤ j → j < k → lt (g p i) (g p j) = false
structure Ord (lt : Nat → Nat → Bool) : Prop where
  tr : ∀ a b c, lt b a = false → lt c b = false → lt c a = false
  as : ∀ a b, lt a b = true → lt b a = false
/-- equal keys between a and b -/
def Eqs (lt : Nat → Nat → Bool) (p : Array Nat) (a b : Nat) : Prop := ∀ i j, a ≤ i → i < b → a ≤ j → j < b → lt (g p i) (g p j) = false
end
end Srt

namespace L2
open PySem PySem.Spec PySem.W PyProof.Rows
/-! ### sorted(..) of a short list of pairs of ints -/
def ltP (p q : Int × Int) : Bool := decide (p.1 < q.1) || (decide (p.1 = q.1) && decide (p.2 < q.2))
section
variable {prog : Program} {w : World} {A : Around} {E : Value → Shared → Prop} {s : Shared}
end
section
variable {X : Cx}
end
end L2

namespace L2
/-! ### both, gaps, without: the mathematics -/
/-- what the loop of both keeps: S told so far, A and B the rests -/
structure BothI (S A B A0 B0 : List Pr) : Prop where
  ap : Apart S
  aA : Apart A
  aB : Apart B
  mem : ∀ n, (inP A0 n && inP B0 n) = (inP S n || (inP A n && inP B n))
  gap : ∀ s ∈ S, (∀ p ∈ A, s.2 + 2 ≤ p.1) ∨ (∀ p ∈ B, s.2 + 2 ≤ p.1)
/-- what the loop of gaps keeps: F told so far of the spans T -/
structure GapI (F T : List Pr) (lo hi st : Int) : Prop where
  ap : Apart F
  lt : ∀ s ∈ F, s.2 + 2 ≤ st
  rng : ∀ s ∈ F, lo ≤ s.1 ∧ s.2 ≤ hi
  tk : ∀ p ∈ T, p.2 < st
  fr : st = lo ∨ ∃ p ∈ T, st = p.2 + 1
  ge : lo ≤ st
  mem : ∀ n, lo ≤ n → n ≤ hi → n < st → inP F n = !inP T n
end L2

namespace L2
/-! ### runs of pieces: the mathematics -/
/-- the pieces of a walk: each begins behind the one ahead of it -/
structure Walk (ts : List (Int × Int × Int)) : Prop where
  le : ∀ t ∈ ts, t.1 ≤ t.2.1
  nx : ∀ (i : Nat) a b, ts[i]? = some a → ts[i + 1]? = some b → b.1 = a.2.1 + 1
def pcs (msk : Int → Bool) (ts : List (Int × Int × Int)) (n : Int) : Bool := ts.any fun t => inR n (t.1, t.2.1) && msk t.2.2
/-- what the loop over the pieces keeps: R told of the first i pieces, at where the next one begins -/
structure RunI (R : List Pr) (ts : List (Int × Int × Int)) (msk : Int → Bool) (i : Nat) (at_ : Int) : Prop where
  ap : Apart R
  mem : ∀ n, inP R n = pcs msk (ts.take i) n
  lt : ∀ r ∈ R, r.2 < at_
  few : 2 * R.length ≤ i ∨ (2 * R.length ≤ i + 1 ∧ ∃ R' l, R = R' ++ [l] ∧ l.2 = at_ - 1)
section
variable {R : List Pr} {ts : List (Int × Int × Int)} {msk : Int → Bool} {i : Nat} {at_ : Int} {t : Int × Int × Int}
end
end L2

namespace L2
/-! ### edges: the mathematics -/
/-- each low, and the number behind each high -/
def ends (R : List Pr) : List Int := R.flatMap fun p => [p.1, p.2 + 1]
end L2

namespace L2
open PySem PySem.Spec PyProof.Rows
/-! ### sum of a list of ints; min of five ints -/
section
variable {X : Cx}
end
section
variable {prog : Program} {w : World} {A : Around} {E : Value → Shared → Prop} {s : Shared}
end
section
variable {X : Cx}
end
end L2

namespace L2
open PySem PySem.Spec PyProof.Rows
/-! ### texts: a loop over the signs, join, globals -/
/-- the signs of z, one by one -/
def Its (z : Str) : It := ⟨fun i _ => i < z.cps.size, fun i H x H' => H' = H ∧ ∃ c, z.cps[i]? = some c ∧ x = .str ⟨#[c]⟩, fun i _ => z.cps.size ≤ i⟩
theorem turn_ascii {P : Program} {w : World} {K : PySem.W.Frag} {tg : Expr} (z : Str) (t : Tok) (it : Addr) : Turn P w K tg (Its z) [it] it (fun i h => h.IsStrIter it "str_ascii_iterator" z t i) where
  mem := by simp
  obj := fun i h st b hb => by
    obtain ⟨o, e, c, d⟩ := st
    rw [show b = it by simpa using hb]
    exact ⟨o, e, fun v q => by rw [d] at q; cases q⟩
  keep := fun i h h' ⟨o, e, r⟩ k => ⟨o, k it (by simp) o e, r⟩
  item := by
    intro X hP hw hK hc i pins s σ H E I hf st hg
    subst hP hw hK
    have hlt : i < z.cps.size := hg
    have hi : z.cps[i]? = some z.cps[i] := Array.getElem?_eq_getElem hlt
    obtain ⟨f0, f1, f2, f3, f4, f5⟩ := hf it (by simp)
    refine wpAny_pyNext_ascii_item st hi fun h' st' sb => ?_
    have I1 : Inv X pins σ H { s with heap := h', toks := s.toks + 1 } := I.turned (t' := s.toks + 1) (fun b o hb e => (sb.2 b hb).trans e) f0 f1 f3 f4 f5
    obtain ⟨o, e, c, d⟩ := id st'
    exact ⟨_, rfl, go_of (s := { s with heap := h', toks := s.toks + 1 }) e c d (by decide) ⟨.str ⟨#[z.cps[i]]⟩, H, I1, ⟨_, rfl⟩, ⟨rfl, _, hi, rfl⟩, st', fun b hb => (hf b hb).1⟩⟩
  done := by
    intro X hP hw hK hc i pins s σ H E I hf st hg
    subst hP hw hK
    obtain ⟨f0, f1, f2, f3, f4, f5⟩ := hf it (by simp)
    exact wpAny_pyNext_ascii_end (I.ok.hd hc) st (by simpa using (show z.cps.size ≤ i from hg)) fun h' eb => ⟨rfl, I.turned (t' := s.toks) (fun b o hb e => eb b o hb e) f0 f1 f3 f4 f5⟩
  self := fun _ _ _ _ _ st h => wpAny_pyIter_striter_ascii st h
theorem turn_wide {P : Program} {w : World} {K : PySem.W.Frag} {tg : Expr} (z : Str) (t : Tok) (it : Addr) : Turn P w K tg (Its z) [it] it (fun i h => h.IsStrIter it "str_iterator" z t i) where
  mem := by simp
  obj := fun i h st b hb => by
    obtain ⟨o, e, c, d⟩ := st
    rw [show b = it by simpa using hb]
    exact ⟨o, e, fun v q => by rw [d] at q; cases q⟩
  keep := fun i h h' ⟨o, e, r⟩ k => ⟨o, k it (by simp) o e, r⟩
  item := by
    intro X hP hw hK hc i pins s σ H E I hf st hg
    subst hP hw hK
    have hlt : i < z.cps.size := hg
    have hi : z.cps[i]? = some z.cps[i] := Array.getElem?_eq_getElem hlt
    obtain ⟨f0, f1, f2, f3, f4, f5⟩ := hf it (by simp)
    refine wpAny_pyNext_wide_item st hi fun h' st' sb => ?_
    have I1 : Inv X pins σ H { s with heap := h', toks := s.toks + 1 } := I.turned (t' := s.toks + 1) (fun b o hb e => (sb.2 b hb).trans e) f0 f1 f3 f4 f5
    obtain ⟨o, e, c, d⟩ := id st'
    exact ⟨_, rfl, go_of (s := { s with heap := h', toks := s.toks + 1 }) e c d (by decide) ⟨.str ⟨#[z.cps[i]]⟩, H, I1, ⟨_, rfl⟩, ⟨rfl, _, hi, rfl⟩, st', fun b hb => (hf b hb).1⟩⟩
  done := by
    intro X hP hw hK hc i pins s σ H E I hf st hg
    subst hP hw hK
    obtain ⟨f0, f1, f2, f3, f4, f5⟩ := hf it (by simp)
    exact wpAny_pyNext_wide_end (I.ok.hd hc) st (by simpa using (show z.cps.size ≤ i from hg)) fun h' eb => ⟨rfl, I.turned (t' := s.toks) (fun b o hb e => eb b o hb e) f0 f1 f3 f4 f5⟩
  self := fun _ _ _ _ _ st h => wpAny_pyIter_striter_wide st h
section
variable {X : Cx} {tg : Expr}
def iStr (tl : TE) : PySem.W.Frag → St → Hp → (It → Hp → Prop) → Prop := fun _ σ H R => tl σ H fun x H1 => ∃ z, x = .str z ∧ R (Its z) H1
theorem pi_str {l : Expr} {tl : TE} (hl : PE X l tl) : PI X tg l (iStr tl X.K) := by
  intro pins s σ H R I h
  refine thn (hl pins s σ H _ I h) fun v s1 ⟨x, H1, I1, r1, q1⟩ => ?_
  obtain ⟨z, e, q⟩ := q1
  subst e
  obtain ⟨t, rfl⟩ := r1
  have fpo : ∀ b ∈ [s1.heap.objs.size], FpOk X pins H1 b := fun b hb => by
    rw [show b = s1.heap.objs.size by simpa using hb]
    exact I1.fpOk (Nat.le_refl _) (I1.hok.fresh (Nat.le_refl _))
  cases ha : z.cps.all (· < 128) with
  | true => exact wpAny_pyIter_ascii ha ⟨s1.heap.objs.size, [s1.heap.objs.size], _, _, H1, rfl, I1.kept (t' := s1.toks) fun b o e => Heap.get?_push_of_some _ e, turn_ascii z t _, ⟨_, Heap.get?_push_size _ rfl, rfl, rfl⟩, fpo, q⟩
  | false => exact wpAny_pyIter_wide ha ⟨s1.heap.objs.size, [s1.heap.objs.size], _, _, H1, rfl, I1.kept (t' := s1.toks) fun b o e => Heap.get?_push_of_some _ e, turn_wide z t _, ⟨_, Heap.get?_push_size _ rfl, rfl, rfl⟩, fpo, q⟩
end
theorem for_str {z : Str} {g : TG} {tb : TS} {D : Ends} {σ : St} {H : Hp} (Pv : Nat → St → Hp → Prop) (h0 : Pv 0 σ H)
    (hs : ∀ i c σ H, z.cps.toList[i]? = some c → Pv i σ H → g (.str ⟨#[c]⟩) σ H fun σ2 H2 => tb { D with nx := Pv (i + 1), ct := Pv (i + 1), bk := D.nx } σ2 H2) (hd : ∀ σ H, Pv z.cps.size σ H → D.nx σ H) :
    ∃ W : Nat → Nat → St → Hp → Prop, (∃ m, W 0 m σ H) ∧ ∀ i m σ H, W i m σ H →
      ((Its z).stop i H ∧ D.nx σ H) ∨ ((Its z).go i H ∧ ∃ N : St → Hp → Prop, (∀ σ' H', N σ' H' → ∃ m', m' < m ∧ W (i + 1) m' σ' H') ∧ ∀ x H', (Its z).yld i H x H' → g x σ H' fun σ2 H2 => tb { D with nx := N, ct := N, bk := D.nx } σ2 H2) := by
  refine ⟨fun i m σ H => m = z.cps.size - i ∧ i ≤ z.cps.size ∧ Pv i σ H, ⟨_, rfl, Nat.zero_le _, h0⟩, ?_⟩
  rintro i m σ H ⟨rfl, hi, p⟩
  by_cases hlt : i < z.cps.size
  · refine .inr ⟨hlt, Pv (i + 1), fun σ' H' p' => ⟨z.cps.size - (i + 1), by omega, rfl, hlt, p'⟩, fun x H' y => ?_⟩
    obtain ⟨e, c, y1, y2⟩ := y
    subst e; subst y2
    exact hs i c σ _ (by simpa using y1) p
  · have e : i = z.cps.size := by omega
    subst e
    exact .inl ⟨Nat.le_refl _, hd σ H p⟩
section
variable {X : Cx}
/-- sep.join(xs), xs a list of texts -/
def rJoin (K : PySem.W.Frag) : V → List V → Hp → VK → Prop := fun x vs H Q => ∃ (z : Str) (a : Addr) (ys : List Str), x = .str z ∧ vs = [.ref a] ∧ SqL K H a (ys.map V.str) ∧ z.length ≤ 64 ∧ (ys.map (·.length)).sum + ys.length * 64 ≤ 16777216 ∧ Q (.str (Txt.join z ys)) H
/-- a global whose value is known -/
theorem pe_gl {x : Str} {v : V} {pos : Pos} (hg : Gl X x) (h : ∃ u, X.mg x = some u ∧ RelV v u) (hd : (x == ("__debug__" : Str)) = false := by decide) : PE X (.Name x pos) (tC v) :=
  let ⟨_, m, r⟩ := h
  pe_glob hg m r hd
end
/-- a sign that stands in g -/
def sg (g : Str) (c : Nat) : Bool := !(Builtin.Str.occurrences g ⟨#[c]⟩ 0 g.length 1).isEmpty
def allIn (z g : Str) : Bool := z.cps.toList.all (sg g)
end L2

namespace L2
open PySem PySem.Spec PyProof.Rows PySem.NumText
/-! ### texts of numbers: slices, startswith, int(text), figures -/
section
variable {X : Cx}
/-- z[lo:hi] -/
def rSlS : V → Option Int → Option Int → Hp → VK → Prop := fun x lo hi H Q => ∃ z, x = .str z ∧ z.length ≤ sizeLine ∧ Q (.str (Txt.slice z lo hi)) H
def rStarts : V → List V → Hp → VK → Prop := fun x vs H Q => ∃ z y : Str, x = .str z ∧ vs = [.str y] ∧ Q (.bl (Txt.startswith z y)) H
end
/-! figures -/
/-- figures with no nought ahead -/
structure Figs (cs : List Nat) : Prop where
  all : AllDigits cs
  one : cs.length = 1 ∨ ∃ c r, cs = c :: r ∧ 49 ≤ c
/-- the signs of str(n) -/
def numCs (n : Int) (cs : List Nat) : List Nat := if n < 0 then 45 :: cs else cs
end L2

/-! ### the script's numbers are of a bounded size -/
namespace L2
open PySem PySem.Spec PyProof.Rows PySem.W
theorem op_mulO {X : Cx} : OpR X (binaryOp .Mult) (rI IntMulOk fun i j => .int (i * j)) := opI fun _ _ _ _ _ _ _ hc q => mul_int q hc
end L2

namespace L2
open PySem PySem.Spec PyProof.Rows
/-! ### exceptions of own classes: raised, passed on, caught -/
/-- an exception: its own record and the head of its trace -/
def ExcT (h : Heap) (e T : Addr) (cls a0 : Value) : Prop :=
  ∃ oe vs oT ts, h.get? e = some oe ∧ (oe.cls = cls ∧ vs[0]? = some a0) ∧ oe.data = .fields vs ∧ vs[1]? = some (.ref T) ∧ T ≠ e ∧ h.get? T = some oT ∧ oT.data = .fields ts ∧ ts[3]? = some .none
/-- what a step of a trace changes: the records at X, the slots of the frames at F -/
structure Stp (F X : List Addr) (h h' : Heap) : Prop where
  keep : ∀ b o, b ∉ F → b ∉ X → h.get? b = some o → h'.get? b = some o
  slot : ∀ b o, b ∈ F → h.get? b = some o → ∃ sl, h'.get? b = some { o with slots := sl }
section
variable {M : Model} {A : Around} {E : Value → Shared → Prop} {s : Shared} {base : Heap} {env : Env} {outer : List Env} {L e T : Addr} {oe : Obj} {vs : Array Value} {a0 cls : Value} {Q : Unit → Shared → Prop}
theorem hid_frames {base h : Heap} {l : List Env} (xs : List Addr) (ff : h.FunFrames base l) : h.FunFrames (PySem.W.hideAll h (xs ++ frs l)) l :=
  PySem.W.funFrames_hide ff fun v hv a ha => List.mem_append_right _ (List.mem_filterMap.mpr ⟨v, hv, ha⟩)
theorem new_head {base h h' : Heap} {l : List Env} {xs : List Addr} (ff : h.FunFrames base l) (hT : (PySem.W.hideAll h (xs ++ frs l)).get? T = none) (sl : ∀ b o, b ∈ frs l → h.get? b = some o → ∃ sl, h'.get? b = some { o with slots := sl })
    {oT : Obj} {ts : Array Value} (h1 : h'.get? T = some oT) (h2 : oT.data = .fields ts) : h.get? T = none ∨ T ∈ xs := by
  cases q : h.get? T with
  | none => exact .inl rfl
  | some o =>
    by_cases hx : T ∈ xs
    · exact .inr hx
    · by_cases hF : T ∈ frs l
      · obtain ⟨_, o2, q2, nf⟩ := ff.mem hF
        obtain ⟨sl', q3⟩ := sl T o2 hF q2
        rw [h1] at q3
        have q4 := Option.some.inj q3
        exact absurd (by rw [q4] at h2; exact h2) (nf ts)
      · have z := PySem.W.hideAll_get (xs ++ frs l) q (by simp [hx, hF])
        rw [hT] at z; cases z
/-- the exception lands in a frame: its entry, then out of flight -/
theorem land {E2 : Value → Shared → Prop} (hf : A.frames = some (env :: outer)) (ff : s.heap.FunFrames base (env :: outer)) (hL : env.frame = some L) (x : ExcT s.heap e T cls a0)
    (h : ∀ h' T', Stp (frs (env :: outer)) [e, T] s.heap h' → ExcT h' e T' cls a0 → (s.heap.get? T' = none ∨ T' = T) → Q () { s with heap := h' }) : wpAny M A (noteFrame (.ref e) env) (fun _ s2 => wpAny M A (setFlight (.ref e) none) Q E s2) E2 s := by
  obtain ⟨oe, vs, oT, ts, x1, x2, x3, x4, x5, x6, x7, x8⟩ := x
  refine wpAny_noteFrame_onW (base := PySem.W.hideAll s.heap ([e, T] ++ frs (env :: outer))) hf (hid_frames _ ff) hL ⟨oe, vs, T, oT, ts, x1, x2, x3, x4, PySem.W.hideAll_none _ (by simp), x5, x6, x7, x8⟩ (fun b o q => PySem.W.of_hideAll _ q) (PySem.W.hideAll_none _ (by simp)) fun h1 lw => ?_
  obtain ⟨st1, ff1, tr1, up1⟩ := lw
  refine wpAny_setFlight_noneW (s := { s with heap := h1 }) st1 ff1 tr1 fun h' st ff2 tr up => ?_
  obtain ⟨oe', vs', T', oT', ts', t1, t2, t3, t4, t5, t6, t7, t8, t9⟩ := tr
  have hslot : ∀ b o, b ∈ frs (env :: outer) → s.heap.get? b = some o → ∃ sl, h'.get? b = some { o with slots := sl } := fun b o hb q => by
    obtain ⟨_, o2, q2, nf⟩ := ff.mem hb
    rw [q] at q2; cases q2
    obtain ⟨sl, q3⟩ := up1 b o q nf
    exact ⟨sl, up b _ q3 nf⟩
  refine h h' T' ⟨fun b o hb hx q => st b o (PySem.W.hideAll_get _ q (by simp only [List.mem_append]; exact fun z => z.elim hx hb)), hslot⟩ ⟨oe', vs', oT', ts', t1, t2, t3, t4, t6, t7, t8, t9⟩ ?_
  rcases new_head ff t5 hslot t7 t8 with z | z
  · exact .inl z
  · rcases List.mem_cons.mp z with z | z
    · exact absurd z t6
    · exact .inr (by simpa using z)
theorem flight {l : List Env} (ff : s.heap.FunFrames base l) (x : ExcT s.heap e T cls a0)
    (h : ∀ h' T', Stp (frs l) [e, T] s.heap h' → ExcT h' e T' cls a0 → (s.heap.get? T' = none ∨ T' = T) → Q () { s with heap := h' }) : wpAny M A (setFlight (.ref e) none) Q E s := by
  obtain ⟨oe, vs, oT, ts, x1, x2, x3, x4, x5, x6, x7, x8⟩ := x
  refine wpAny_setFlight_noneW (base := PySem.W.hideAll s.heap ([e, T] ++ frs l)) (fun b o q => PySem.W.of_hideAll _ q) (hid_frames _ ff) ⟨oe, vs, T, oT, ts, x1, x2, x3, x4, PySem.W.hideAll_none _ (by simp), x5, x6, x7, x8⟩ fun h' st ff2 tr up => ?_
  obtain ⟨oe', vs', T', oT', ts', t1, t2, t3, t4, t5, t6, t7, t8, t9⟩ := tr
  have hslot : ∀ b o, b ∈ frs l → s.heap.get? b = some o → ∃ sl, h'.get? b = some { o with slots := sl } := fun b o hb q => by
    obtain ⟨_, o2, q2, nf⟩ := ff.mem hb
    rw [q] at q2; cases q2
    exact ⟨o.slots, up b _ q nf⟩
  refine h h' T' ⟨fun b o hb hx q => st b o (PySem.W.hideAll_get _ q (by simp only [List.mem_append]; exact fun z => z.elim hx hb)), hslot⟩ ⟨oe', vs', oT', ts', t1, t2, t3, t4, t6, t7, t8, t9⟩ ?_
  rcases new_head ff t5 hslot t7 t8 with z | z
  · exact .inl z
  · rcases List.mem_cons.mp z with z | z
    · exact absurd z t6
    · exact .inr (by simpa using z)
end
end L2

namespace L2
open PySem PySem.Spec PyProof.Rows
section
variable {P : Program} {w : World} {H H' : Hp} {h h' : Heap} {a : Addr} {o : HO} {F Y fs : List Addr}
theorem ObjOk.there (x : ObjOk P w H h a o) : ∃ ob, h.get? a = some ob := by
  cases o with
  | lst xs => obtain ⟨_, _, _, _, e⟩ := x; exact ⟨_, e⟩
  | tup xs => obtain ⟨_, _, _, ob, e, _⟩ := x; exact ⟨_, e⟩
  | dK kvs => obtain ⟨_, _, _, _, o, _, _, e, _⟩ := x; exact ⟨_, e⟩
  | dT kvs => obtain ⟨_, _, _, _, o, _, _, e, _⟩ := x; exact ⟨_, e⟩
  | set S n => obtain ⟨o, _, _, _, e, _⟩ := x; exact ⟨_, e⟩
  | ins C dx fs => obtain ⟨_, _, _, e, _⟩ := x; exact ⟨_, e⟩
  | own y => obtain ⟨_, e⟩ := x; exact ⟨_, e⟩
  | xd fs => obtain ⟨_, ⟨_, _, _, e, _⟩, _⟩ := x; exact ⟨_, e⟩
  | rng lo hi => obtain ⟨_, _, _, e⟩ := x; exact ⟨_, e⟩
  | frz ob u => obtain ⟨e, _⟩ := x; exact ⟨_, e⟩
  | tbl ps => exact ⟨_, (show h.get? a = some _ from x)⟩
  | met f y => exact ⟨_, (show h.get? a = some _ from x)⟩
  | ext φ => obtain ⟨_, ⟨_, e⟩, _⟩ := x; exact ⟨_, e⟩
theorem HOk.none_of (x : HOk P w H h) (e : h.get? a = none) : H a = none := by
  cases q : H a with
  | none => rfl
  | some u =>
    obtain ⟨ob, z⟩ := (x a u q).there
    rw [e] at z; cases z
theorem HOk.stp (x : HOk P w H h) (st : Stp F Y h h') (hF : ∀ b ∈ F, H b = none) (hY : ∀ b ∈ Y, H b = none) : HOk P w H h' := fun a o e =>
  (x a o e).stay (fun b u hb q => by
    have hn : H b ≠ none := by
      rcases hb with rfl | hb
      · rw [e]; simp
      · rw [hb]; simp
    exact st.keep b u (fun z => hn (hF b z)) (fun z => hn (hY b z)) q) (fun _ q => q) fun _ _ q => q
theorem Un.stp {H0 : Hp} {h0 : Heap} (u : Un fs [] H0 H h0 h) (st : Stp F Y h h') (h1 : ∀ b o, h0.get? b = some o → b ∈ F → b ∈ fs) (h2 : ∀ b ∈ fs, b ∈ F) (hY : ∀ b ∈ Y, h0.get? b = none) : Un fs [] H0 H h0 h' := by
  have nY : ∀ b o, h0.get? b = some o → b ∉ Y := fun b o q z => by rw [hY b z] at q; cases q
  refine ⟨fun b o q n hb hx => st.keep b o (fun z => hb (h1 b o q z)) (nY b o q) (u.keep b o q n hb hx), fun b o q n hb hx => ?_, u.free, fun b o q hx => ?_, u.tups, u.frzs, u.tbls⟩
  · obtain ⟨sl, q1⟩ := u.slot b o q n hb hx
    obtain ⟨sl2, q2⟩ := st.slot b _ (h2 b hb) q1
    exact ⟨sl2, q2⟩
  · obtain ⟨o1, q1⟩ := u.there b o q hx
    by_cases hF : b ∈ F
    · obtain ⟨sl2, q2⟩ := st.slot b _ hF q1
      exact ⟨_, q2⟩
    · exact ⟨_, st.keep b o1 hF (nY b o q) q1⟩
end
/-- how an exception of an own class lies behind a call -/
def CX1 (P : Program) (w : World) : CXT := fun outer H s E ev s' => ∃ (e T C : Addr) (a0 : Value) (H' : Hp), ev = .ref e ∧ s'.os = s.os ∧ AllBare s'.gens ∧ Un (frs outer) [] H H' s.heap s'.heap ∧ HOk P w H' s'.heap ∧
  ExcT s'.heap e T (.ref C) a0 ∧ s.heap.get? e = none ∧ s.heap.get? T = none ∧ H' e = none ∧ H' T = none ∧ E (.ref C) none H'
/-- a record that is new to a body, not its frame's, not pinned -/
structure NewAt (X : Cx) (pins : List (Addr × Obj)) (H : Hp) (b : Addr) : Prop where
  ent : X.s₀.heap.get? b = none
  unt : H b = none
  loc : b ≠ X.env.locals
  cel : ∀ x c, X.env.cells.lookup x = some c → c ≠ b
  pin : ∀ p ∈ X.pn ++ pins, p.1 ≠ b
section
variable {X : Cx} {pins : List (Addr × Obj)} {σ : St} {H : Hp} {s : Shared} {h' : Heap} {e T : Addr}
/-- what isn't there yet is new to the body -/
theorem Inv.newAt (I : Inv X pins σ H s) (hx : X.ex = []) {b : Addr} (hb : s.heap.get? b = none) : NewAt X pins H b := by
  refine ⟨?_, I.hok.none_of hb, ?_, ?_, ?_⟩
  · cases q : X.s₀.heap.get? b with
    | none => rfl
    | some o =>
      obtain ⟨o', q'⟩ := I.base.there b o q (by rw [hx]; simp)
      rw [hb] at q'; cases q'
  · rintro rfl
    obtain ⟨m, ⟨o, _, _, q, _⟩, _⟩ := I.loc
    rw [hb] at q; cases q
  · rintro x c hc rfl
    obtain ⟨v, o, q, _⟩ := I.cell x c hc
    rw [hb] at q; cases q
  · rintro p hp rfl
    obtain ⟨q, _⟩ := I.pin p hp
    rw [hb] at q; cases q
theorem Inv.excStep (I : Inv X pins σ H s) (hx : X.ex = []) (st : Stp (frs X.stack) [e, T] s.heap h') (ne : NewAt X pins H e) (nT : NewAt X pins H T) : Inv X pins σ H { s with heap := h' } := by
  have nY : ∀ b ∈ [e, T], NewAt X pins H b := fun b hb => by
    rcases List.mem_cons.mp hb with rfl | hb
    · exact ne
    · rw [show b = T by simpa using hb]; exact nT
  have hsub : ∀ b, b ≠ X.env.locals → b ∉ X.fs → b ∉ frs X.stack := fun b h1 h2 z => (List.mem_cons.mp (I.stkSub b z)).elim h1 h2
  have entY : ∀ b o, X.s₀.heap.get? b = some o → b ∉ [e, T] := fun b o q z => by rw [(nY b z).ent] at q; cases q
  have neL : ∀ b o, X.s₀.heap.get? b = some o → b ≠ X.env.locals := fun b o q => Nat.ne_of_lt (Nat.lt_of_lt_of_le (Heap.lt_size q) I.ok.above)
  have any : ∀ b o, b ∉ [e, T] → s.heap.get? b = some o → ∃ sl, h'.get? b = some { o with slots := sl } := fun b o hy q => by
    by_cases hF : b ∈ frs X.stack
    · exact st.slot b o hF q
    · exact ⟨o.slots, st.keep b o hF hy q⟩
  have cellK : ∀ x c, X.env.cells.lookup x = some c → ∀ v, s.heap.IsCell c v → h'.IsCell c v := fun x c ec v ⟨o, ho, hd⟩ => by
    obtain ⟨sl, q⟩ := any c o (fun z => (nY c z).cel x c ec rfl) ho
    exact ⟨_, q, hd⟩
  refine ⟨I.ok, I.os, I.bare, ⟨fun b o q n hb hxx => ?_, fun b o q n hb hxx => ?_, I.base.free, fun b o q hxx => ?_, I.base.tups, I.base.frzs, I.base.tbls⟩, ?_, fun x c ec => ?_, I.free, I.freeC, fun p hp => ?_, I.hok.stp st I.stkFree (fun b hb => (nY b hb).unt), I.len⟩
  · exact st.keep b o (hsub b (neL b o q) hb) (entY b o q) (I.base.keep b o q n hb hxx)
  · obtain ⟨sl, q1⟩ := I.base.slot b o q n hb hxx
    obtain ⟨sl2, q2⟩ := any b _ (entY b o q) q1
    exact ⟨sl2, q2⟩
  · obtain ⟨o1, q1⟩ := I.base.there b o q hxx
    obtain ⟨sl2, q2⟩ := any b _ (entY b o q) q1
    exact ⟨_, q2⟩
  · obtain ⟨m, ⟨oL, es, ep, hoL, r⟩, hl⟩ := I.loc
    obtain ⟨sl, q⟩ := any X.env.locals oL (fun z => (nY _ z).loc rfl) hoL
    refine ⟨m, ⟨_, es, ep, q, r⟩, fun i x v e1 e2 e3 => ?_⟩
    obtain ⟨u, ru, l⟩ := hl i x v e1 e2 e3
    refine ⟨u, ru, ?_⟩
    rcases l with l | ⟨k, c, ec, z⟩
    · exact .inl l
    · exact .inr ⟨k, c, ec, cellK x c ec _ z⟩
  · obtain ⟨v, z⟩ := I.cell x c ec
    exact ⟨v, cellK x c ec v z⟩
  · obtain ⟨q, n, nL, nf, d⟩ := I.pin p hp
    exact ⟨st.keep p.1 p.2 (hsub p.1 nL nf) (fun z => (nY _ z).pin p hp rfl) q, n, nL, nf, d⟩
end
/-! raise -/
/-- a class of the text below a built-in exception -/
structure ExcCls (K : PySem.W.Frag) (C : Addr) : Prop where
  ex : ∃ (bmB bmN : List Value) (newId B Bn nid initId inN : String), PySem.W.excIn K C bmB newId = true ∧ ExcBaseFacts Bn newId inN bmN ∧ bmB.contains (Value.type Bn) = true ∧ ExcBaseFacts B nid initId bmB
theorem ExcCls.value {K : PySem.W.Frag} {C : Addr} (h : PySem.W.excIn K C [.type "ValueError", .type "Exception", .type "BaseException", .type "object"] "ValueError.__new__" = true) : ExcCls K C :=
  ⟨_, _, _, _, _, _, _, _, h, PySem.F.excBase_ValueError, by decide, PySem.F.excBase_ValueError⟩
theorem ExcCls.obj {K : PySem.W.Frag} {C : Addr} {h : Heap} {bmB : List Value} {newId : String} (KI : K.In h) (e : PySem.W.excIn K C bmB newId = true) : ∃ bm N nm q bs hdct sn sub ab col dd k0 k1 k2 k3 k5 mN,
      h.get? C = some (excClassObj nm q C N bs bm hdct sn sub ab col dd k0 k1 k2 k3 k5 newId) ∧ h.Ns N mN ∧ mN "__init__" = none ∧ OwnTail h bmB bm := by
  unfold PySem.W.excIn at e
  split at e
  · rename_i dd cd sl lk
    split at e
    · rename_i C' bm k0 k1 k2 k3 n k5 em es
      simp only [Bool.and_eq_true, beq_iff_eq, Bool.not_eq_true'] at e
      obtain ⟨⟨⟨⟨⟨rfl, rfl⟩, hd⟩, ht⟩, hn⟩, hi⟩ := e
      obtain ⟨nm, bs, mro, ns, q, hdct, sn, sub, ab, col, hdel⟩ := cd
      dsimp only at em hd ht hn hi
      subst em hd
      have hsl : sl = #[k0, k1, k2, k3, some (Value.builtin n), k5] := by
        apply Array.toList_inj.mp
        rw [es]
      subst hsl
      exact ⟨bm, ns, nm, q, bs, hdct, sn, sub, ab, col, dd, k0, k1, k2, k3, k5, _, KI _ _ lk, Heap.Ns.of_isNs (PySem.W.isNs_of_in KI hn), PySem.W.nsMap_none_of_in KI hn hi, PySem.W.tail_of_in KI ht⟩
    · cases e
  · cases e
section
variable {P : Program} {w : World} {K : PySem.W.Frag} {mg : Str → Option Value} {base : Heap} {N : List Str} {qual : Str} {scope : Scope} {f : Addr} {cd : Value} {A : Around} {outer : List Env} {s0 : Shared} {H0 : Hp} {E : XK}
def tRaise (C : Addr) (E : XK) (t : TA) : TS := fun _ σ H => t σ H fun vs H1 => vs.length ≤ sizeLine ∧ E (.ref C) none H1
end
end L2

namespace L2
open PySem PySem.Spec PyProof.Rows
/-! ### a call that may raise; try with one except clause -/
/-- behind an exception, in the frame that sees it -/
def XP (X : Cx) (pins : List (Addr × Obj)) (σ : St) (EX : Addr → Hp → Prop) (ev : Value) (s' : Shared) : Prop :=
  ∃ (e T C : Addr) (a0 : Value) (H' : Hp), ev = .ref e ∧ Inv X pins σ H' s' ∧ ExcT s'.heap e T (.ref C) a0 ∧ NewAt X pins H' e ∧ NewAt X pins H' T ∧ EX C H'
abbrev TX := St → Hp → VK → (Addr → Hp → Prop) → Prop
def PEX (X : Cx) (e : Expr) (t : TX) : Prop :=
  ∀ (pins : List (Addr × Obj)) (s : Shared) (σ : St) (H : Hp) (Q : VK) (EX : Addr → Hp → Prop), Inv X pins σ H s → t σ H Q EX → wpAny (model X.prog X.w) X.A (eval e X.env) (EP X pins σ Q) (XP X pins σ EX) s
/-- a def that may raise, bundled -/
def CalleeX (P : Program) (w : World) (K : PySem.W.Frag) (mg : Str → Option Value) (base : Heap) (k : Nat) (x : Str) (ps : List Str) (sp : Sp) : Prop :=
  ∃ f fd, FnOk P w K mg base (CX1 P w) k f fd ps sp ∧ Binds K fd ps [] ∧ PySem.W.keepIn K (.ref f) = true ∧ mg x = some (.ref f)
theorem CalleeX.mono {P : Program} {w : World} {K : PySem.W.Frag} {mg : Str → Option Value} {base : Heap} {j k : Nat} {x : Str} {ps : List Str} {sp : Sp} (C : CalleeX P w K mg base j x ps sp) (h : j ≤ k) : CalleeX P w K mg base k x ps sp :=
  let ⟨f, fd, F, r⟩ := C
  ⟨f, fd, F.mono h, r⟩
section
variable {X : Cx} {pins : List (Addr × Obj)} {σ : St} {H : Hp} {s s' : Shared}
/-- an exception of a callee comes back -/
theorem Inv.afterX {E : XK} {EX : Addr → Hp → Prop} {ev : Value} (I : Inv X pins σ H s) (hx : X.ex = []) (hE : ∀ C H', E (.ref C) none H' → EX C H') (h : CX1 X.prog X.w X.stack H s E ev s') : XP X pins σ EX ev s' := by
  obtain ⟨e, T, C, a0, H', rfl, os, bare, un, hok, x, ne, nT, he, hT, q⟩ := h
  have I' : Inv X pins σ H' s' := I.call' (ch := []) os un hok bare fun b z => absurd z (by simp)
  have a := I.newAt hx ne
  have b := I.newAt hx nT
  exact ⟨e, T, C, a0, H', rfl, I', x, ⟨a.ent, he, a.loc, a.cel, a.pin⟩, ⟨b.ent, hT, b.loc, b.cel, b.pin⟩, hE _ _ q⟩
end
section
variable {X : Cx} {k : Nat} {x : Str} {ps : List Str} {sp : Sp} {e : Expr} {es : List Expr} {t : TA} {p pos : Pos}
def tFnX (sp : Sp) (t : TA) : TX := fun σ H Q EX => t σ H fun vs H1 => sp vs H1 Q fun cv _ H2 => ∃ C, cv = .ref C ∧ EX C H2
theorem pex_fn (C : CalleeX X.prog X.w X.K X.mg X.base k x ps sp) (hr : Room k X.A) (hx : X.ex = []) (hg : Gl X x) (ha : PA X.nox (e :: es) t) (hdb : (x == ("__debug__" : Str)) = false := by decide)
    (he : starEach (e :: es) X.env = (false, eval e X.env) :: starEach es X.env := by rfl) (hpl : (backTo pos (starEach es X.env)).any (·.1) = false := by rfl) : PEX X (.Call (.Name x p) (e :: es) [] pos) (tFnX sp t) := by
  obtain ⟨f, fd, F, b, kk, m⟩ := C
  intro pins s σ H Q EX I h
  refine wpAny_Call_Name_kw (ld_glob I hg m ?_ hdb)
  refine PySem.W.callWith_K (h₀ := X.base) I.ok.mod.kin kk (wpAny_mono (ha pos pins s σ H _ (I.wish _) h) (fun us s1 ⟨vs, H1, I1, r, q⟩ => ⟨I1.kIn, ?_⟩) fun _ _ z => False.elim z) he hpl
  have J : Inv X pins σ H1 s1 := I1.unwish
  have hl : us.length = ps.length := by rw [← r.length]; exact F.len _ _ _ _ q
  have bt : BindsTo s1 fd ⟨us, []⟩ (ps.zip us) := by
    have z := b s1 us J.kIn (by rw [List.append_nil]; exact hl)
    rw [List.append_nil] at z
    exact z
  refine wpAny_call (codeAny_mono (F.run X.A X.stack s1 H1 ⟨us, []⟩ us vs Q _ hr J.env0 bt r q) fun r s' hq => ?_)
  cases r with
  | error ev => exact J.afterX (E := fun cv _ H2 => ∃ C, cv = .ref C ∧ EX C H2) hx (fun C H' z => by obtain ⟨C', e1, z⟩ := z; cases e1; exact z) hq
  | ok fl =>
    cases fl with
    | ret u => exact J.after hq
    | next => exact False.elim hq
    | brk => exact False.elim hq
    | cont => exact False.elim hq
abbrev TSX := Ends → St → Hp → (Addr → Hp → Prop) → Prop
/-- a statement that may raise, at the state it was begun with -/
def PSX (X : Cx) (st : Stmt) (t : TSX) : Prop :=
  ∀ (pins : List (Addr × Obj)) (s : Shared) (σ : St) (H : Hp) (D : Ends) (EX : Addr → Hp → Prop), Inv X pins σ H s → t D σ H EX → wpAny (model X.prog X.w) X.A (exec st X.env) (SP X pins D) (XP X pins σ EX) s
def tSetX (i : Nat) (te : TX) : TSX := fun D σ H EX => te σ H (fun v H1 => D.nx (σ.set i (some v)) H1) EX
theorem psx_set {i : Nat} {y : Str} {e : Expr} {te : TX} {pos' : Pos} (hN : X.N.Nodup) (hi : X.N[i]? = some y) (hx : Loc X.env.scope y) (he : PEX X e te) (hs : swapsWith e (some (.Name y pos')) pos.line X.env = pure false := by rfl) (hf : X.fn y = true ∨ X.env.scope.names.lookup y = some .local := by first | exact .inl rfl | exact .inr rfl | assumption) :
    PSX X (.Assign [.Name y pos'] e pos) (tSetX i te) := by
  intro pins s σ H D EX I h
  refine wpAny_Assign_Name (thn (he pins s σ H _ EX I h) fun v s1 ⟨y, H1, I1, r1, q1⟩ => ?_) hs
  exact store_ok I1 hN hi hx r1 (fun s2 I2 => ⟨_, H1, I2, q1⟩) hf
def tDropX (te : TX) : TSX := fun D σ H EX => te σ H (fun _ H1 => D.nx σ H1) EX
end
/-! the except suite -/
/-- its context: the exception is handled, its record is pinned -/
def sfx (X : Cx) (e : Addr) (oe : Obj) : Cx := { X with A := X.A.mark (some (.ref e)), calm := false, pn := (e, oe) :: X.pn, xe := fun _ _ => False }
section
variable {X : Cx} {pins : List (Addr × Obj)} {σ : St} {H : Hp} {s s' : Shared} {e : Addr} {oe : Obj}
theorem Inv.suite (I : Inv X pins σ H s) (he : s.heap.get? e = some oe) (hn : NewAt X pins H e) (hd : ∀ v, oe.data ≠ .cell v) (hf : e ∉ X.fs) : Inv (sfx X e oe) pins σ H s := by
  refine ⟨⟨I.ok.mod, I.ok.kind, I.ok.glob, I.ok.blt, I.ok.above, I.ok.inj, I.ok.has, I.ok.cab, fun z => absurd z Bool.false_ne_true, I.ok.frames, I.ok.stk, I.ok.exf, I.ok.bs, I.ok.bsz, I.ok.noex, I.ok.exfs, I.ok.funs, I.ok.frf⟩, I.os, I.bare, I.base, I.loc, I.cell, I.free, I.freeC, fun p hp => ?_, I.hok, I.len⟩
  rcases List.mem_cons.mp (show p ∈ (e, oe) :: (X.pn ++ pins) from hp) with rfl | hp
  · exact ⟨he, hn.unt, hn.loc, hf, hd⟩
  · exact I.pin p hp
theorem Inv.unsuite (ok : X.Ok) (I : Inv (sfx X e oe) pins σ H s) : Inv X pins σ H s :=
  ⟨ok, I.os, I.bare, I.base, I.loc, I.cell, I.free, I.freeC, fun p hp => I.pin p (List.mem_cons_of_mem (e, oe) hp), I.hok, I.len⟩
theorem Inv.excObj (I : Inv (sfx X e oe) pins σ H s) : s.heap.get? e = some oe := (I.pin (e, oe) (List.mem_append_left _ List.mem_cons_self)).1
/-- the frame's map has changed at one name -/
theorem Inv.unbound {i : Nat} {x : Str} {m : Str → Option Value} {u : Option Value} {h' : Heap} (I : Inv X pins σ H s) (hi : X.N[i]? = some x) (hN : X.N.Nodup) (hm : s.heap.Ns X.env.locals m) (ns : h'.Ns X.env.locals fun y => if y = x then u else m y) (hs : Heap.SameBut X.env.locals s.heap h') :
    Inv X pins (σ.set i none) H { s with heap := h' } := by
  have cne := I.cne
  obtain ⟨oL, _, _, hoL, _⟩ := id hm
  refine ⟨I.ok, I.os, I.bare, ⟨fun b o e n hb hx => ?_, fun b o e n hb hx => ?_, I.base.free, fun b o e hx => ?_, I.base.tups, I.base.frzs, I.base.tbls⟩, ⟨_, ns, fun j y v' e1 e2 e3 => ?_⟩, fun y c e => ?_, I.free, I.freeC, fun p hp => ?_, ?_, by simpa using I.len⟩
  · exact (hs.2 b (Nat.ne_of_lt (Nat.lt_of_lt_of_le (Heap.lt_size e) I.ok.above))).trans (I.base.keep b o e n hb hx)
  · obtain ⟨sl, e1⟩ := I.base.slot b o e n hb hx
    exact ⟨sl, (hs.2 b (Nat.ne_of_lt (Nat.lt_of_lt_of_le (Heap.lt_size e) I.ok.above))).trans e1⟩
  · obtain ⟨o', e1⟩ := I.base.there b o e hx
    exact ⟨o', (hs.2 b (Nat.ne_of_lt (Nat.lt_of_lt_of_le (Heap.lt_size e) I.ok.above))).trans e1⟩
  · by_cases hj : j = i
    · subst hj
      by_cases hlt : j < σ.length
      · rw [List.getElem?_set_self hlt] at e2; cases e2
      · rw [List.getElem?_eq_none (by simpa using hlt)] at e2; cases e2
    · rw [List.getElem?_set_ne (Ne.symm hj)] at e2
      obtain ⟨m2, hm2, hl⟩ := I.loc
      obtain ⟨u', r', q⟩ := hl j y v' e1 e2 e3
      have em : m2 = m := by rw [hm2.eq_nsMap, hm.eq_nsMap]
      subst em
      refine ⟨u', r', ?_⟩
      rcases q with ⟨k, e⟩ | ⟨k, c, e, z⟩
      · refine .inl ⟨k, ?_⟩
        have : y ≠ x := fun e => hj (nodup_ix hN e1 (e ▸ hi))
        simp [this, e]
      · exact .inr ⟨k, c, e, z.sameBut hs (cne y c e)⟩
  · obtain ⟨w', z⟩ := I.cell y c e
    exact ⟨w', z.sameBut hs (cne y c e)⟩
  · obtain ⟨e, n, ne, nf, d⟩ := I.pin p hp
    exact ⟨(hs.2 p.1 ne).trans e, n, ne, nf, d⟩
  · intro b ob e
    refine (I.hok b ob e).stay (fun c w' hc q => (hs.2 c ?_).trans q) (fun _ q => q) fun _ _ q => q
    rintro rfl
    rcases hc with rfl | hc
    · rw [I.free] at e; cases e
    · rw [I.free] at hc; cases hc
end

section
variable {X : Cx} {pins : List (Addr × Obj)} {σ : St} {H : Hp} {s : Shared}
/-- behind the suite: the name is unbound -/
theorem unbind_ok {M : Model} {A : Around} {E : Value → Shared → Prop} {i : Nat} {x : Str} {pos : Pos} {Q : Unit → Shared → Prop} (I : Inv X pins σ H s) (hN : X.N.Nodup) (hi : X.N[i]? = some x) (hk : X.env.scope.names.lookup x = some .local)
    (h : ∀ s', Inv X pins (σ.set i none) H s' → Q () s') : wpAny M A (do bindName X.env x Value.none; unbindBehindTheSuite X.env x pos) Q E s := by
  refine wpAny_bind (wpAny_bindName (store_ok I hN hi (.inl hk) (v := .non) (u := Value.none) rfl (fun s1 I1 => ?_) (.inr hk)))
  refine wpAny_onRaise ?_
  obtain ⟨m, hm, hl⟩ := I1.loc
  have hiσ : i < σ.length := by rw [I.len]; exact (List.getElem?_eq_some_iff.mp hi).1
  obtain ⟨u, ru, l⟩ := hl i x .non hi (by rw [List.getElem?_set_self hiσ]) (.inl hk)
  have hcls : (X.env.scope.kind == .class || (X.env.scope.kind == .module && X.env.locals != X.env.globals)) = false := by rw [I.ok.kind]; rfl
  rcases l with ⟨k, em⟩ | ⟨k, _⟩
  · refine wpAny_unbindName_local hk hm em hcls fun h' v ns sb => ?_
    have J := I1.unbound hi hN hm ns sb
    rw [List.set_set] at J
    exact h _ J
  · exfalso
    have hk' : X.env.kindOf x = some .local := hk
    rcases k with k | k
    · rw [hk'] at k; cases k
    · rw [hk'] at k; cases k
end
def tTry (i : Nat) (B : Addr) (K : PySem.W.Frag) (G : Addr → Prop) (tb : TSX) (ts : Addr → Addr → TS) : TS := fun D σ H => tb D σ H fun C H1 => PySem.W.exmOne K (.ref C) (.ref B) = some true ∧ G C ∧
  ∀ e, ts C e { nx := fun σ' H' => D.nx (σ'.set i none) H', rt := D.rt, bk := fun σ' H' => D.bk (σ'.set i none) H', ct := fun σ' H' => D.ct (σ'.set i none) H' } (σ.set i (some (.ref e))) H1
section
variable {X : Cx} {st b₀ : Stmt} {su : List Stmt} {tb : TSX} {ts : Addr → Addr → TS} {Tn n : Str} {B : Addr} {i : Nat} {np hpos pos : Pos}
theorem ps_try {G : Addr → Prop} (hb : PSX X st tb) (hx : X.ex = []) (hst : X.stack = X.env :: X.outer) (hfr : X.env.frame = some X.env.locals) (hg : Gl X Tn) (hm : X.mg Tn = some (.ref B)) (hN : X.N.Nodup) (hi : X.N[i]? = some n) (hk : X.env.scope.names.lookup n = some .local)
    (hs : ∀ (C e : Addr) (oe : Obj), G C → oe.cls = .ref C → PSs (sfx X e oe) (b₀ :: su) (ts C e)) (hdb : (Tn == ("__debug__" : Str)) = false := by decide) :
    PS X (.Try [st] [.ExceptHandler (some (.Name Tn np)) (some n) (b₀ :: su) hpos] [] [] pos) (tTry i B X.K G tb ts) := by
  intro pins s σ H D I h
  refine wpAny_Try_except ?_
  refine wpAny_execs_cons (wpAny_mono (hb pins s σ H D _ I h) (fun f s1 q => ?_) fun ev s1 q => ?_)
  · cases f with
    | next => exact wpAny_execs_nil (wpAny_execs_nil q)
    | ret v => exact q
    | brk => exact q
    | cont => exact q
  obtain ⟨e, T, C, a0, H1, rfl, I1, x, ne, nT, hex, hG, q⟩ := q
  have fr1 : X.A.frames = some (X.env :: X.outer) := by rw [← hst]; exact I1.ok.frames
  have ff1 : s1.heap.FunFrames X.base (X.env :: X.outer) := by rw [← hst]; exact I1.stack
  refine land fr1 ff1 hfr x fun h2 T2 st2 x2 hT2 => ?_
  rw [← hst] at st2
  have I2 := I1.excStep hx st2 ne nT
  have nT2 : NewAt X pins H1 T2 := by
    rcases hT2 with z | z
    · exact I1.newAt hx z
    · rw [z]; exact nT
  -- the exception's record
  have notFs : ∀ {b : Addr} {o : Obj} {vs : Array Value} {hh : Heap}, hh.FunFrames X.base X.stack → hh.get? b = some o → o.data = .fields vs → b ∉ X.fs := fun {b o vs hh} ff g d z => by
    have z' : b ∈ frs X.stack := by rw [hst]; unfold frs; rw [List.filterMap_cons, hfr]; exact List.mem_cons_of_mem _ z
    obtain ⟨_, o2, g2, nf⟩ := ff.mem z'
    rw [g] at g2; cases g2
    exact nf vs d
  have I2' := I2
  obtain ⟨oe, vs, oT, ts2, y1, ⟨y2, y2'⟩, y3, y4, y5, y6, y7, y8⟩ := id x2
  have S2 : Inv (sfx X e oe) pins σ H1 { s1 with heap := h2 } := I2.suite y1 ne (fun v z => by rw [y3] at z; cases z) (notFs I2.stack y1 y3)
  refine wpAny_handleBy_cons ?_ (by intro z; cases z)
  refine codeAny_handlers_test (ld_glob (X := sfx X e oe) S2 hg hm ?_ hdb)
  refine PySem.W.exm_one (h := h2) S2.kIn (fun A' Q' E' s' k r => by
    have z := wpAny_typeOf_ref (M := model X.prog X.w) (A := A') (E := E') (Q := Q') (k _ _ y1)
    rw [y2] at z
    exact z r) hex _ _ _ _ (fun b o g => g) ?_
  rw [if_pos rfl]
  refine codeAny_handlers_suite_as ?_
  refine flight (s := { s1 with heap := h2 }) (l := X.stack) I2.stack x2 fun h3 T3 st3 x3 hT3 => ?_
  have I3 := I2.excStep hx st3 ne nT2
  obtain ⟨oe3, vs3, oT3, ts3, z1, ⟨z2, z2'⟩, z3, z4, z5, z6, z7, z8⟩ := id x3
  have S3 : Inv (sfx X e oe3) pins σ H1 { s1 with heap := h3 } := I3.suite z1 ne (fun v z => by rw [z3] at z; cases z) (notFs I3.stack z1 z3)
  refine store_ok (X := sfx X e oe3) S3 hN hi (.inl hk) (v := .ref e) (u := .ref e) rfl (fun s4 S4 => ?_) (.inr hk)
  refine wpAny_mono (hs C e oe3 hG z2 pins s4 _ H1 _ S4 (q e)) (fun fl s5 q5 => ?_) fun _ _ z => False.elim z
  cases fl with
  | next =>
    obtain ⟨σ5, H5, S5, q5⟩ := q5
    exact unbind_ok (S5.unsuite I.ok) hN hi hk fun s6 I6 => ⟨_, H5, I6, q5⟩
  | brk =>
    obtain ⟨σ5, H5, S5, q5⟩ := q5
    exact unbind_ok (S5.unsuite I.ok) hN hi hk fun s6 I6 => ⟨_, H5, I6, q5⟩
  | cont =>
    obtain ⟨σ5, H5, S5, q5⟩ := q5
    exact unbind_ok (S5.unsuite I.ok) hN hi hk fun s6 I6 => ⟨_, H5, I6, q5⟩
  | ret u =>
    obtain ⟨v, σ5, H5, S5, r5, q5⟩ := q5
    exact unbind_ok (S5.unsuite I.ok) hN hi hk fun s6 I6 => ⟨v, _, H5, I6, r5, q5⟩
end
end L2

namespace L2
open PySem PySem.Spec PyProof.Rows
/-! ### isinstance of an exception of an own class -/
/-- what a class must have: below a built-in exception, no hooks of its own -/
structure ExcLook (K : PySem.W.Frag) (C : Addr) : Prop where
  ga : PySem.W.findIn K (.ref C) "__getattribute__" = some (some (.builtin "BaseException.__getattribute__"))
  hk : PySem.W.findIn K (.ref C) "__getattr__" = some none
  cl : PySem.W.findIn K (.ref C) "__class__" = some (some (.builtin "object.__class__"))
  gt : PySem.W.specialIn K (.builtin "object.__class__") "__get__" = some (some (.builtin "getset_descriptor.__get__"))
  tk : PySem.W.takesIn K (.builtin "object.__class__") = some true
  ob : PySem.W.mroIn K C (.type "object") = some true
  be : PySem.W.mroIn K C (.type "BaseException") = some true
  me : PySem.W.kitCls K (.ref C) (.ref C) = some true
section
variable {prog : Program} {w : World} {A : Around} {E : Value → Shared → Prop} {s : Shared} {K : PySem.W.Frag} {e C : Addr} {oe : Obj}
theorem looks_type {hh : Heap} (g : hh.get? e = some oe) (c : oe.cls = .ref C) {M : Model} : PySem.W.Looks M hh (typeOf (.ref e)) (.ref C) := fun A' Q' E' s' k r => by
  have z := wpAny_typeOf_ref (M := M) (A := A') (E := E') (Q := Q') (k _ _ g)
  rw [c] at z
  exact z r
theorem exc_class_get {R : Result → Shared → Prop} {tp : Value} (KI : K.In s.heap) (g : s.heap.get? e = some oe) (c : oe.cls = .ref C) (hm : PySem.W.mroIn K C (.type "object") = some true) (h : R (.ok (.ret (.ref C))) s) :
    codeAny (model prog w) A (.call (.builtin "getset_descriptor.__get__") ⟨[.builtin "object.__class__", .ref e, tp], []⟩) R s := by
  have L0 : ∀ {M : Model}, PySem.W.Looks M s.heap (typeOf (.ref e)) (.ref C) := looks_type g c
  have L1 : ∀ {M : Model}, PySem.W.Looks M s.heap (isSubtype (.ref C) (.type "object")) true := PySem.W.looks_mroIn KI hm
  refine codeAny_call_builtin PySem.W.KF.slot_gs.plain PySem.W.KF.entry_gs (PySem.W.KF.slot_gs.check _ _ _ _ _ _ _ _ PySem.W.KF.type_class (PySem.W.KF.args_gs _ _ tp) ?_)
  show wpAny _ _ (do let __x ← Builtin.Getset_descriptor.descrGetArgs ⟨[.builtin "object.__class__", .ref e, tp], []⟩; match __x with | (d, obj, snd) => Builtin.Getset_descriptor.descrGetter d obj) _ _ s
  rw [PySem.W.dga_obj]
  refine wpAny_bind (wpAny_pure ?_)
  show wpAny _ _ (do Builtin.Getset_descriptor.descrCheckInstance (.builtin "object.__class__") (.ref e); again (Code.builtin "object.__class__" ⟨[.ref e], []⟩)) _ _ s
  have dn : Builtin.Getset_descriptor.descrNameAndClass (.builtin "object.__class__") = pure (Str.ofString "__class__", Value.type "object") := by
    show pure (Str.ofString (Builtin.Getset_descriptor.descrOwnerAndName "object.__class__").2, Value.type (Builtin.Getset_descriptor.descrOwnerAndName "object.__class__").1) = _
    rw [PySem.W.KF.owner_class]
  unfold Builtin.Getset_descriptor.descrCheckInstance
  rw [dn]
  refine wpAny_bind (wpAny_bind (wpAny_pure ?_))
  refine wpAny_bind (wpAny_bind (L0 _ _ _ _ (fun _ _ q => q) (L1 _ _ _ _ (fun _ _ q => q) ?_)))
  refine wpAny_ite_false rfl (wpAny_pure ?_)
  refine wpAny_pure ⟨Code.quiet_builtin _ (by decide +kernel), codeAny_builtin PySem.W.KF.entry_class ?_⟩
  refine wpAny_bind (wpAny_bind (L0 _ _ _ _ (fun _ _ q => q) ?_))
  refine wpAny_ite_false rfl (wpAny_pure (wpAny_pure h))
theorem exc_check {M : Model} {nameV : Value} {Q : Unit → Shared → Prop} (KI : K.In s.heap) (g : s.heap.get? e = some oe) (c : oe.cls = .ref C) (hm : PySem.W.mroIn K C (.type "BaseException") = some true) (h : Q () s) :
    wpAny M A (checkBuiltinCall "BaseException.__getattribute__" ⟨[.ref e, nameV], []⟩) Q E s := by
  have hk : builtinKind "BaseException.__getattribute__" = some .slot := by decide +kernel
  have hsp : splitId "BaseException.__getattribute__" = some ("BaseException", "__getattribute__") := by decide +kernel
  have ha := PySem.F.args_bexc_ga (.ref e) nameV
  unfold checkBuiltinCall
  rw [hk, hsp]
  refine wpAny_bind (wpAny_bind (looks_type g c _ _ _ _ (fun _ _ q => q) (PySem.W.looks_mroIn KI hm _ _ _ _ (fun _ _ q => q) ?_)))
  refine wpAny_ite_false rfl ?_
  unfold argsOk at ha
  generalize Manifest.signature? "BaseException.__getattribute__" = sg at ha ⊢
  cases sg with
  | none => exact wpAny_pure h
  | some sig => exact wpAny_of_eq ha h
theorem exc_class {Q : Option Value → Shared → Prop} (KI : K.In s.heap) (X : ExcLook K C) (g : s.heap.get? e = some oe) (c : oe.cls = .ref C) (h : Q (some (.ref C)) { s with toks := s.toks + 1 }) : wpAny (model prog w) A (getAttr? (.ref e) "__class__") Q E s := by
  have L0 : ∀ {M : Model}, PySem.W.Looks M s.heap (typeOf (.ref e)) (.ref C) := looks_type g c
  refine wpAny_bind (wpAny_mkText (wpAny_bind (wpAny_attempt (wpAny_holding (wpAny_bind (L0 _ _ _ _ (fun _ _ q => q) (wpAny_bind (PySem.W.looks_findIn KI X.ga _ _ _ _ (fun _ _ q => q) ?_))))))))
  refine wpAny_ite_false rfl ?_
  refine wpAny_bind ?_
  show wpAny _ _ (if onTheHeap (.ref C) = true then typeLookup (.ref C) "__getattr__" else pure none) _ _ _
  refine wpAny_ite_true rfl (PySem.W.looks_findIn KI X.hk _ _ _ _ (fun _ _ q => q) ?_)
  refine wpAny_bind (wpAny_attempt (wpAny_holding ?_))
  show wpAny _ _ (if (false && onTheHeap (.builtin "BaseException.__getattribute__")) = true then _ else boundAndCalled (.builtin "BaseException.__getattribute__") (.ref e) (Value.str (Str.ofString "__class__") s.toks)) _ _ _
  refine wpAny_ite_false rfl (wpAny_bind (wpAny_of_eq (PySem.F.attr_ValueError.ga.bind (.ref e)) (wpAny_call ?_)))
  refine codeAny_call_builtin PySem.F.attr_ValueError.ga.plain PySem.F.entry_bexc_ga (exc_check (s := { s with toks := s.toks + 1 }) KI g c X.be ?_)
  refine wpAny_bind (wpAny_of_eq (show slotArgs "__getattribute__" 1 ⟨[.ref e, Value.str (Str.ofString "__class__") s.toks], []⟩ = pure (Value.ref e, [Value.str (Str.ofString "__class__") s.toks]) from rfl) ?_)
  refine wpAny_bind (wpAny_of_eq (show Builtin.ObjectAttr.attrName (Value.str (Str.ofString "__class__") s.toks) = pure (Str.ofString "__class__") from rfl) ?_)
  refine wpAny_bind (L0 _ _ _ _ (fun _ _ q => q) ?_)
  refine wpAny_bind ?_
  unfold Builtin.ObjectAttr.find
  refine wpAny_bind (PySem.W.looks_findIn KI X.cl _ _ _ _ (fun _ _ q => q) ?_)
  refine wpAny_bind (PySem.W.looks_specialIn KI X.gt _ _ _ _ (fun _ _ q => q) ?_)
  refine wpAny_bind (wpAny_bind (PySem.W.looks_takesIn KI X.tk _ _ _ _ (fun _ _ q => q) (wpAny_ite_true rfl (wpAny_pure ?_))))
  refine wpAny_bind (wpAny_rule (wpAny_pure ?_))
  refine wpAny_bind (wpAny_holding (wpAny_call (exc_class_get (s := { s with toks := s.toks + 1 }) KI g c X.ob ?_)))
  exact wpAny_pure (PySem.W.handed_on rfl (wpAny_pure h))
theorem kitx_exc (X : ExcLook K C) (c : oe.cls = .ref C) : PySem.W.KitX K (.ref e) (.ref C) fun h => h.get? e = some oe where
  ty := fun M h KI g => looks_type g c
  it := fun M h KI g => (PySem.W.kit_cls KI X.me).2.1
  ne := fun h tp dd its n sl KI g => by
    refine Bool.eq_false_iff.mpr fun z => ?_
    have z' := Value.ref.inj (beq_iff_eq.mp z)
    subst z'
    have m := X.be
    unfold PySem.W.mroIn PySem.W.clsIn at m
    cases q : List.lookup C K with
    | none => rw [q] at m; cases m
    | some o =>
      have k := KI C o q
      rw [g] at k
      have k' := Option.some.inj k
      rw [q, ← k'] at m
      cases m
  ca := fun {prog w A E Q s} KI g h => exc_class KI X g c h
end
section
variable {X : Cx} {e C : Addr} {oe : Obj}
theorem vals_refs : ∀ {cs : List Addr} {us : List Value}, Vals (cs.map V.ref) us → us = cs.map Value.ref
  | [], _, .nil => rfl
  | c :: cs, _, .cons r t => by rw [vals_refs t]; exact congrArg (· :: cs.map Value.ref) r
/-- isinstance(e, ..) in the except suite -/
theorem call_isiX (c : oe.cls = .ref C) (L : ExcLook X.K C) : CallR (sfx X e oe) (.builtin "isinstance") (fun xs H Q => ∃ y b, xs = [.ref e, y] ∧ ((∃ B, y = .ref B ∧ PySem.W.kitOne X.K (.ref C) (.ref B) = some b) ∨ (∃ T, y = .ty T ∧ PySem.W.kitOne X.K (.ref C) (.type T) = some b) ∨
    (∃ (tp : Addr) (cs : List Addr), y = .ref tp ∧ H tp = some (.tup (cs.map V.ref)) ∧ PySem.W.kitAny X.K (.ref C) (cs.map Value.ref) = some b)) ∧ Q (.bl b) H) := by
  intro pins s σ H xs us Q I r h
  obtain ⟨y, b, rfl, hy, q⟩ := h
  have g := I.excObj
  have KI : X.K.In s.heap := I.kIn
  cases r with
  | cons rx r2 =>
    cases r2 with
    | cons ry r3 =>
      cases r3
      cases (show _ = Value.ref e from rx)
      have fin : ∀ tk, EP (sfx X e oe) pins σ Q (Value.bool b) { s with toks := tk } := fun tk => ⟨.bl b, H, I.tok tk, rfl, q⟩
      rcases hy with ⟨B, rfl, k⟩ | ⟨T, rfl, k⟩ | ⟨tp, cs, rfl, ht, k⟩
      · cases (show _ = Value.ref B from ry)
        exact PySem.W.kia_one (kitx_exc L c) KI g k (fun z => nomatch z) fin
      · cases (show _ = Value.type T from ry)
        exact PySem.W.kia_one (kitx_exc L c) KI g k (fun z => nomatch z) fin
      · cases (show _ = Value.ref tp from ry)
        obtain ⟨_, its, rv, ⟨cl, dd, dt, sl⟩, g2, g3, n, g4⟩ := I.hok tp _ ht
        have ei := vals_refs rv
        subst ei
        dsimp only at g3 g4
        subst g3 g4
        exact PySem.W.kia_tup (kitx_exc L c) KI g g2 k (fun z => nomatch z) fin
end
end L2

namespace L2
open PySem PySem.Spec PyProof.Rows
/-! ### f'{text!r} ..', a text times a number, find, join of more -/
section
variable {X : Cx}
def tFr (c : Str) (ta : TE) : TE := fun σ H Q => ta σ H fun x H1 => ∃ z : Str, x = .str z ∧ z.length ≤ 1000 ∧ (∀ n ∈ z.cps.toList, n < 16 ^ 8) ∧ c.length ≤ 1000 ∧ ∀ z2 : Str, Q (.str z2) H1
theorem len_app (x y : Str) : (x ++ y).length = x.length + y.length := by
  show (Str.append x y).cps.size = x.cps.size + y.cps.size
  unfold Str.append
  simp
theorem pe_fr {a : Expr} {ta : TE} {c : Str} {k : Nat} {p1 p2 pos : Pos} (ha : PE X a ta) : PE X (.JoinedStr [.FormattedValue a 114 none p1, .Constant (.str c) k p2] pos) (tFr c ta) := by
  intro pins s σ H Q I h
  refine wpAny_JoinedStr (Joins_cons (wpAny_FormattedValue_repr (thn (ha pins s σ H _ I h) fun v s1 ⟨x, H1, I1, r1, z, ez, hz, hc, hl, q⟩ => ?_)))
  subst ez
  obtain ⟨t, rfl⟩ := r1
  have hr := StrLaws.reprText_len z hc
  have hb : ∀ n, n ≤ 20000 → n ≤ sizeLine := fun n hn => Nat.le_trans hn (by decide)
  refine pyReprObj_str (formatField_str (fun t' tk => ?_) (hb _ (by omega))) (hb _ (by omega))
  have e0 : ∀ y : Str, (Str.empty ++ y).length = y.length := fun y => by rw [len_app]; show 0 + _ = _; omega
  refine ⟨_, _, rfl, hb _ (by rw [e0]; omega), Joins_cons ?_⟩
  have J : Inv X pins σ H1 { s1 with toks := tk } := I1.tok tk
  refine thn (pe_str (X := X) (x := c) (j := k) (pos := p2) pins { s1 with toks := tk } σ H1 (fun v H' => v = .str c ∧ H' = H1) J ⟨rfl, rfl⟩) fun v s2 ⟨y, H2, I2, r2, e1, e2⟩ => ?_
  subst e1 e2
  obtain ⟨t2, rfl⟩ := r2
  refine ⟨_, _, rfl, hb _ (by rw [len_app, e0]; omega), Joins_nil ⟨hb _ (by rw [len_app, e0]; omega), ?_⟩⟩
  exact ⟨.str _, H2, I2.tok _, ⟨_, rfl⟩, q _⟩
def rFind : V → List V → Hp → VK → Prop := fun x vs H Q => ∃ z y : Str, x = .str z ∧ vs = [.str y] ∧ Q (.int (Txt.find z y)) H
theorem op_rep_str : OpR X (binaryOp .Mult) (fun x y H Q => ∃ z n, x = .str z ∧ y = .int n ∧ MulOk z n ∧ Q (.str (Txt.mul z n)) H) := by
  intro pins s σ H x y v u Q I rx ry h
  obtain ⟨z, n, rfl, rfl, hk, q⟩ := h
  obtain ⟨t, rfl⟩ := rx
  obtain ⟨t', rfl⟩ := ry
  exact PySem.SB.mul hk fun t' k => ⟨.str _, H, I.tok _, ⟨_, rfl⟩, q⟩
end
end L2

namespace L2
open PySem PySem.Spec PyProof.Rows
/-! ### own classes: methods bundled, instances made, a method of a class above called by that class's name; calls of these that may raise -/
theorem pass1 {P : Program} {w : World} {X : Cx} : Passes (CX1 P w) X E0 := fun _ _ _ _ _ _ _ h => by
  obtain ⟨_, _, _, _, _, _, _, _, _, _, _, _, _, _, _, q⟩ := h
  exact q.elim
/-- a method of the class at C, bundled -/
def MCallee (CX : CXT) (P : Program) (w : World) (K : PySem.W.Frag) (mg : Str → Option Value) (base : Heap) (k : Nat) (C : Addr) (m : Str) (ps : List Str) (sp : Sp) : Prop :=
  ∃ f fd, Meth K C m f ∧ FnOk P w K mg base CX k f fd ps sp ∧ Binds K fd ps []
/-- a class that can be made, bundled with its __init__ -/
def MkCallee (CX : CXT) (P : Program) (w : World) (K : PySem.W.Frag) (mg : Str → Option Value) (base : Heap) (k : Nat) (x : Str) (C : Addr) (ps : List Str) (sp : Sp) : Prop :=
  ∃ f fd, Mk K C f ∧ FnOk P w K mg base CX k f fd ps sp ∧ Binds K fd ps [] ∧ mg x = some (.ref C)
/-- what the text must have for B.m(..) -/
structure BaseM (K : PySem.W.Frag) (B : Addr) (m : Str) (f : Addr) : Prop where
  sp : PySem.W.specialIn K (.ref B) "__getattribute__" = some (some (.builtin "type.__getattribute__"))
  rd : PySem.W.readsIn K B (.type "type") = true
  at_ : PySem.W.findCls K (.ref B) (.type "type") m = some (.val (.ref f))
  kp : PySem.W.keepIn K (.ref f) = true
def BCallee (CX : CXT) (P : Program) (w : World) (K : PySem.W.Frag) (mg : Str → Option Value) (base : Heap) (k : Nat) (x : Str) (m : Str) (ps : List Str) (sp : Sp) : Prop :=
  ∃ f fd B, BaseM K B m f ∧ FnOk P w K mg base CX k f fd ps sp ∧ Binds K fd ps [] ∧ mg x = some (.ref B)
section
variable {CX : CXT} {P : Program} {w : World} {K : PySem.W.Frag} {mg : Str → Option Value} {base : Heap} {j k : Nat} {C : Addr} {x m : Str} {ps : List Str} {sp : Sp}
theorem MCallee.mono (c : MCallee CX P w K mg base j C m ps sp) (h : j ≤ k) : MCallee CX P w K mg base k C m ps sp :=
  let ⟨f, fd, M, F, b⟩ := c
  ⟨f, fd, M, F.mono h, b⟩
theorem MkCallee.mono (c : MkCallee CX P w K mg base j x C ps sp) (h : j ≤ k) : MkCallee CX P w K mg base k x C ps sp :=
  let ⟨f, fd, M, F, b⟩ := c
  ⟨f, fd, M, F.mono h, b⟩
theorem BCallee.mono (c : BCallee CX P w K mg base j x m ps sp) (h : j ≤ k) : BCallee CX P w K mg base k x m ps sp :=
  let ⟨f, fd, B, M, F, b⟩ := c
  ⟨f, fd, B, M, F.mono h, b⟩
end
/-- the readings -/
def tMt (C : Addr) (m : Str) (sp : Sp) (ta : TE) (t : TA) : TE := fun σ H Q => ta σ H fun x H1 => ∃ a dx fs, x = .ref a ∧ H1 a = some (.ins C dx fs) ∧ fs.lookup m = none ∧ t σ H1 fun vs H2 => sp (x :: vs) H2 Q E0
def tMk (C : Addr) (sp : Sp) (t : TA) : TE := fun σ H Q => t σ H fun vs H1 => ∀ x dx, H1 x = none → H1 dx = none → dx ≠ x →
  sp (.ref x :: vs) (upd (upd H1 dx (.own x)) x (.ins C dx [])) (fun v H2 => v = .non ∧ Q (.ref x) H2) E0
def tMtX (C : Addr) (m : Str) (sp : Sp) (ta : TE) (t : TA) : TX := fun σ H Q EX => ta σ H fun x H1 => ∃ a dx fs, x = .ref a ∧ H1 a = some (.ins C dx fs) ∧ fs.lookup m = none ∧ t σ H1 fun vs H2 => sp (x :: vs) H2 Q fun cv _ H3 => ∃ C', cv = .ref C' ∧ EX C' H3
def tMkX (C : Addr) (sp : Sp) (t : TA) : TX := fun σ H Q EX => t σ H fun vs H1 => ∀ x dx, H1 x = none → H1 dx = none → dx ≠ x →
  sp (.ref x :: vs) (upd (upd H1 dx (.own x)) x (.ins C dx [])) (fun v H2 => v = .non ∧ Q (.ref x) H2) fun cv _ H3 => ∃ C', cv = .ref C' ∧ EX C' H3
section
variable {X : Cx} {CX : CXT} {k : Nat} {f C : Addr} {fd : FuncData} {ps : List Str} {sp : Sp} {x m : Str} {p np pos apos : Pos} {e o : Expr} {es : List Expr} {ta : TE} {t : TA}
theorem run0 {pins : List (Addr × Obj)} {σ : St} {H : Hp} {s : Shared} {Q : VK} {us : List Value} {vs : List V} {E : XK} (F : FnOk X.prog X.w X.K X.mg X.base CX k f fd ps sp) (hr : Room k X.A) (hb : Binds X.K fd ps []) (hx : Passes CX X E)
    (I : Inv X pins σ H s) (r : Vals vs us) (h : sp vs H Q E) : wpAny (model X.prog X.w) X.A (call (.ref f) us) (EP X pins σ Q) X.xe s :=
  run_fn (dvs := []) (ds := []) F hr hb .nil hx I r (by rw [List.append_nil]; exact h)
/-- B.m(e, ..), m of the class B -/
theorem pe_base {pl : Sem Bool} (M : BCallee CX X.prog X.w X.K X.mg X.base k x m ps sp) (hx : Passes CX X E0) (hr : Room k X.A) (hg : Gl X x) (ha : PA X (e :: es) t) (hdb : (x == ("__debug__" : Str)) = false := by decide)
    (hst : starEach (e :: es) X.env = (false, eval e X.env) :: starEach es X.env := by rfl) (hpl : (backTo pos (starEach es X.env)).any (·.1) = false := by rfl)
    (ht : eval (.Call (.Attribute (.Name x np) m apos) (e :: es) [] pos) X.env = (do
      let ov ← eval (.Name x np) X.env
      standAt apos.atName
      let (f, first) ← holding [ov] (getMethod ov m pl)
      callWith pos f first (backTo pos (starEach (e :: es) X.env)) (backToKw pos (keywordEach [] X.env))) := by rfl) :
    PE X (.Call (.Attribute (.Name x np) m apos) (e :: es) [] pos) (tFn sp t) := by
  obtain ⟨f, fd, B, hB, F, hb, hm⟩ := M
  intro pins s σ H Q I h
  refine PySem.W.methodCall_KW (pl := pl) (ld_glob I hg hm ?_ hdb) ht
  refine PySem.W.method_cls I.kIn hB.sp (PySem.W.cls_value (mc := .type "type") I.kIn hB.rd hB.at_ (handed_of (v := .ref f) rfl) ?_)
  refine PySem.W.callWith_K (first := []) (h₀ := X.base) I.ok.mod.kin hB.kp (thn (ha pos pins _ σ H _ (I.tok _) h) fun us s2 ⟨vs, H2, I2, r, q2⟩ => ⟨I2.kIn, ?_⟩) hst hpl
  exact run0 (us := us) (vs := vs) F hr hb hx I2 r q2
/-- C(e, ..) -/
theorem pe_mk (M : MkCallee CX X.prog X.w X.K X.mg X.base k x C ps sp) (hx : Passes CX X E0) (hr : Room (k + 1) X.A) (hg : Gl X x) (ha : PA X (e :: es) t) (hdb : (x == ("__debug__" : Str)) = false := by decide)
    (he : starEach (e :: es) X.env = (false, eval e X.env) :: starEach es X.env := by rfl) (hpl : (backTo pos (starEach es X.env)).any (·.1) = false := by rfl) :
    PE X (.Call (.Name x p) (e :: es) [] pos) (tMk C sp t) := by
  obtain ⟨f, fd, M, F, hb, hm⟩ := M
  have h := pe_make (E := E0) (dvs := []) (ds := []) (p := p) M F hr hg hm hb .nil hx ha hdb he hpl
  intro pins s σ H Q I q
  refine h pins s σ H Q I ?_
  have q' : t σ H fun vs H1 => ∀ x dx, H1 x = none → H1 dx = none → dx ≠ x → sp (.ref x :: vs) (upd (upd H1 dx (.own x)) x (.ins C dx [])) (fun v H2 => v = .non ∧ Q (.ref x) H2) E0 := q
  show t σ H fun vs H1 => ∀ x dx, H1 x = none → H1 dx = none → dx ≠ x → sp (.ref x :: (vs ++ [])) (upd (upd H1 dx (.own x)) x (.ins C dx [])) (fun v H2 => v = .non ∧ Q (.ref x) H2) E0
  have e1 : (fun (vs : List V) (H1 : Hp) => ∀ x dx, H1 x = none → H1 dx = none → dx ≠ x → sp (.ref x :: (vs ++ [])) (upd (upd H1 dx (.own x)) x (.ins C dx [])) (fun v H2 => v = .non ∧ Q (.ref x) H2) E0) = fun vs H1 => ∀ x dx, H1 x = none → H1 dx = none → dx ≠ x → sp (.ref x :: vs) (upd (upd H1 dx (.own x)) x (.ins C dx [])) (fun v H2 => v = .non ∧ Q (.ref x) H2) E0 := by
    funext vs H1
    rw [List.append_nil]
  rw [e1]
  exact q'
theorem pex_mk (M : MkCallee (CX1 X.prog X.w) X.prog X.w X.K X.mg X.base k x C ps sp) (hx : X.ex = []) (hr : Room (k + 1) X.A) (hg : Gl X x) (ha : PA X.nox (e :: es) t) (hdb : (x == ("__debug__" : Str)) = false := by decide)
    (he : starEach (e :: es) X.env = (false, eval e X.env) :: starEach es X.env := by rfl) (hpl : (backTo pos (starEach es X.env)).any (·.1) = false := by rfl) :
    PEX X (.Call (.Name x p) (e :: es) [] pos) (tMkX C sp t) := by
  obtain ⟨f, fd, M, F, hb, hm⟩ := M
  intro pins s σ H Q EX I h
  refine wpAny_Call_Name_kw (ld_glob I hg hm ?_ hdb)
  refine PySem.W.callWith_K (h₀ := X.base) I.ok.mod.kin M.kp (wpAny_mono (ha pos pins s σ H _ (I.wish _) h) (fun us s1 ⟨vs, H1, I1, r, q⟩ => ⟨I1.kIn, ?_⟩) fun _ _ z => False.elim z) he hpl
  have J : Inv X pins σ H1 s1 := I1.unwish
  have hq := q (s1.heap.objs.size + 1) s1.heap.objs.size (J.hok.fresh (Nat.le_succ _)) (J.hok.fresh (Nat.le_refl _)) (Nat.ne_of_lt (Nat.lt_succ_self _))
  have I2 := Inv.made (C := C) J
  have r2 : Vals (V.ref (s1.heap.objs.size + 1) :: vs) (Value.ref (s1.heap.objs.size + 1) :: us) := .cons rfl r
  have hl : (Value.ref (s1.heap.objs.size + 1) :: us).length = ps.length := by
    have e := r2.length
    rw [F.len _ _ _ _ hq] at e
    exact e.symm
  have bt : ∀ s' : Shared, X.K.In s'.heap → BindsTo s' fd ⟨Value.ref (s1.heap.objs.size + 1) :: us, []⟩ (ps.zip (Value.ref (s1.heap.objs.size + 1) :: us)) := fun s' kI => by
    have z := hb s' (Value.ref (s1.heap.objs.size + 1) :: us) kI (by rw [List.append_nil]; exact hl)
    rw [List.append_nil] at z
    exact z
  refine wpAny_call (make_map (f := f) J.kIn M.makes M.init (beq_iff_eq.mp M.fn) (codeAny_mono (F.run _ X.stack _ _ ⟨Value.ref (s1.heap.objs.size + 1) :: us, []⟩ (Value.ref (s1.heap.objs.size + 1) :: us) _ _ (fun cv _ H3 => ∃ C', cv = .ref C' ∧ EX C' H3) (hr.make C us [])
    (I2.env0.make C us []) (bt _ I2.kIn) r2 hq) fun r s' hq' => ?_))
  cases r with
  | error ev => exact I2.afterX (E := fun cv _ H2 => ∃ C, cv = .ref C ∧ EX C H2) hx (fun C H' z => by obtain ⟨C', e1, z⟩ := z; cases e1; exact z) hq'
  | ok fl =>
    cases fl with
    | ret u =>
      obtain ⟨v, H', I3, rv, ev, q3⟩ := I2.after hq'
      subst ev
      exact ⟨rv, ⟨V.ref (s1.heap.objs.size + 1), H', I3, rfl, q3⟩⟩
    | next => exact False.elim hq'
    | brk => exact False.elim hq'
    | cont => exact False.elim hq'
end
/-! f'{value!r} ..' of a plain value -/
/-- what can be shown: none, a bool, a number of few figures, a text of small signs -/
inductive Shw : V → Prop where
  | non : Shw .non
  | bl (b : Bool) : Shw (.bl b)
  | int {i : Int} (h : i.natAbs < 10 ^ 60) : Shw (.int i)
  | str {z : Str} (h : z.length ≤ 1000) (k : ∀ n ∈ z.cps.toList, n < 16 ^ 8) : Shw (.str z)
theorem log_sm {n : Int} (h : n.natAbs < 10 ^ 60) : n.natAbs.log2 < 1920 := by
  by_cases z : n.natAbs = 0
  · rw [z]; decide
  · have := (Nat.log2_lt (k := 200) z).mpr (Nat.lt_trans h (by decide))
    omega
section
variable {X : Cx}
def tFrV (c : Str) (ta : TE) : TE := fun σ H Q => ta σ H fun x H1 => Shw x ∧ c.length ≤ 1000 ∧ ∀ z2 : Str, Q (.str z2) H1
theorem pe_frv {a : Expr} {ta : TE} {c : Str} {k : Nat} {p1 p2 pos : Pos} (ha : PE X a ta) : PE X (.JoinedStr [.FormattedValue a 114 none p1, .Constant (.str c) k p2] pos) (tFrV c ta) := by
  intro pins s σ H Q I h
  have hb : ∀ n, n ≤ 20000 → n ≤ sizeLine := fun n hn => Nat.le_trans hn (by decide)
  refine wpAny_JoinedStr (Joins_cons (wpAny_FormattedValue_repr (thn (ha pins s σ H _ I h) fun v s1 ⟨x, H1, I1, r1, sh, hl, q⟩ => ?_)))
  have e0 : ∀ y : Str, (Str.empty ++ y).length = y.length := fun y => by rw [len_app]; show 0 + _ = _; omega
  cases sh with
  | non =>
    cases (show v = Value.none from r1)
    refine pyReprObj_none (formatField_str (fun t' tk => ?_) (by decide))
    refine ⟨_, _, rfl, (by decide), Joins_cons ?_⟩
    have J : Inv X pins σ H1 { s1 with toks := tk } := I1.tok tk
    refine thn (pe_str (X := X) (x := c) (j := k) (pos := p2) pins { s1 with toks := tk } σ H1 (fun v H' => v = .str c ∧ H' = H1) J ⟨rfl, rfl⟩) fun v s2 ⟨y, H2, I2, r2, e1, e2⟩ => ?_
    subst e1 e2
    obtain ⟨t2, rfl⟩ := r2
    have e5 : (Str.empty ++ Str.ofString "None").length = 4 := by decide
    refine ⟨_, _, rfl, hb _ (by rw [len_app, e5]; omega), Joins_nil ⟨hb _ (by rw [len_app, e5]; omega), ?_⟩⟩
    exact ⟨.str _, H2, I2.tok _, ⟨_, rfl⟩, q _⟩
  | bl b =>
    cases (show v = Value.bool b from r1)
    have hy : (if b then (Str.ofString "True") else Str.ofString "False").length ≤ 5 := by cases b <;> decide
    refine pyReprObj_bool (formatField_str (fun t' tk => ?_) (hb _ (by omega)))
    refine ⟨_, _, rfl, hb _ (by rw [e0]; omega), Joins_cons ?_⟩
    have J : Inv X pins σ H1 { s1 with toks := tk } := I1.tok tk
    refine thn (pe_str (X := X) (x := c) (j := k) (pos := p2) pins { s1 with toks := tk } σ H1 (fun v H' => v = .str c ∧ H' = H1) J ⟨rfl, rfl⟩) fun v s2 ⟨y, H2, I2, r2, e1, e2⟩ => ?_
    subst e1 e2
    obtain ⟨t2, rfl⟩ := r2
    refine ⟨_, _, rfl, hb _ (by rw [len_app, e0]; omega), Joins_nil ⟨hb _ (by rw [len_app, e0]; omega), ?_⟩⟩
    exact ⟨.str _, H2, I2.tok _, ⟨_, rfl⟩, q _⟩
  | @int i hi =>
    obtain ⟨t, rfl⟩ := (show ∃ t, v = Value.int i t from r1)
    have hy : (Str.ofString (toString i)).length ≤ 61 := by
      have e : (Str.ofString (toString i)).length = (toString i).length := by
        rw [Str.ofString_eq_toList]
        show (List.map Char.toNat (toString i).toList).toArray.size = _
        rw [List.size_toArray, List.length_map]
        exact String.length_toList
      rw [e]
      exact int_text_length_le10 (by decide) hi
    refine pyReprObj_int (log_sm hi) (formatField_str (fun t' tk => ?_) (hb _ (by omega)))
    refine ⟨_, _, rfl, hb _ (by rw [e0]; omega), Joins_cons ?_⟩
    have J : Inv X pins σ H1 { s1 with toks := tk } := I1.tok tk
    refine thn (pe_str (X := X) (x := c) (j := k) (pos := p2) pins { s1 with toks := tk } σ H1 (fun v H' => v = .str c ∧ H' = H1) J ⟨rfl, rfl⟩) fun v s2 ⟨y, H2, I2, r2, e1, e2⟩ => ?_
    subst e1 e2
    obtain ⟨t2, rfl⟩ := r2
    refine ⟨_, _, rfl, hb _ (by rw [len_app, e0]; omega), Joins_nil ⟨hb _ (by rw [len_app, e0]; omega), ?_⟩⟩
    exact ⟨.str _, H2, I2.tok _, ⟨_, rfl⟩, q _⟩
  | @str z hz hc =>
    obtain ⟨t, rfl⟩ := (show ∃ t, v = Value.str z t from r1)
    have hr := StrLaws.reprText_len z hc
    refine pyReprObj_str (formatField_str (fun t' tk => ?_) (hb _ (by omega))) (hb _ (by omega))
    refine ⟨_, _, rfl, hb _ (by rw [e0]; omega), Joins_cons ?_⟩
    have J : Inv X pins σ H1 { s1 with toks := tk } := I1.tok tk
    refine thn (pe_str (X := X) (x := c) (j := k) (pos := p2) pins { s1 with toks := tk } σ H1 (fun v H' => v = .str c ∧ H' = H1) J ⟨rfl, rfl⟩) fun v s2 ⟨y, H2, I2, r2, e1, e2⟩ => ?_
    subst e1 e2
    obtain ⟨t2, rfl⟩ := r2
    refine ⟨_, _, rfl, hb _ (by rw [len_app, e0]; omega), Joins_nil ⟨hb _ (by rw [len_app, e0]; omega), ?_⟩⟩
    exact ⟨.str _, H2, I2.tok _, ⟨_, rfl⟩, q _⟩
end
/-! == of two tuples -/
def rEqT (K : PySem.W.Frag) (neg : Bool) : R2 := fun x y H Q => ∃ a b xs ys, x = .ref a ∧ y = .ref b ∧ SqT K H a xs ∧ SqT K H b ys ∧
  ∃ f : Nat → Bool, (∀ j x y, xs[j]? = some x → ys[j]? = some y → EqI K H x y (f j)) ∧ Q (.bl (if neg then !((List.range (min xs.length ys.length)).all f && xs.length == ys.length) else (List.range (min xs.length ys.length)).all f && xs.length == ys.length)) H
section
variable {X : Cx}
end
end L2

namespace L2
open PySem PySem.Spec PyProof.Rows
section
variable {X : Cx}
/-- list + list, both only read -/
def rCatS (K : PySem.W.Frag) : R2 := fun x y H Q => ∃ l b xs zs, x = .ref l ∧ y = .ref b ∧ SqL K H l xs ∧ SqL K H b zs ∧ xs.length + zs.length ≤ sizeLine ∧ ∀ p, H p = none → Q (.ref p) (upd H p (.lst (xs ++ zs)))
end
end L2
namespace L2
open PySem PySem.Spec PyProof.Rows
end L2
namespace L2
open PySem PySem.Spec PyProof.Rows
end L2

namespace L2
open PySem
set_option maxRecDepth 100000
/-! ### == and != of lists and tuples that hold lists and tuples, down to a depth -/
inductive DEq (K : PySem.W.Frag) (H : Hp) : Nat → V → V → Bool → Prop where
  | flat {n : Nat} {x y : V} (fx : flatV x = true) (fy : flatV y = true) : DEq K H n x y (eqV x y)
  | same {n : Nat} (a : Addr) : DEq K H n (.ref a) (.ref a) true
  | lst {n : Nat} {a b : Addr} {xs ys : List V} {f : Nat → Bool} (ne : a ≠ b) (ha : SqL K H a xs) (hb : SqL K H b ys) (hl : xs.length = ys.length) (h : ∀ (j : Nat) (x y : V), xs[j]? = some x → ys[j]? = some y → DEq K H n x y (f j)) : DEq K H (n + 1) (.ref a) (.ref b) ((List.range xs.length).all f)
  | lst_ne {n : Nat} {a b : Addr} {xs ys : List V} (ne : a ≠ b) (ha : SqL K H a xs) (hb : SqL K H b ys) (hl : xs.length ≠ ys.length) : DEq K H (n + 1) (.ref a) (.ref b) false
  | tup {n : Nat} {a b : Addr} {xs ys : List V} {f : Nat → Bool} (ne : a ≠ b) (ha : SqT K H a xs) (hb : SqT K H b ys) (h : ∀ (j : Nat) (x y : V), xs[j]? = some x → ys[j]? = some y → DEq K H n x y (f j)) : DEq K H (n + 1) (.ref a) (.ref b) ((List.range (min xs.length ys.length)).all f && xs.length == ys.length)
theorem its_at {xs : List V} {its : List Value} (r : Vals xs its) {j : Nat} (h : j < its.toArray.size) : ∃ x, xs[j]? = some x ∧ RelV x its.toArray[j] := by
  have j1 : j < its.length := by simpa using h
  have l1 := r.length
  have x1 : xs[j]? = some xs[j] := List.getElem?_eq_getElem (by omega)
  obtain ⟨u1, q1, r1⟩ := r.get x1
  have eu : its.toArray[j] = u1 := by
    have := List.getElem?_eq_getElem j1
    rw [this] at q1; simpa using Option.some.inj q1
  exact ⟨xs[j], x1, eu ▸ r1⟩
section
variable {X : Cx} {pins : List (Addr × Obj)} {σ : St} {H : Hp} {s : Shared}
theorem DEq.at {n : Nat} {x y : V} {b : Bool} (e : DEq X.K H n x y b) (I : Inv X pins σ H s) : ∀ {A : Around} {u v : Value}, A.units + n < cLine → RelV x u → RelV y v → SeqAt.EqAt A s u v b := by
  induction e with
  | flat fx fy => intro A u v hu rx ry; exact eqAt_V rx ry fx fy
  | same a =>
    intro A u v hu rx ry
    cases (show u = Value.ref a from rx)
    cases (show v = Value.ref a from ry)
    exact SeqAt.EqAt.same _
  | @lst n a b xs ys f ne ha hb hl h ih =>
    intro A u v hu rx ry
    cases (show u = Value.ref a from rx)
    cases (show v = Value.ref b from ry)
    obtain ⟨its, r, p, _⟩ := I.list ha
    obtain ⟨its', r', p', _⟩ := I.list hb
    have l1 := r.length
    have l2 := r'.length
    have h0 := SeqAt.RcAt.lists (A := A) (e := f) p.isList p'.isList (by simp only [List.size_toArray]; omega) (by omega) (fun j h1 h2 => by
      obtain ⟨x, e1, q1⟩ := its_at r h1
      obtain ⟨y, e2, q2⟩ := its_at r' h2
      exact ih j x y e1 e2 (by show A.units + 1 + n < cLine; omega) q1 q2)
    rw [show its.toArray.size = xs.length by simp only [List.size_toArray]; omega] at h0
    exact SeqAt.EqAt.of_refs ne h0
  | @lst_ne n a b xs ys ne ha hb hl =>
    intro A u v hu rx ry
    cases (show u = Value.ref a from rx)
    cases (show v = Value.ref b from ry)
    obtain ⟨its, r, p, _⟩ := I.list ha
    obtain ⟨its', r', p', _⟩ := I.list hb
    have l1 := r.length
    have l2 := r'.length
    exact SeqAt.EqAt.of_refs ne (SeqAt.RcAt.lists_lengths p.isList p'.isList (by simp only [List.size_toArray, bne_iff_ne, ne_eq]; omega) (by omega))
  | @tup n a b xs ys f ne ha hb h ih =>
    intro A u v hu rx ry
    cases (show u = Value.ref a from rx)
    cases (show v = Value.ref b from ry)
    obtain ⟨its, r, p, _⟩ := I.tuple ha
    obtain ⟨its', r', p', _⟩ := I.tuple hb
    have l1 := r.length
    have l2 := r'.length
    have h0 := SeqAt.RcAt.tuples (A := A) (e := f) (show s.heap.IsTuple a its.toArray from p) (show s.heap.IsTuple b its'.toArray from p') (by omega) (fun j h1 h2 => by
      obtain ⟨x, e1, q1⟩ := its_at r h1
      obtain ⟨y, e2, q2⟩ := its_at r' h2
      exact ih j x y e1 e2 (by show A.units + 1 + n < cLine; omega) q1 q2)
    rw [show its.toArray.size = xs.length by simp only [List.size_toArray]; omega, show its'.toArray.size = ys.length by simp only [List.size_toArray]; omega] at h0
    exact SeqAt.EqAt.of_refs ne h0
end
/-- == (neg: !=) of two lists -/
def rEqDL (K : PySem.W.Frag) (neg : Bool) : R2 := fun x y H Q => ∃ a b xs ys, x = .ref a ∧ y = .ref b ∧ SqL K H a xs ∧ SqL K H b ys ∧
  ((xs.length ≠ ys.length ∧ Q (.bl neg) H) ∨ (xs.length = ys.length ∧ ∃ f : Nat → Bool, (∀ (j : Nat) (x y : V), xs[j]? = some x → ys[j]? = some y → DEq K H 60 x y (f j)) ∧ Q (.bl (if neg then !(List.range xs.length).all f else (List.range xs.length).all f)) H))
/-- == (neg: !=) of two tuples -/
def rEqDT (K : PySem.W.Frag) (neg : Bool) : R2 := fun x y H Q => ∃ a b xs ys, x = .ref a ∧ y = .ref b ∧ SqT K H a xs ∧ SqT K H b ys ∧
  ∃ f : Nat → Bool, (∀ (j : Nat) (x y : V), xs[j]? = some x → ys[j]? = some y → DEq K H 60 x y (f j)) ∧ Q (.bl (if neg then !((List.range (min xs.length ys.length)).all f && xs.length == ys.length) else (List.range (min xs.length ys.length)).all f && xs.length == ys.length)) H
section
variable {X : Cx}
theorem deep_at {pins : List (Addr × Obj)} {σ : St} {H : Hp} {s : Shared} {A : Around} {xs ys : List V} {its its' : List Value} {f : Nat → Bool} (I : Inv X pins σ H s) (hu : A.units + 60 < cLine) (r : Vals xs its) (r' : Vals ys its')
    (hf : ∀ (j : Nat) (x y : V), xs[j]? = some x → ys[j]? = some y → DEq X.K H 60 x y (f j)) : ∀ j (h1 : j < its.toArray.size) (h2 : j < its'.toArray.size), SeqAt.EqAt A s its.toArray[j] its'.toArray[j] (f j) := fun j h1 h2 => by
  obtain ⟨x, e1, q1⟩ := its_at r h1
  obtain ⟨y, e2, q2⟩ := its_at r' h2
  exact (hf j x y e1 e2).at I hu q1 q2
theorem op_eqDL {k : Nat} (hr : Room k X.A) : OpR X (compareOp .Eq) (rEqDL X.K false) := by
  intro pins s σ H x y v u Q I rx ry h
  obtain ⟨a, b, xs, ys, rfl, rfl, ha, hb, h⟩ := h
  cases (show v = Value.ref a from rx)
  cases (show u = Value.ref b from ry)
  obtain ⟨its, r, p, _⟩ := I.list ha
  obtain ⟨its', r', p', _⟩ := I.list hb
  have l1 := r.length
  have l2 := r'.length
  have hu := hr.units
  rcases h with ⟨hn, q⟩ | ⟨hl, f, hf, q⟩
  · refine SeqAt.eq_list_lengthsAt p.isList p'.isList (by simp only [List.size_toArray, bne_iff_ne, ne_eq]; omega) (by omega) ⟨.bl false, H, I, rfl, q⟩
  · refine SeqAt.eq_listAt (e := f) p.isList p'.isList (by simp only [List.size_toArray]; omega) (by omega) (deep_at I (by show X.A.units + 1 + 60 < cLine; omega) r r' hf) ⟨.bl _, H, I, rfl, ?_⟩
    rw [show its.toArray.size = xs.length by simp only [List.size_toArray]; omega]
    exact q
end
end L2

namespace L2
open PySem PySem.Spec PyProof.Rows
/-! ### set(list) for keys of any kind; len(set) -/
section
variable {κ : Type} [DecidableEq κ]
/-- how many different keys stand ahead of place i -/
def cntK (ks : List κ) : Nat → Nat
  | 0 => 0
  | i + 1 => match ks[i]? with
    | some k => if k ∈ ks.take i then cntK ks i else cntK ks i + 1
    | none => cntK ks i
theorem cntK_le (ks : List κ) : ∀ i, cntK ks i ≤ i
  | 0 => Nat.le_refl _
  | i + 1 => by
    have ih := cntK_le ks i
    unfold cntK
    split
    · split <;> omega
    · omega
theorem cntK_full (ks : List κ) : ∀ i, i ≤ ks.length → (cntK ks i = i ↔ (ks.take i).Nodup)
  | 0, _ => by simp [cntK]
  | i + 1, h => by
    have ih := cntK_full ks i (by omega)
    have le := cntK_le ks i
    have e : ks[i]? = some ks[i] := List.getElem?_eq_getElem (by omega)
    have et : ks.take (i + 1) = ks.take i ++ [ks[i]] := by rw [List.take_add_one, e]; rfl
    unfold cntK
    rw [e, et, List.nodup_append]
    dsimp only
    by_cases m : ks[i] ∈ ks.take i
    · rw [if_pos m]
      exact ⟨fun z => absurd z (by omega), fun z => absurd rfl (z.2.2 _ m _ (by simp))⟩
    · rw [if_neg m]
      refine ⟨fun z => ⟨ih.mp (by omega), by simp, fun a ha b hb => ?_⟩, fun z => by rw [ih.mpr z.1]⟩
      rw [show b = ks[i] by simpa using hb]
      exact fun q => m (q ▸ ha)
variable {prog : Program} {w : World} {A : Around} {E : Value → Shared → Prop} {s : Shared} {knd : KeyKind prog w κ}
theorem setOf_stay {h h' : Heap} {a : Addr} {S : κ → Bool} {n : Nat} (x : h.SetOf knd a S n) (k : ∀ o, h.get? a = some o → h'.get? a = some o) : h'.SetOf knd a S n := by
  obtain ⟨o, es, ep, t, ho, r⟩ := x
  exact ⟨o, es, ep, t, k o ho, r⟩
theorem setOf_as {h : Heap} {a : Addr} {S S' : κ → Bool} {n n' : Nat} (x : h.SetOf knd a S n) (e1 : S = S') (e2 : n = n') : h.SetOf knd a S' n' := e1 ▸ e2 ▸ x
/-- the loop that puts the walked items in -/
theorem fill_loop {R : Result → Shared → Prop} {I : Addr} {fp wr : List Addr} {G : Array GenState → Array GenState → Prop} {n : Nat} {P : Nat → Value → Prop} {St : Nat → Shared → Prop} (W : WalksS prog w A.in1 I fp wr G n P St) {a : Addr} (ha : a ∉ fp) {ks : List κ}
    (hv : ∀ i v, P i v → ∃ k, ks[i]? = some k ∧ knd.is k v = true ∧ v.scannable = true) (hb : n + 1 < scanBound) : ∀ (d i : Nat) (s : Shared), n = i + d → St i s → s.heap.SetOf knd a (fun k => decide (k ∈ ks.take i)) (cntK ks i) →
      (∀ s', Moved (a :: wr) G s s' → s'.heap.SetOf knd a (fun k => decide (k ∈ ks.take n)) (cntK ks n) → R (.ok (.ret .none)) s') → codeAny (model prog w) A (.builtin "set.update.loop" ⟨[.ref a, .ref I], []⟩) R s := by
  have hw : a ∉ wr := fun z => ha (W.sub a z)
  intro d
  induction d with
  | zero =>
    intro i s e st x fin
    rw [show n = i by omega] at W fin
    refine codeAny_builtin (R := R) (A := A) F.entry_set_update_loop ?_
    rw [Around.under_plainId (A := A) F.plain_set_update_loop _]
    show wpAny (model prog w) A.in1 (pyNext (.ref I) >>= _) _ _ s
    exact wpAny_bind (W.done s _ _ st fun s' m => wpAny_pure (fin s' (m.mono fun b hb => List.mem_cons_of_mem a hb) (setOf_stay x fun o q => m.heap a o hw q)))
  | succ d ih =>
    intro i s e st x fin
    refine codeAny_builtin (R := R) (A := A) F.entry_set_update_loop ?_
    rw [Around.under_plainId (A := A) F.plain_set_update_loop _]
    show wpAny (model prog w) A.in1 (pyNext (.ref I) >>= _) _ _ s
    refine wpAny_bind (W.item i s _ _ (by omega) st fun v s1 p st1 m => ?_)
    obtain ⟨k, ek, ik, sc⟩ := hv i v p
    have x1 := setOf_stay x fun o q => m.heap a o hw q
    show wpAny (model prog w) A.in1 (holding [v] (setAdd a v) >>= _) _ _ s1
    refine wpAny_bind (wpAny_holding (show wpAny (model prog w) A.in1 (setAdd a v) _ _ s1 from ?_))
    unfold setAdd
    refine wpAny_holding (wpAny_bind (knd.pyHash ik ?_))
    have le := cntK_le ks i
    refine wpAny_setAddHashed_of (knd := knd) (s := { s1 with toks := s1.toks + 1 }) ik sc x1 (by omega) fun h' sb x2 => ?_
    have et : ks.take (i + 1) = ks.take i ++ [k] := by rw [List.take_add_one, ek]; rfl
    have x3 : h'.SetOf knd a (fun q => decide (q ∈ ks.take (i + 1))) (cntK ks (i + 1)) := by
      refine setOf_as x2 (funext fun q => ?_) ?_
      · rw [et]
        by_cases z : q ∈ ks.take i <;> by_cases y : q = k <;> simp [z, y]
      · show (if decide (k ∈ ks.take i) = true then cntK ks i else cntK ks i + 1) = match ks[i]? with | some k => if k ∈ ks.take i then cntK ks i else cntK ks i + 1 | none => cntK ks i
        rw [ek]
        by_cases z : k ∈ ks.take i <;> simp [z]
    refine wpAny_pure ⟨plainId_quiet F.plain_set_update_loop _, ih (i + 1) { s1 with heap := h', toks := s1.toks + 1 } (by omega) (W.frame (i + 1) s1 h' (s1.toks + 1) st1 (Nat.le_succ _) fun b hbf o q => (sb.2 b fun z => ha (z ▸ hbf)).trans q) x3 fun s2 m2 x4 => ?_⟩
    refine fin s2 (Moved.trans W.gtrans ((m.mono fun b hb => List.mem_cons_of_mem a hb).then_heap (Nat.le_succ _) fun b o hbn q => ?_) m2) x4
    exact (sb.2 b fun z => hbn (z ▸ List.mem_cons_self)).trans q
/-- a set as it is made -/
abbrev newS (led : Bool) : Obj := { cls := .type "set", dict := none, data := .set #[] 0 (.fresh 0 0 led) }
/-- what is told behind set(..) -/
def Filled (knd : KeyKind prog w κ) (s : Shared) (ks : List κ) (h' : Heap) : Prop :=
  h'.SetOf knd s.heap.objs.size (fun k => decide (k ∈ ks)) (cntK ks ks.length) ∧ ∀ b o, b < s.heap.objs.size → s.heap.get? b = some o → h'.get? b = some o
/-- __init__ of the new set walks the list -/
theorem init_set {l : Addr} {items : Array Value} {ks : List κ} {led : Bool} (hh : A.handled = none) (hl : s.heap.IsList l items) (hk : ∀ (i : Nat) (v : Value), items[i]? = some v → ∃ k, ks[i]? = some k ∧ knd.is k v = true ∧ v.scannable = true) (hn : ks.length = items.size) (hb : items.size + 1 < scanBound) :
    codeAny (model prog w) A (.call (.builtin "set.__init__") ⟨[.ref s.heap.objs.size, .ref l], []⟩) (wants (fun r s2 => r = .none ∧ ∃ h' tk, s2 = { s with heap := h', toks := tk } ∧ Filled knd s ks h') E) { s with heap := s.heap.push (newS led) } := by
  have g0 : (s.heap.push (newS led)).get? s.heap.objs.size = some (newS led) := Heap.get?_push_size s.heap rfl
  have ty : Shared.TypeIs { s with heap := s.heap.push (newS led) } (.ref s.heap.objs.size) "set" := ⟨newS led, g0, rfl⟩
  refine codeAny_call_builtin F.called_set.init.plain F.entry_set_init (check_set_init_1 ty ?_)
  obtain ⟨⟨c1, c2, c3, c4⟩, ho, hc, m, hd⟩ := hl
  dsimp only at hc hd
  subst hc hd
  have g1 : (s.heap.push (newS led)).get? l = some { cls := .type "list", dict := c2, data := .seq items m, slots := c4 } := Heap.get?_push_of_some _ ho
  have y1 := F.sub_list_set
  have y2 := F.sub_list_frozenset
  have y3 : (Value.type "list" == Value.type "dict") = false := by decide
  have l1 : (s.heap.push (newS led)).IsList l items := ⟨_, g1, rfl, m, rfl⟩
  have lt : l < s.heap.objs.size := Heap.lt_size ho
  unfold Builtin.«set.__init__» Builtin.Frozenset.updateFrom noKeywords
  generalize hI : pyIter = it
  wp_walk
  subst hI
  refine wpAny_pyIter_list l1 (wpAny_bind (wpAny_runValue ?_))
  have nl : l ≠ (s.heap.push (newS led)).objs.size := by rw [Heap.size_push]; exact Nat.ne_of_lt (Nat.lt_succ_of_lt lt)
  have nf : s.heap.objs.size ∉ [(s.heap.push (newS led)).objs.size, l] := by
    rw [Heap.size_push]
    intro z
    rcases List.mem_cons.mp z with z | z
    · exact absurd z (Nat.ne_of_lt (Nat.lt_succ_self _))
    · exact absurd (by simpa using z) (Nat.ne_of_gt lt)
  refine fill_loop (knd := knd) ((Walks.list (by simp [hh]) _ l nl items).toS) nf (ks := ks) hk hb items.size 0 _ (Nat.zero_add _).symm ⟨⟨_, Heap.get?_push_size _ rfl, rfl, rfl⟩, l1.push _⟩ (setOf_as ((setObjOf_fresh (knd := knd) led).setOf (Heap.get?_push_of_some _ g0) (by unfold scanBound; omega)) (funext fun k => by simp) rfl) fun s' mv x => ?_
  obtain ⟨h', g', d', t', o'⟩ := s'
  obtain rfl : g' = s.gens := mv.gens
  obtain rfl : d' = s.drawn := mv.drawn
  obtain rfl : o' = s.os := mv.os
  refine wpAny_pure (show wpAny (model prog w) _ (ret Value.none) _ _ _ from wpAny_pure ⟨rfl, h', t', rfl, ?_, fun b o hb' q => ?_⟩)
  · rw [← hn] at x
    exact setOf_as x (funext fun k => by rw [List.take_length]) rfl
  · refine mv.heap b o (fun z => ?_) (Heap.get?_push_of_some _ (Heap.get?_push_of_some _ q))
    rcases List.mem_cons.mp z with z | z
    · exact absurd z (Nat.ne_of_lt hb')
    · have z2 : b = (s.heap.push (newS led)).objs.size := by simpa using z
      rw [Heap.size_push] at z2
      exact absurd z2 (Nat.ne_of_lt (Nat.lt_succ_of_lt hb'))
set_option maxRecDepth 100000 in
theorem call_setK {l : Addr} {items : Array Value} {ks : List κ} {Q : Value → Shared → Prop} (hh : A.handled = none) (hl : s.heap.IsList l items) (hk : ∀ (i : Nat) (v : Value), items[i]? = some v → ∃ k, ks[i]? = some k ∧ knd.is k v = true ∧ v.scannable = true) (hn : ks.length = items.size) (hb : items.size + 1 < scanBound)
    (h : ∀ h' tk, Filled knd s ks h' → Q (.ref s.heap.objs.size) { s with heap := h', toks := tk }) : wpAny (model prog w) A (call (.type "set") [.ref l]) Q E s := by
  obtain ⟨c, tl, mro⟩ := F.called_set.mro
  have a1 := F.called_set.made
  have a2 := F.called_set.sub
  have a3 := F.called_set.notType
  have a4 := F.called_set.canCreate
  have a5 := F.typeCall_set_1 (.ref l)
  refine wpAny_call (codeAny_of_tree (show wpAny (model prog w) _ (callAny (.type "set") _) _ _ _ from wpAny_pure ⟨Code.quiet_builtin _ (by decide +kernel), codeAny_builtin F.entry_type_call ?_⟩))
  rw [Around.under_plain (A := A) (weight_type_call_type "set" [.ref l] []) rfl]
  repeat (any_goals (first | assumption | wp_step))
  refine codeAny_mono (code_set_new_1 (.ref l) (E := E) (Q₁ := fun ob s1 => ∃ led, ob = .ref s.heap.objs.size ∧ s1 = { s with heap := s.heap.push (newS led) }) fun led => ⟨led, rfl, rfl⟩) fun r s1 hr => ?_
  cases r with
  | error e => exact hr
  | ok fl =>
    cases fl with
    | ret ob =>
      obtain ⟨led, rfl, rfl⟩ := hr
      have g0 : (s.heap.push (newS led)).get? s.heap.objs.size = some (newS led) := Heap.get?_push_size s.heap rfl
      have ty : Shared.TypeIs { s with heap := s.heap.push (newS led) } (.ref s.heap.objs.size) "set" := ⟨newS led, g0, rfl⟩
      have b1 := F.called_set.init.lookup
      have b2 := F.called_set.init.bind (.ref s.heap.objs.size)
      repeat (any_goals (first | assumption | wp_step))
      refine codeAny_mono (init_set (E := E) (knd := knd) (by simp [hh]) hl hk hn hb) fun r2 s2 hr2 => ?_
      cases r2 with
      | error e => exact hr2
      | ok f2 =>
        cases f2 with
        | ret r =>
          obtain ⟨rfl, h', tk, rfl, x⟩ := hr2
          repeat (any_goals (first | assumption | wp_step))
          exact h h' tk x
        | _ => exact hr2.elim
    | _ => exact hr.elim
end
/-! the layer's rules -/
/-- a set of texts -/
def SetO (P : Program) (w : World) (a : Addr) (zs : List Str) : HO := .ext fun h => h.SetOf (strKind P w) a (fun z => decide (z ∈ zs)) (cntK zs zs.length)
section
variable {X : Cx}
theorem vals_strs : ∀ {zs : List Str} {us : List Value}, Vals (zs.map V.str) us → ∀ (i : Nat) (v : Value), us[i]? = some v → ∃ z t, zs[i]? = some z ∧ v = .str z t
  | [], _, .nil, i, v, h => by simp at h
  | z :: zs, _, .cons ⟨t, e⟩ r, 0, v, h => by simp at h; exact ⟨z, t, rfl, by rw [← h, e]⟩
  | z :: zs, _, .cons _ r, i + 1, v, h => by
    obtain ⟨z', t, e1, e2⟩ := vals_strs r i v (by simpa using h)
    exact ⟨z', t, by simpa using e1, e2⟩
/-- set(xs) of a list of texts -/
theorem call_set_strs (hc : X.calm = true) : CallR X (.type "set") (fun xs H Q => ∃ (p : Addr) (zs : List Str), xs = [.ref p] ∧ SqL X.K H p (zs.map V.str) ∧ zs.length ≤ 1000 ∧ ∀ l, H l = none → Q (.ref l) (upd H l (SetO X.prog X.w l zs))) := by
  intro pins s σ H xs us Q I r h
  obtain ⟨p, zs, rfl, hS, hz, q⟩ := h
  obtain ⟨u, rfl, ru⟩ := r.one
  obtain rfl : u = Value.ref p := ru
  obtain ⟨its, rv, pl, _⟩ := I.list hS
  have hl := rv.length
  rw [List.length_map] at hl
  refine call_setK (knd := strKind X.prog X.w) (ks := zs) (I.ok.hd hc) pl.isList (fun i v e => ?_) (by simpa using hl) (by unfold scanBound; simp; omega) fun h' tk x => ?_
  · obtain ⟨z, t, e1, rfl⟩ := vals_strs rv i v (by simpa using e)
    exact ⟨z, e1, by show Value.isStrOf z (.str z t) = true; simp [Value.isStrOf], rfl⟩
  · obtain ⟨x1, x2⟩ := x
    refine ⟨.ref s.heap.objs.size, _, I.laid (a := s.heap.objs.size) (o := SetO X.prog X.w s.heap.objs.size zs) (h' := h') (t' := tk) (fun b o q => x2 b o (Heap.lt_size q) q) (Nat.le_refl _) ?_, rfl, q _ I.fresh⟩
    refine ⟨x1, ?_, fun h1 h2 y k => setOf_stay y k⟩
    obtain ⟨o, _, _, _, g, _⟩ := x1
    exact ⟨o, g⟩
end
end L2

namespace L2
open PySem PySem.Spec PyProof.Rows
/-! ### exceptions that pass through loops and callers -/
/-- as ExcT, with the flight of the trace's head -/
def ExcF (h : Heap) (e T : Addr) (cls a0 fl : Value) : Prop :=
  ∃ oe vs oT ts, h.get? e = some oe ∧ (oe.cls = cls ∧ vs[0]? = some a0) ∧ oe.data = .fields vs ∧ vs[1]? = some (.ref T) ∧ T ≠ e ∧ h.get? T = some oT ∧ oT.data = .fields ts ∧ ts[3]? = some fl
/-- an exception in the frame at L: just made, flying, or held there -/
inductive ExcS (h : Heap) (L e : Addr) (cls a0 : Value) : List Addr → Prop where
  | fresh {oe : Obj} {vs : Array Value} (he : h.get? e = some oe) (hc : oe.cls = cls) (hd : oe.data = .fields vs) (h1 : vs[1]? = some Value.none) (h0 : vs[0]? = some a0) : ExcS h L e cls a0 []
  | fly {T : Addr} (x : ExcF h e T cls a0 .none) : ExcS h L e cls a0 [T]
  | held {T : Addr} (x : ExcF h e T cls a0 (rawInt L)) : ExcS h L e cls a0 [T]
section
variable {M : Model} {A : Around} {E : Value → Shared → Prop} {s : Shared} {base : Heap} {env : Env} {outer : List Env} {L e T : Addr} {a0 cls fl : Value} {Q : Unit → Shared → Prop} {Ts : List Addr}
theorem Stp.refl (F Y : List Addr) (h : Heap) : Stp F Y h h := ⟨fun _ _ _ _ q => q, fun _ o _ q => ⟨o.slots, q⟩⟩
/-- the frame's entry is there behind it -/
theorem note (hf : A.frames = some (env :: outer)) (ff : s.heap.FunFrames base (env :: outer)) (hL : env.frame = some L) (x : ExcS s.heap L e cls a0 Ts)
    (h : ∀ h' T', Stp (frs (env :: outer)) (e :: Ts) s.heap h' → ExcF h' e T' cls a0 (rawInt L) → (s.heap.get? T' = none ∨ T' ∈ Ts) → Q () { s with heap := h' }) : wpAny M A (noteFrame (.ref e) env) Q E s := by
  cases x with
  | @fresh oe vs he hc hd h1 h0 =>
    unfold noteFrame
    simp only [hL]
    refine wpAny_bind (wpAny_field he hd h1 ?_)
    rw [if_neg (by decide)]
    refine wpAny_entryW (base := PySem.W.hideAll s.heap ([e] ++ frs (env :: outer))) hf (hid_frames _ ff) hL he (fun b o q => PySem.W.of_hideAll _ q) (PySem.W.hideAll_none _ (by simp)) hd (Array.getElem?_eq_some_iff.mp h1).1 h0 fun h' lw => ?_
    obtain ⟨st, _, ⟨oe', vs', T, oT, ts, t1, t2, t3, t4, t5, t6, t7, t8, t9⟩, up⟩ := lw
    have hslot : ∀ b o, b ∈ frs (env :: outer) → s.heap.get? b = some o → ∃ sl, h'.get? b = some { o with slots := sl } := fun b o hb q => by
      obtain ⟨_, o2, q2, nf⟩ := ff.mem hb
      rw [q] at q2; cases q2
      exact up b o q nf
    refine h h' T ⟨fun b o hb hx q => st b o (PySem.W.hideAll_get _ q (by simp only [List.mem_append]; exact fun z => z.elim hx hb)), hslot⟩ ⟨oe', vs', oT, ts, t1, ⟨t2.1.trans hc, t2.2⟩, t3, t4, t6, t7, t8, t9⟩ ?_
    rcases new_head ff t5 hslot t7 t8 with z | z
    · exact .inl z
    · exact absurd (by simpa using z) t6
  | @fly T x =>
    obtain ⟨oe, vs, oT, ts, x1, x2, x3, x4, x5, x6, x7, x8⟩ := x
    refine wpAny_noteFrame_onW (base := PySem.W.hideAll s.heap ([e, T] ++ frs (env :: outer))) hf (hid_frames _ ff) hL ⟨oe, vs, T, oT, ts, x1, x2, x3, x4, PySem.W.hideAll_none _ (by simp), x5, x6, x7, x8⟩ (fun b o q => PySem.W.of_hideAll _ q) (PySem.W.hideAll_none _ (by simp)) fun h' lw => ?_
    obtain ⟨st, _, ⟨oe', vs', T', oT', ts', t1, t2, t3, t4, t5, t6, t7, t8, t9⟩, up⟩ := lw
    have hslot : ∀ b o, b ∈ frs (env :: outer) → s.heap.get? b = some o → ∃ sl, h'.get? b = some { o with slots := sl } := fun b o hb q => by
      obtain ⟨_, o2, q2, nf⟩ := ff.mem hb
      rw [q] at q2; cases q2
      exact up b o q nf
    refine h h' T' ⟨fun b o hb hx q => st b o (PySem.W.hideAll_get _ q (by simp only [List.mem_append]; exact fun z => z.elim hx hb)), hslot⟩ ⟨oe', vs', oT', ts', t1, t2, t3, t4, t6, t7, t8, t9⟩ ?_
    rcases new_head ff t5 hslot t7 t8 with z | z
    · exact .inl z
    · rcases List.mem_cons.mp z with z | z
      · exact absurd z t6
      · exact .inr z
  | @held T x =>
    obtain ⟨oe, vs, oT, ts, x1, x2, x3, x4, x5, x6, x7, x8⟩ := id x
    exact wpAny_noteFrame_againW (base := PySem.W.hideAll s.heap [T]) hL ⟨oe, vs, T, oT, ts, x1, x2, x3, x4, PySem.W.hideAll_none _ (by simp), x5, x6, x7, x8⟩ (h s.heap T (Stp.refl _ _ _) x (.inr (by simp)))
/-- the head's flight is set -/
theorem flyTo {fr : Option Addr} {l : List Env} (ff : s.heap.FunFrames base l) (x : ExcF s.heap e T cls a0 fl) (h : ∀ h', Stp (frs l) [e, T] s.heap h' → ExcF h' e T cls a0 (fr.elim Value.none fun f => rawInt f) → Q () { s with heap := h' }) : wpAny M A (setFlight (.ref e) fr) Q E s := by
  obtain ⟨oe, vs, oT, ts, x1, x2, x3, x4, x5, x6, x7, x8⟩ := x
  have sz : 3 < ts.size := (Array.getElem?_eq_some_iff.mp x8).1
  have oth : ∀ b, b ≠ T → (s.heap.update T (Obj.mapFields (·.setIfInBounds 3 (fr.elim Value.none fun f => rawInt f)))).get? b = s.heap.get? b := fun b hb => Heap.get?_update_other _ _ (Ne.symm hb)
  unfold setFlight
  refine wpAny_bind (wpAny_field x1 x3 x4 ?_)
  rw [if_pos (show (Value.ref T != Value.none) = true by simp)]
  refine wpAny_setField x6 x7 sz (h _ ⟨fun b o hb hx q => (oth b fun z => hx (by simp [z])).trans q, fun b o hb q => ?_⟩ ⟨oe, vs, _, _, (oth e (Ne.symm x5)).trans x1, x2, x3, x4, x5, Heap.get?_update_self _ x6 (Obj.isFreed_of_fields (Obj.data_mapFields x7 _)), Obj.data_mapFields x7 _, by simp [sz]⟩)
  obtain ⟨_, o2, q2, nf⟩ := ff.mem hb
  rw [q] at q2; cases q2
  exact ⟨o.slots, (oth b fun z => nf ts (by rw [z, x6] at q; cases q; exact x7)).trans q⟩
end
section
variable {X : Cx} {pins : List (Addr × Obj)} {σ : St} {H : Hp} {s : Shared} {h' : Heap} {Y : List Addr}
theorem Inv.excStepY (I : Inv X pins σ H s) (st : Stp (frs X.stack) Y s.heap h') (nY : ∀ b ∈ Y, NewAt X pins H b) : Inv X pins σ H { s with heap := h' } := by
  have hsub : ∀ b, b ≠ X.env.locals → b ∉ X.fs → b ∉ frs X.stack := fun b h1 h2 z => (List.mem_cons.mp (I.stkSub b z)).elim h1 h2
  have entY : ∀ b o, X.s₀.heap.get? b = some o → b ∉ Y := fun b o q z => by rw [(nY b z).ent] at q; cases q
  have neL : ∀ b o, X.s₀.heap.get? b = some o → b ≠ X.env.locals := fun b o q => Nat.ne_of_lt (Nat.lt_of_lt_of_le (Heap.lt_size q) I.ok.above)
  have any : ∀ b o, b ∉ Y → s.heap.get? b = some o → ∃ sl, h'.get? b = some { o with slots := sl } := fun b o hy q => by
    by_cases hF : b ∈ frs X.stack
    · exact st.slot b o hF q
    · exact ⟨o.slots, st.keep b o hF hy q⟩
  have cellK : ∀ x c, X.env.cells.lookup x = some c → ∀ v, s.heap.IsCell c v → h'.IsCell c v := fun x c ec v ⟨o, ho, hd⟩ => by
    obtain ⟨sl, q⟩ := any c o (fun z => (nY c z).cel x c ec rfl) ho
    exact ⟨_, q, hd⟩
  refine ⟨I.ok, I.os, I.bare, ⟨fun b o q n hb hxx => ?_, fun b o q n hb hxx => ?_, I.base.free, fun b o q hxx => ?_, I.base.tups, I.base.frzs, I.base.tbls⟩, ?_, fun x c ec => ?_, I.free, I.freeC, fun p hp => ?_, I.hok.stp st I.stkFree (fun b hb => (nY b hb).unt), I.len⟩
  · exact st.keep b o (hsub b (neL b o q) hb) (entY b o q) (I.base.keep b o q n hb hxx)
  · obtain ⟨sl, q1⟩ := I.base.slot b o q n hb hxx
    obtain ⟨sl2, q2⟩ := any b _ (entY b o q) q1
    exact ⟨sl2, q2⟩
  · obtain ⟨o1, q1⟩ := I.base.there b o q hxx
    obtain ⟨sl2, q2⟩ := any b _ (entY b o q) q1
    exact ⟨_, q2⟩
  · obtain ⟨m, ⟨oL, es, ep, hoL, r⟩, hl⟩ := I.loc
    obtain ⟨sl, q⟩ := any X.env.locals oL (fun z => (nY _ z).loc rfl) hoL
    refine ⟨m, ⟨_, es, ep, q, r⟩, fun i x v e1 e2 e3 => ?_⟩
    obtain ⟨u, ru, l⟩ := hl i x v e1 e2 e3
    refine ⟨u, ru, ?_⟩
    rcases l with l | ⟨k, c, ec, z⟩
    · exact .inl l
    · exact .inr ⟨k, c, ec, cellK x c ec _ z⟩
  · obtain ⟨v, z⟩ := I.cell x c ec
    exact ⟨v, cellK x c ec v z⟩
  · obtain ⟨q, n, nL, nf, d⟩ := I.pin p hp
    exact ⟨st.keep p.1 p.2 (hsub p.1 nL nf) (fun z => (nY _ z).pin p hp rfl) q, n, nL, nf, d⟩
end
/-- what is wanted of an exception in a def's body: it lies as ExcS tells, the state is that of the body -/
def XEof (X : Cx) (L : Addr) (E : XK) : Value → Shared → Prop := fun ev s' => ∃ (e C : Addr) (a0 : Value) (Ts : List Addr) (pins : List (Addr × Obj)) (σ : St) (H' : Hp), ev = .ref e ∧ Inv X pins σ H' s' ∧ ExcS s'.heap L e (.ref C) a0 Ts ∧ (∀ b ∈ e :: Ts, NewAt X pins H' b) ∧ E (.ref C) none H'
theorem passes_XE {X : Cx} {L : Addr} {E : XK} (hst : X.stack = X.env :: X.outer) (hfr : X.env.frame = some L) (hx : X.ex = []) : PassesOwn (model X.prog X.w) X.A X.env (XEof X L E) := by
  rintro ev s1 ⟨e, C, a0, Ts, pins, σ, H, rfl, I, x, ny, q⟩
  have fr1 : X.A.frames = some (X.env :: X.outer) := by rw [← hst]; exact I.ok.frames
  have ff1 : s1.heap.FunFrames X.base (X.env :: X.outer) := by rw [← hst]; exact I.stack
  refine note fr1 ff1 hfr x fun h2 T st x2 hT => ?_
  rw [← hst] at st
  have I2 := I.excStepY st ny
  have nT : NewAt X pins H T := by
    rcases hT with z | z
    · exact I.newAt hx z
    · exact ny T (List.mem_cons_of_mem e z)
  have n2 : ∀ b ∈ [e, T], NewAt X pins H b := fun b hb => by
    rcases List.mem_cons.mp hb with z | z
    · rw [z]; exact ny e List.mem_cons_self
    · rw [show b = T by simpa using z]; exact nT
  show wpAny (model X.prog X.w) X.A (do
    if (← field (.ref e) 1) == .none then unsupported "frame.own-activation:exception-without-traceback"
    setFlight (.ref e) X.env.frame) _ _ { s1 with heap := h2 }
  obtain ⟨oe, vs, oT, ts, y1, y2, y3, y4, y5, y6, y7, y8⟩ := id x2
  refine wpAny_bind (wpAny_field (s := { s1 with heap := h2 }) y1 y3 y4 ?_)
  rw [if_neg (show ¬ (Value.ref T == Value.none) = true by simp)]
  show wpAny (model X.prog X.w) X.A (setFlight (.ref e) X.env.frame) _ _ _
  rw [hfr]
  refine flyTo (s := { s1 with heap := h2 }) (l := X.stack) I2.stack x2 fun h3 st3 x3 => ?_
  exact ⟨e, C, a0, [T], pins, σ, H, rfl, I2.excStepY st3 n2, .held x3, n2, q⟩
section
variable {P : Program} {w : World} {K : PySem.W.Frag} {mg : Str → Option Value} {base : Heap} {N : List Str} {qual : Str} {scope : Scope} {f : Addr} {cd : Value} {A : Around} {outer : List Env} {s0 : Shared} {H0 : Hp} {E : XK}
/-- the context of a body that may raise -/
abbrev cxE (P : Program) (w : World) (K : PySem.W.Frag) (mg : Str → Option Value) (base : Heap) (N : List Str) (qual : Str) (scope : Scope) (f : Addr) (cd : Value) (A : Around) (outer : List Env) (s0 : Shared) (H0 : Hp) (E : XK) : Cx :=
  (cxOf (CX1 P w) P w K mg base N qual scope f cd A outer s0 H0 E).wish (XEof (cxOf (CX1 P w) P w K mg base N qual scope f cd A outer s0 H0 E) s0.heap.objs.size E)
/-- an exception leaves the body -/
theorem XE_leaves {ev : Value} {s : Shared} (h : XEof (cxOf (CX1 P w) P w K mg base N qual scope f cd A outer s0 H0 E) s0.heap.objs.size E ev s) : (cxOf (CX1 P w) P w K mg base N qual scope f cd A outer s0 H0 E).xe ev s := by
  obtain ⟨e, C, a0, Ts, pins, σ, H, rfl, I, x, ny, q⟩ := h
  have fr1 : (cxOf (CX1 P w) P w K mg base N qual scope f cd A outer s0 H0 E).A.frames = some (envOfC qual scope s0.heap.objs.size f cd :: outer) := I.ok.frames
  have hL : (envOfC qual scope s0.heap.objs.size f cd).frame = some s0.heap.objs.size := rfl
  show wpAny (model P w) _ (leaving (envOfC qual scope s0.heap.objs.size f cd) (.ref e)) _ _ s
  unfold leaving
  refine wpAny_bind (note fr1 I.stack hL x fun h2 T st x2 hT => ?_)
  have I2 := I.excStepY st ny
  have nT : NewAt (cxOf (CX1 P w) P w K mg base N qual scope f cd A outer s0 H0 E) pins H T := by
    rcases hT with z | z
    · exact I.newAt rfl z
    · exact ny T (List.mem_cons_of_mem e z)
  have ne := ny e List.mem_cons_self
  have n2 : ∀ b ∈ [e, T], NewAt (cxOf (CX1 P w) P w K mg base N qual scope f cd A outer s0 H0 E) pins H b := fun b hb => by
    rcases List.mem_cons.mp hb with z | z
    · rw [z]; exact ne
    · rw [show b = T by simpa using z]; exact nT
  refine flyTo (s := { s with heap := h2 }) (l := envOfC qual scope s0.heap.objs.size f cd :: outer) I2.stack x2 fun h3 st3 x3 => ?_
  refine ⟨e, T, C, a0, H, rfl, I2.os, I2.bare, I2.base.stp st3 (fun b o q hb => ?_) (fun b hb => ?_) (fun b hb => (n2 b hb).ent), I2.hok.stp st3 I2.stkFree (fun b hb => (n2 b hb).unt), x3, ne.ent, nT.ent, ne.unt, nT.unt, q⟩
  · rcases List.mem_cons.mp (I2.stkSub b hb) with z | z
    · exact absurd (Nat.lt_of_lt_of_le (Heap.lt_size q) I2.ok.above) (by rw [z]; exact Nat.lt_irrefl _)
    · exact z
  · show b ∈ frs (envOfC qual scope s0.heap.objs.size f cd :: outer)
    unfold frs
    rw [List.filterMap_cons]
    exact List.mem_cons_of_mem _ hb
theorem PSs.leaves {st : List Stmt} {t : TS} (h : PSs (cxE P w K mg base N qual scope f cd A outer s0 H0 E) st t) : PSs (cxOf (CX1 P w) P w K mg base N qual scope f cd A outer s0 H0 E) st t := fun pins s σ H D I hw =>
  wpAny_mono (h pins s σ H D (I.wish _) hw) (fun _ _ q => q.unwish) fun _ _ z => XE_leaves z
/-- THE RULE for a def that may raise, in loops too -/
theorem Fun.okE {x : Str} {st : Stmt} {fd : FuncData} {ps : List Str} {k : Nat} {sp : Sp} (F : Fun K x qual st f fd) (S : FnScope N ps (defScope st)) (len : ∀ vs H Q E, sp vs H Q E → vs.length = ps.length)
    (hbody : ∀ (cdv : Value) (A : Around) (outer : List Env) (s : Shared) (H : Hp) (vs : List V) (Q : VK) (E : XK), Room k (A.deeper (envOfC qual (defScope st) s.heap.objs.size f cdv)) → sp vs H Q E →
      ∃ t, PSs (cxE P w K mg base N qual (defScope st) f cdv A outer s H E) (defBody st) t ∧ t { nx := fun _ H' => Q .non H', rt := Q } (start N vs) H) : FnOk P w K mg base (CX1 P w) (k + 1) f fd ps sp := by
  obtain ⟨oc, od, kV, doc, pm, an, cdv, ct, osl, rfl, lk, hcd⟩ := F.ex
  refine fn_of lk hcd S len fun A outer s H vs Q E hr hsp => ?_
  obtain ⟨t, h, q⟩ := hbody cdv A outer s H vs Q E hr hsp
  exact ⟨t, h.leaves, q⟩
/-- raise C(..) -/
theorem ps_raiseE {x : Str} {C : Addr} {np cpos pos : Pos} {e₀ : Expr} {es : List Expr} {t : TA} (X : ExcCls K C) (hd : A.handled = none) (hg : Gl (cxE P w K mg base N qual scope f cd A outer s0 H0 E) x) (hm : mg x = some (.ref C))
    (ha : PA (cxE P w K mg base N qual scope f cd A outer s0 H0 E) (e₀ :: es) t) (hdb : (x == ("__debug__" : Str)) = false := by decide)
    (he : starEach (e₀ :: es) (envOfC qual scope s0.heap.objs.size f cd) = (false, eval e₀ (envOfC qual scope s0.heap.objs.size f cd)) :: starEach es (envOfC qual scope s0.heap.objs.size f cd) := by rfl)
    (hpl : (backTo cpos (starEach es (envOfC qual scope s0.heap.objs.size f cd))).any (·.1) = false := by rfl) :
    PS (cxE P w K mg base N qual scope f cd A outer s0 H0 E) (.Raise (some (.Call (.Name x np) (e₀ :: es) [] cpos)) none pos) (tRaise C E t) := by
  intro pins s σ H D I h
  obtain ⟨bmB, bmN, newId, B, Bn, nid, initId, inN, hx, F1, F2, F3⟩ := X.ex
  obtain ⟨bm, N', nm, q, bs, hdct, sn, sub, ab, col, dd, k0, k1, k2, k3, k5, mN, o1, o2, o3, o4⟩ := ExcCls.obj I.ok.mod.kin hx
  refine wpAny_Raise_call_subU (C := C) (nm := nm) (q := q) (N := N') (bs := bs) (bm := bm) (hdct := hdct) (sn := sn) (sub := sub) (ab := ab) (col := col) (dd := dd) (k0 := k0) (k1 := k1) (k2 := k2) (k3 := k3) (k5 := k5) F1 F2 F3 (OwnTail.hasType o4 F3.hasBase) hd (by
    show (backTo cpos (starEach (e₀ :: es) (envOfC qual scope s0.heap.objs.size f cd))).any (·.1) = false
    rw [he]
    show (false || (backTo cpos (starEach es (envOfC qual scope s0.heap.objs.size f cd))).any (·.1)) = false
    rw [hpl]; rfl) (mN := mN) o3 (ld_glob I hg hm ⟨rfl, ?_⟩ hdb)
  show wpAny _ _ (evalArgs (.ref C) true (backTo cpos (starEach (e₀ :: es) (envOfC qual scope s0.heap.objs.size f cd))) []) _ _ s
  rw [he]
  refine Calls.evalArgs_plain ?_
  have z : wpAny (model P w) (cxE P w K mg base N qual scope f cd A outer s0 H0 E).A (spliced (backTo cpos (starEach (e₀ :: es) (envOfC qual scope s0.heap.objs.size f cd)))) _ _ s := ha cpos pins s σ H _ I h
  rw [he] at z
  refine thn z fun us s2 ⟨vs, H2, I2, r, hl, q2⟩ => ⟨rfl, by rw [← r.length]; exact hl, ?_⟩
  refine ⟨I2.bk C _ o1, ?_, o4.keeps I2.bk, fun h' e m => ?_⟩
  · obtain ⟨o, es', ep, g1, g2⟩ := o2
    exact ⟨o, es', ep, I2.bk _ _ g1, g2⟩
  · have J := I2.unwish
    obtain ⟨t', he', _, _⟩ := m.there
    refine ⟨e, C, .ref t', [], pins, σ, H2, rfl, J.kept (t' := s2.toks) m.keeps, .fresh he' rfl rfl rfl rfl, fun b hb => ?_, q2⟩
    rw [show b = e by simpa using hb]
    exact J.newAt rfl m.new
/-- what a callee raises passes on -/
theorem passE : Passes (CX1 P w) (cxE P w K mg base N qual scope f cd A outer s0 H0 E) E := fun pins σ H s ev s' I h => by
  obtain ⟨e, T, C, a0, H', rfl, J, x, ne, nT, q⟩ := (I.unwish).afterX (EX := fun C H' => E (.ref C) none H') rfl (fun _ _ z => z) h
  refine ⟨e, C, a0, [T], pins, σ, H', rfl, J, .fly x, fun b hb => ?_, q⟩
  rcases List.mem_cons.mp hb with z | z
  · rw [z]; exact ne
  · rw [show b = T by simpa using z]; exact nT
end
end L2

namespace L2
open PySem PySem.Spec PyProof.Rows
/-! ### list.index, len of a set of texts, calls whose exceptions pass on -/
section
variable {X : Cx}
def rIndex (K : PySem.W.Frag) : V → List V → Hp → VK → Prop := fun x vs H Q => ∃ (p : Addr) (xs : List V) (y z : V) (j : Nat), x = .ref p ∧ vs = [y] ∧ SqL K H p xs ∧ flatV y = true ∧ xs.all flatV = true ∧ xs[j]? = some z ∧ eqV z y = true ∧ (∀ (m : Nat) (u : V), m < j → xs[m]? = some u → eqV u y = false) ∧ Q (.int j) H
theorem call_len_setO : CallR X (.builtin "len") (fun xs H Q => ∃ (l : Addr) (zs : List Str), xs = [.ref l] ∧ H l = some (SetO X.prog X.w l zs) ∧ zs.length ≤ 1000 ∧ Q (.int ((cntK zs zs.length : Nat) : Int)) H) := by
  intro pins s σ H xs us Q I r h
  obtain ⟨l, zs, rfl, e, hz, q⟩ := h
  obtain ⟨u, rfl, ru⟩ := r.one
  obtain rfl : u = Value.ref l := ru
  obtain ⟨⟨o, es, ep, t, g1, g2, g3, _, _, _, g4, g5⟩, _, _⟩ := I.hok l _ e
  have le := cntK_le zs zs.length
  refine call_len_set g1 g2 g3 g4 (by rw [g5]; omega) ⟨.int _, H, I.tok _, ⟨_, rfl⟩, ?_⟩
  rw [g5]; exact q
end
/-- calls, with what is wanted of their exceptions -/
def tFnE (sp : Sp) (E : XK) (t : TA) : TE := fun σ H Q => t σ H fun vs H1 => sp vs H1 Q E
def tMtE (C : Addr) (m : Str) (sp : Sp) (E : XK) (ta : TE) (t : TA) : TE := fun σ H Q => ta σ H fun x H1 => ∃ a dx fs, x = .ref a ∧ H1 a = some (.ins C dx fs) ∧ fs.lookup m = none ∧ t σ H1 fun vs H2 => sp (x :: vs) H2 Q E
def tMkE (C : Addr) (sp : Sp) (E : XK) (t : TA) : TE := fun σ H Q => t σ H fun vs H1 => ∀ x dx, H1 x = none → H1 dx = none → dx ≠ x →
  sp (.ref x :: vs) (upd (upd H1 dx (.own x)) x (.ins C dx [])) (fun v H2 => v = .non ∧ Q (.ref x) H2) E
section
variable {X : Cx} {k : Nat} {f C : Addr} {fd : FuncData} {ps : List Str} {sp : Sp} {x m : Str} {p np pos apos : Pos} {e o : Expr} {es : List Expr} {ta : TE} {t : TA} {E : XK}
theorem pe_fnE (M : CalleeX X.prog X.w X.K X.mg X.base k x ps sp) (hx : Passes (CX1 X.prog X.w) X E) (hr : Room k X.A) (hg : Gl X x) (ha : PA X (e :: es) t) (hdb : (x == ("__debug__" : Str)) = false := by decide)
    (he : starEach (e :: es) X.env = (false, eval e X.env) :: starEach es X.env := by rfl) (hpl : (backTo pos (starEach es X.env)).any (·.1) = false := by rfl) : PE X (.Call (.Name x p) (e :: es) [] pos) (tFnE sp E t) := by
  obtain ⟨f, fd, F, b, kk, hm⟩ := M
  intro pins s σ H Q I h
  refine wpAny_Call_Name_kw (ld_glob I hg hm ?_ hdb)
  refine PySem.W.callWith_K (h₀ := X.base) I.ok.mod.kin kk (thn (ha pos pins s σ H _ I h) fun us s1 ⟨vs, H1, I1, r, q⟩ => ⟨I1.kIn, run0 F hr b hx I1 r q⟩) he hpl
theorem pe_mkE {CX : CXT} (M : MkCallee CX X.prog X.w X.K X.mg X.base k x C ps sp) (hx : Passes CX X E) (hr : Room (k + 1) X.A) (hg : Gl X x) (ha : PA X (e :: es) t) (hdb : (x == ("__debug__" : Str)) = false := by decide)
    (he : starEach (e :: es) X.env = (false, eval e X.env) :: starEach es X.env := by rfl) (hpl : (backTo pos (starEach es X.env)).any (·.1) = false := by rfl) :
    PE X (.Call (.Name x p) (e :: es) [] pos) (tMkE C sp E t) := by
  obtain ⟨f, fd, M, F, hb, hm⟩ := M
  have h := pe_make (E := E) (dvs := []) (ds := []) (p := p) M F hr hg hm hb .nil hx ha hdb he hpl
  intro pins s σ H Q I q
  refine h pins s σ H Q I ?_
  have e1 : (fun (vs : List V) (H1 : Hp) => ∀ x dx, H1 x = none → H1 dx = none → dx ≠ x → sp (.ref x :: (vs ++ [])) (upd (upd H1 dx (.own x)) x (.ins C dx [])) (fun v H2 => v = .non ∧ Q (.ref x) H2) E) = fun vs H1 => ∀ x dx, H1 x = none → H1 dx = none → dx ≠ x → sp (.ref x :: vs) (upd (upd H1 dx (.own x)) x (.ins C dx [])) (fun v H2 => v = .non ∧ Q (.ref x) H2) E := by
    funext vs H1
    rw [List.append_nil]
  show t σ H fun vs H1 => ∀ x dx, H1 x = none → H1 dx = none → dx ≠ x → sp (.ref x :: (vs ++ [])) (upd (upd H1 dx (.own x)) x (.ins C dx [])) (fun v H2 => v = .non ∧ Q (.ref x) H2) E
  rw [e1]
  exact q
end
end L2

namespace L2
open PySem PySem.Spec PyProof.Rows
/-! ### min and max of a list of ints; a set of ints and how many it has -/
section
variable {X : Cx}
end
/-- a set of ints -/
def SetI (P : Program) (w : World) (a : Addr) (ns : List Int) : HO := .ext fun h => h.SetOf (intKind P w) a (fun z => decide (z ∈ ns)) (cntK ns ns.length)
section
variable {X : Cx}
end
end L2
namespace L2
open PySem PySem.Spec PyProof.Rows
section
variable {X : Cx}
def rUpper : V → List V → Hp → VK → Prop := fun x vs H Q => ∃ z : Str, x = .str z ∧ vs = [] ∧ z.length ≤ 1000 ∧ Q (.str (Txt.upper z)) H
end
end L2

namespace L2
open PySem PySem.Spec PyProof.Rows
/-! ### isinstance against an own class or a built-in one, of a tuple of the module too -/
def TyG (K : PySem.W.Frag) (H : Hp) (x : V) (t : Value) : Prop := TyOf K H x t ∨ ∃ a ys, x = .ref a ∧ SqT K H a ys ∧ t = .type "tuple"
inductive ClV : V → Value → Prop where
  | ty (T : String) : ClV (.ty T) (.type T)
  | ref (C : Addr) : ClV (.ref C) (.ref C)
section
variable {X : Cx}
theorem call_isiG : CallR X (.builtin "isinstance") (fun xs H Q => ∃ x c cv t b, xs = [x, c] ∧ ClV c cv ∧ TyG X.K H x t ∧ PySem.W.kitOne X.K t cv = some b ∧ Q (.bl b) H) := by
  intro pins s σ H xs us Q I r h
  obtain ⟨x, c, cv, t, b, rfl, rc, ty, e, q⟩ := h
  cases r with
  | cons rx r2 =>
    cases r2 with
    | @cons _ cu _ _ ry r3 =>
      cases r3
      have ec : cu = cv := by cases rc <;> exact ry
      subst ec
      rcases ty with ty | ⟨a, ys, rfl, hS, rfl⟩
      · exact isinst_ok I rx ty e fun tk => ⟨.bl b, H, I.tok tk, rfl, q⟩
      · cases (show _ = Value.ref a from rx)
        obtain ⟨its, r, ⟨o, h1, h2, _⟩, _⟩ := I.tuple hS
        exact PySem.W.kia_one PySem.W.kitx_tuple I.kIn ⟨o, h1, h2⟩ e (fun z => nomatch z) fun tk => ⟨.bl b, H, I.tok tk, rfl, q⟩
end
/-- what the text must have for isinstance of an instance of C -/
structure InsT (K : PySem.W.Frag) (C : Addr) : Prop where
  cl : Cls K C
  ha : PySem.W.findIn K (.ref C) "__class__" = some (some (.builtin "object.__class__"))
  hn : PySem.W.specialIn K (.builtin "object.__class__") "__get__" = some (some (.builtin "getset_descriptor.__get__"))
  tk : PySem.W.takesIn K (.builtin "object.__class__") = some true
  hm : PySem.W.mroIn K C (.type "object") = some true
theorem InsT.ty {K : PySem.W.Frag} {C : Addr} (h : InsT K C) {H : Hp} {a dx : Addr} {fs : List (Str × V)} (e : H a = some (.ins C dx fs)) : TyG K H (.ref a) (.ref C) := .inl (.ins e h.cl h.ha h.hn h.tk h.hm)
/-! ### a method of one of several classes -/
def PolM (CX : CXT) (P : Program) (w : World) (K : PySem.W.Frag) (mg : Str → Option Value) (base : Heap) (k : Nat) (m : Str) (ps : List Str) (cs : List (Addr × Sp)) : Prop :=
  ∀ p ∈ cs, MCallee CX P w K mg base k p.1 m ps p.2 ∧ Cls K p.1
section
variable {CX : CXT} {P : Program} {w : World} {K : PySem.W.Frag} {mg : Str → Option Value} {base : Heap} {k : Nat} {C : Addr} {m : Str} {ps : List Str} {sp : Sp} {cs : List (Addr × Sp)}
theorem poln : PolM CX P w K mg base k m ps [] := fun _ h => nomatch h
theorem polc (M : MCallee CX P w K mg base k C m ps sp) (c : Cls K C) (r : PolM CX P w K mg base k m ps cs) : PolM CX P w K mg base k m ps ((C, sp) :: cs) := fun p h => by
  rcases List.mem_cons.mp h with rfl | h
  · exact ⟨M, c⟩
  · exact r p h
end
def tMtP (cs : List (Addr × Sp)) (m : Str) (ta : TE) (t : TA) : TE := fun σ H Q => ta σ H fun x H1 => ∃ a p dx fs, x = .ref a ∧ p ∈ cs ∧ H1 a = some (.ins p.1 dx fs) ∧ fs.lookup m = none ∧ t σ H1 fun vs H2 => p.2 (x :: vs) H2 Q E0
section
variable {X : Cx} {CX : CXT} {k : Nat} {f C : Addr} {fd : FuncData} {ps : List Str} {sp : Sp} {x m : Str} {p np pos apos : Pos} {e o : Expr} {es : List Expr} {ta : TE} {t : TA} {cs : List (Addr × Sp)}
theorem pe_mtP {pl : Sem Bool} (M : PolM CX X.prog X.w X.K X.mg X.base k m ps cs) (hx : Passes CX X E0) (hr : Room k X.A) (he : PE X o ta) (ha : PA X (e :: es) t)
    (hst : starEach (e :: es) X.env = (false, eval e X.env) :: starEach es X.env := by rfl) (hpl : (backTo pos (starEach es X.env)).any (·.1) = false := by rfl)
    (ht : eval (.Call (.Attribute o m apos) (e :: es) [] pos) X.env = (do
      let ov ← eval o X.env
      standAt apos.atName
      let (f, first) ← holding [ov] (getMethod ov m pl)
      callWith pos f first (backTo pos (starEach (e :: es) X.env)) (backToKw pos (keywordEach [] X.env))) := by rfl) :
    PE X (.Call (.Attribute o m apos) (e :: es) [] pos) (tMtP cs m ta t) := by
  intro pins s σ H Q I h
  refine PySem.W.methodCall_KW (pl := pl) (thn (he pins s σ H _ I h) fun u s1 ⟨x, H1, I1, rx, a, p, dx, fs, ex, hp, ea, l, q⟩ => ?_) ht
  obtain ⟨⟨f, fd, hm, F, hb⟩, c⟩ := M p hp
  subst ex
  obtain rfl : u = Value.ref a := rx
  refine getmeth_ok I1 ea c hm l ?_
  refine PySem.W.callWith_K (first := [.ref a]) (h₀ := X.base) I.ok.mod.kin hm.kp (thn (ha pos pins s1 σ H1 _ I1 q) fun us s2 ⟨vs, H2, I2, r, q2⟩ => ⟨I2.kIn, ?_⟩) hst hpl
  exact run0 (us := .ref a :: us) (vs := .ref a :: vs) F hr hb hx I2 (.cons rfl r) q2
/-- C() -/
theorem pe_mk0 (M : MkCallee CX X.prog X.w X.K X.mg X.base k x C ps sp) (hx : Passes CX X E0) (hr : Room (k + 1) X.A) (hg : Gl X x) (hdb : (x == ("__debug__" : Str)) = false := by decide) :
    PE X (.Call (.Name x p) [] [] pos) (tMk C sp tNil) := by
  obtain ⟨f, fd, M, F, hb, hm⟩ := M
  have h := pe_make0 (E := E0) (dvs := []) (ds := []) (p := p) (pos := pos) M F hr hg hm hb .nil hx hdb
  intro pins s σ H Q I q
  exact h pins s σ H Q I q
end
/-! ### a tuple of the module -/
def ModT (K : PySem.W.Frag) (a : Addr) (xs : List V) : Prop := ∃ (o : Obj) (its : Array Value) (n : Nat), K.lookup a = some o ∧ o.cls = .type "tuple" ∧ o.data = .seq its n ∧ its.size ≤ sizeLine ∧ Vals xs its.toList
end L2
namespace L2
open PySem PySem.Spec PyProof.Rows
/-- two lists with the same items -/
theorem rEqL_same {K : PySem.W.Frag} {H : Hp} {Q : VK} {a b : Addr} {xs : List V} (ha : SqL K H a xs) (hb : SqL K H b xs) (fl : ∀ x ∈ xs, flatV x = true ∨ ∃ r, x = .ref r) (q : Q (.bl true) H) : rEqL K false (.ref a) (.ref b) H Q := by
  refine ⟨a, b, xs, xs, rfl, rfl, ha, hb, .inr ⟨rfl, fun _ => true, fun j x y e1 e2 => ?_, ?_⟩⟩
  · rw [e1] at e2; cases e2
    rcases fl x (List.mem_of_getElem? e1) with z | ⟨r, rfl⟩
    · have := EqI.flat (K := K) (H := H) z z
      rw [eqV_refl z] at this
      exact this
    · exact .same r
  · have : (List.range xs.length).all (fun _ => true) = true := by simp
    rw [this]
    exact q
theorem iteTS {c A B : Prop} [Decidable c] (hc : c) (h : A) : if decide c = true then A else B := by rw [if_pos (decide_eq_true hc)]; exact h
theorem iteFS {c A B : Prop} [Decidable c] (hc : ¬ c) (h : B) : if decide c = true then A else B := by rw [if_neg (by rw [decide_eq_false hc]; decide)]; exact h
end L2

namespace L2
open PySem PySem.Spec PyProof.Rows
/-! ### for a, b in zip(xs, ys), of two lists that stay -/
section
variable {X : Cx} {pins : List (Addr × Obj)} {σ : St} {H : Hp} {s : Shared} {h' : Heap}
/-- some records of an iterator have turned, and a new pair has come -/
theorem Inv.turnedPair {ch : List Addr} {T : Addr} {x y : V} {u v : Value} (I : Inv X pins σ H s) (hf : ∀ b ∈ ch, FpOk X pins H b) (k : ∀ b o, b ∉ ch → s.heap.get? b = some o → h'.get? b = some o)
    (nT : s.heap.get? T = none) (hT : H T = none) (gT : IsPair h' T u v) (rx : RelV x u) (ry : RelV y v) : Inv X pins σ (upd H T (.tup [x, y])) { s with heap := h' } := by
  have out : ∀ b u, H b = some u → b ∉ ch := fun b u e z => by
    have f := (hf b z).1
    rw [f] at e
    cases e
  have neT : ∀ {b o}, s.heap.get? b = some o → b ≠ T := fun e z => by rw [z, nT] at e; cases e
  have neH : ∀ {b u}, H b = some u → b ≠ T := fun e z => by rw [z, hT] at e; cases e
  have J := Inv.step (H' := upd H T (.tup [x, y])) (h' := h') (g' := s.gens) (d' := s.drawn) (t' := s.toks) (ch := ch) I
    (fun b hb => by obtain ⟨_, f1, _, f3, f4, f5⟩ := hf b hb; exact ⟨f3, f1, f4, f5⟩)
    (fun b o _ _ hc e _ => k b o hc e)
    (fun b o _ _ hc e _ => ⟨o.slots, k b o hc e⟩)
    (fun b o _ e n => by rw [upd_ne (neT e)]; exact n)
    (fun b o hc e => ⟨o, k b o hc e⟩)
    (fun b xs e => by rw [upd_ne (neH e)]; exact e)
    (fun b o w e => by rw [upd_ne (neH e)]; exact e)
    (fun b ps e => ⟨#[], by rw [upd_ne (neH e), e]; simp⟩)
    (fun m hm => by
      obtain ⟨o, es, ep, ho, r⟩ := hm
      refine ⟨o, es, ep, k _ o (fun z => ?_) ho, r⟩
      obtain ⟨_, f1, _⟩ := hf _ z
      exact f1 rfl)
    (fun b w e => by
      by_cases hb : b = T
      · subst hb
        rw [upd_same] at e
        cases e
        exact ⟨by show 2 ≤ sizeLine; decide, [u, v], .cons rx (.cons ry .nil), _, gT, rfl, _, rfl⟩
      · rw [upd_ne hb] at e
        refine (I.hok b w e).stay (fun c z hc q => k c z ?_ q) (fun c q => ?_) fun c xs q => ?_
        · rcases hc with z | z
          · rw [z]; exact out b w e
          · exact out c _ z
        · rw [upd_ne (neH q)]; exact q
        · rw [upd_ne (neH q)]; exact q)
    I.bare
  exact J
/-- some records of an iterator have turned -/
theorem Inv.turnedL {ch : List Addr} (I : Inv X pins σ H s) (hf : ∀ b ∈ ch, FpOk X pins H b) (k : ∀ b o, b ∉ ch → s.heap.get? b = some o → h'.get? b = some o) : Inv X pins σ H { s with heap := h' } := by
  have out : ∀ b u, H b = some u → b ∉ ch := fun b u e z => by
    have f := (hf b z).1
    rw [f] at e
    cases e
  have J := Inv.step (H' := H) (h' := h') (g' := s.gens) (d' := s.drawn) (t' := s.toks) (ch := ch) I
    (fun b hb => by obtain ⟨_, f1, _, f3, f4, f5⟩ := hf b hb; exact ⟨f3, f1, f4, f5⟩)
    (fun b o _ _ hc e _ => k b o hc e)
    (fun b o _ _ hc e _ => ⟨o.slots, k b o hc e⟩)
    (fun b o _ _ n => n)
    (fun b o hc e => ⟨o, k b o hc e⟩)
    (fun b xs e => e) (fun b o w e => e) (fun b ps e => ⟨#[], by rw [e]; simp⟩)
    (fun m hm => by
      obtain ⟨o, es, ep, ho, r⟩ := hm
      refine ⟨o, es, ep, k _ o (fun z => ?_) ho, r⟩
      obtain ⟨_, f1, _⟩ := hf _ z
      exact f1 rfl)
    (fun b w e => by
      refine (I.hok b w e).stay (fun c z hc q => k c z ?_ q) (fun c q => q) fun c xs q => q
      rcases hc with z | z
      · rw [z]; exact out b w e
      · exact out c _ z)
    I.bare
  exact J
end
/-- the walk of zip over the lists at a and b -/
def Itz (K : PySem.W.Frag) (a b : Addr) : It :=
  ⟨fun i H => ∃ xs ys x y, SqL K H a xs ∧ SqL K H b ys ∧ xs[i]? = some x ∧ ys[i]? = some y,
   fun i H v H' => ∃ T, H T = none ∧ v = .ref T ∧ ∀ xs ys x y, SqL K H a xs → SqL K H b ys → xs[i]? = some x → ys[i]? = some y → H' = upd H T (.tup [x, y]),
   fun i H => ∃ xs ys, SqL K H a xs ∧ SqL K H b ys ∧ (xs.length ≤ i ∨ ys.length ≤ i)⟩
/-- the iterator's records -/
def ZipSt (z TI TO i1 i2 a b : Addr) (i : Nat) (h : Heap) : Prop := IsZip h z TI TO .none ∧ IsPair h TI (.ref i1) (.ref i2) ∧ (∃ p q, IsPair h TO p q) ∧ h.IsListIter i1 a i ∧ h.IsListIter i2 b i
theorem turn_zip {P : Program} {w : World} {K : PySem.W.Frag} {elts : List Expr} {x1} {tp : Pos} {z TI TO i1 i2 a b : Addr} (D : ZipApart z TI TO i1 i2 a b) :
    Turn P w K (.Tuple elts x1 tp) (Itz K a b) [z, TI, TO, i1, i2] z (ZipSt z TI TO i1 i2 a b) where
  mem := by simp
  obj := fun i h st c hc => by
    obtain ⟨g1, g2, ⟨p, q, g3⟩, ⟨o4, g4, _, d4⟩, ⟨o5, g5, _, d5⟩⟩ := st
    simp only [List.mem_cons, List.not_mem_nil, or_false] at hc
    rcases hc with rfl | rfl | rfl | rfl | rfl
    · exact ⟨_, g1, fun v q => nomatch q⟩
    · exact ⟨_, g2, fun v q => nomatch q⟩
    · exact ⟨_, g3, fun v q => nomatch q⟩
    · exact ⟨_, g4, fun v q => by rw [d4] at q; cases q⟩
    · exact ⟨_, g5, fun v q => by rw [d5] at q; cases q⟩
  keep := fun i h h' st k => by
    obtain ⟨g1, g2, ⟨p, q, g3⟩, g4, g5⟩ := st
    exact ⟨k z (by simp) _ g1, k TI (by simp) _ g2, ⟨p, q, k TO (by simp) _ g3⟩, g4.at fun o e => k i1 (by simp) o e, g5.at fun o e => k i2 (by simp) o e⟩
  item := by
    intro X hP hw hK hc i pins s σ H E I hf st hg
    subst hP hw hK
    obtain ⟨xs, ys, x, y, qa, qb, ex, ey⟩ := hg
    obtain ⟨g1, g2, ⟨p, q, g3⟩, g4, g5⟩ := st
    obtain ⟨us, ru, pu, _⟩ := I.list qa
    obtain ⟨vs, rv, pv, _⟩ := I.list qb
    obtain ⟨u, eu, r1⟩ := ru.get ex
    obtain ⟨v, ev, r2⟩ := rv.get ey
    refine wpAny_pyNext_zip_item D g1 g2 g3 g4 g5 pu.isList pv.isList (x := u) (y := v) (by simpa using eu) (by simpa using ev) fun h1 a1 a2 a3 a4 a5 a6 a7 => ?_
    refine ⟨_, rfl, wpAny_letOwnedTupleGo_zip (s := { s with heap := h1 }) a1 fun h2 b1 b2 => ?_⟩
    have nT : s.heap.get? s.heap.objs.size = none := by
      cases q : s.heap.get? s.heap.objs.size with
      | none => rfl
      | some o => exact absurd (Heap.lt_size q) (Nat.lt_irrefl _)
    have hT : H s.heap.objs.size = none := I.hok.fresh (Nat.le_refl _)
    have nz : s.heap.objs.size ≠ z := Nat.ne_of_gt (Heap.lt_size g1)
    have kk : ∀ c o, c ∉ [z, TO, i1, i2] → s.heap.get? c = some o → h2.get? c = some o := fun c o hc e => by
      simp only [List.mem_cons, List.not_mem_nil, or_false, not_or] at hc
      exact b2.extBut _ _ hc.1 (a7 c o hc.1 hc.2.1 hc.2.2.1 hc.2.2.2 e)
    have J := I.turnedPair (h' := h2) (ch := [z, TO, i1, i2]) (T := s.heap.objs.size) (x := x) (y := y) (u := u) (v := v) (fun c hc => hf c (by simp at hc ⊢; rcases hc with e | e | e | e <;> simp [e])) kk nT hT (b2.extBut _ _ nz a5) r1 r2
    refine ⟨.ref s.heap.objs.size, upd H s.heap.objs.size (.tup [x, y]), J, rfl, ⟨_, hT, rfl, fun xs' ys' x' y' q1 q2 e1 e2 => ?_⟩, ⟨b1, b2.extBut _ _ D.TIz (a7 TI _ D.TIz D.TITO D.TIi1 D.TIi2 g2), ⟨_, _, b2.extBut _ _ D.TOz a2⟩, a3.extBut b2.extBut D.i1z, a4.extBut b2.extBut D.i2z⟩, fun c hc => ?_⟩
    · rw [I.list_inj q1 qa] at e1
      rw [I.list_inj q2 qb] at e2
      rw [ex] at e1; rw [ey] at e2
      cases e1; cases e2
      rfl
    · have h0 := (hf c hc).1
      have : c ≠ s.heap.objs.size := by
        obtain ⟨o4, g4', _⟩ := g4
        obtain ⟨o5, g5', _⟩ := g5
        simp only [List.mem_cons, List.not_mem_nil, or_false] at hc
        rcases hc with rfl | rfl | rfl | rfl | rfl
        · exact nz.symm
        · exact Nat.ne_of_lt (Heap.lt_size g2)
        · exact Nat.ne_of_lt (Heap.lt_size g3)
        · exact Nat.ne_of_lt (Heap.lt_size g4')
        · exact Nat.ne_of_lt (Heap.lt_size g5')
      rw [upd_ne this]; exact h0
  done := by
    intro X hP hw hK hc i pins s σ H E I hf st hg
    subst hP hw hK
    obtain ⟨xs, ys, qa, qb, hl⟩ := hg
    obtain ⟨g1, g2, ⟨p, q, g3⟩, g4, g5⟩ := st
    obtain ⟨us, ru, pu, _⟩ := I.list qa
    obtain ⟨vs, rv, pv, _⟩ := I.list qb
    have l1 := ru.length
    have l2 := rv.length
    refine wpAny_pyNext_zip_end (I.ok.hd hc) D g1 g2 g3 g4 g5 pu.isList pv.isList ?_ fun h2 k => ⟨rfl, I.turnedL (ch := [z, TO, i1, i2]) (fun c hc => hf c (by simp at hc ⊢; rcases hc with e | e | e | e <;> simp [e])) fun c o hc e => ?_⟩
    · rcases hl with hl | hl
      · exact .inl (by simp; omega)
      · exact .inr (by simp; omega)
    · simp only [List.mem_cons, List.not_mem_nil, or_false, not_or] at hc
      exact k c o hc.1 hc.2.1 hc.2.2.1 hc.2.2.2 e
  self := fun _ _ _ _ _ st h => wpAny_pyIter_zip st.1 h
def iZip (K : PySem.W.Frag) (ta : TA) : TI := fun σ H R => ta σ H fun vs H1 => ∃ a b, vs = [.ref a, .ref b] ∧ (∃ xs, SqL K H1 a xs) ∧ (∃ ys, SqL K H1 b ys) ∧ R (Itz K a b) H1
section
variable {X : Cx}
theorem pi_zip {e1 e2 : Expr} {ta : TA} {p pos : Pos} {elts : List Expr} {x1} {tp : Pos} (hg : Gl X "zip") (hm : X.mg "zip" = none) (ha : PA X [e1, e2] ta)
    (hs : starEach [e1, e2] X.env = [(false, eval e1 X.env), (false, eval e2 X.env)] := by rfl) (hs2 : starEach [e2] X.env = [(false, eval e2 X.env)] := by rfl) :
    PI X (.Tuple elts x1 tp) (.Call (.Name "zip" p) [e1, e2] [] pos) (iZip X.K ta) := by
  intro pins s σ H R I h
  refine Call_ (ld_blt I hg hm PyProof.Rows.boot_zip (PyProof.Rows.callWith_type1 (thn (ha pos pins s σ H _ I h) fun us s1 ⟨vs, H1, I1, r1, q1⟩ => ?_) (by rw [hs, hs2]) (by rw [hs2]; rfl)))
  obtain ⟨a, b, rfl, ⟨xs, qa⟩, ⟨ys, qb⟩, q⟩ := q1
  obtain ⟨u, v, rfl, ru, rv⟩ := r1.two
  cases (show u = Value.ref a from ru)
  cases (show v = Value.ref b from rv)
  obtain ⟨us, _, pu, _⟩ := I1.list qa
  obtain ⟨vs, _, pv, _⟩ := I1.list qb
  obtain ⟨oa, ea, _⟩ := id pu.isList
  obtain ⟨ob, eb, _⟩ := id pv.isList
  have la : a < s1.heap.objs.size := Heap.lt_size ea
  have lb : b < s1.heap.objs.size := Heap.lt_size eb
  refine call_zip_2 pu.isList pv.isList fun h' z1 z2 z3 z4 z5 z6 z7 => ?_
  refine wpAny_pyIter_zip (s := { s1 with heap := h' }) z1 ?_
  refine ⟨s1.heap.objs.size + 4, [s1.heap.objs.size + 4, s1.heap.objs.size + 2, s1.heap.objs.size + 3, s1.heap.objs.size, s1.heap.objs.size + 1], ZipSt (s1.heap.objs.size + 4) (s1.heap.objs.size + 2) (s1.heap.objs.size + 3) s1.heap.objs.size (s1.heap.objs.size + 1) a b, Itz X.K a b, H1, rfl, I1.kept (t' := s1.toks) z7, turn_zip ?_, ⟨z1, z2, ⟨_, _, z3⟩, z4, z5⟩, fun c hc => ?_, q⟩
  · refine ⟨?_, ?_, ?_, ?_, ?_, ?_, ?_, ?_, ?_, ?_, ?_, ?_, ?_, ?_, ?_, ?_, ?_, ?_⟩ <;> first | exact Nat.ne_of_lt (by omega) | exact Nat.ne_of_gt (by omega) | exact Nat.ne_of_lt la | exact Nat.ne_of_lt lb | exact Nat.ne_of_lt (Nat.lt_of_lt_of_le la (Nat.le_add_right _ _)) | exact Nat.ne_of_lt (Nat.lt_of_lt_of_le lb (Nat.le_add_right _ _))
  · have hc' : s1.heap.objs.size ≤ c := by
      simp only [List.mem_cons, List.not_mem_nil, or_false] at hc
      rcases hc with rfl | rfl | rfl | rfl | rfl <;> omega
    exact I1.fpOk hc' (I1.hok.fresh hc')
end
/-- over two lists that the body leaves as they are -/
theorem for_zip {K : PySem.W.Frag} {a b : Addr} {xs ys : List V} {g : TG} {tb : TS} {D : Ends} {σ : St} {H : Hp} (Pv : Nat → St → Hp → Prop) (h0 : Pv 0 σ H) (hl : ∀ i σ H, Pv i σ H → SqL K H a xs ∧ SqL K H b ys)
    (hs : ∀ i x y σ H T, xs[i]? = some x → ys[i]? = some y → Pv i σ H → H T = none → g (.ref T) σ (upd H T (.tup [x, y])) fun σ2 H2 => tb { D with nx := Pv (i + 1), ct := Pv (i + 1), bk := D.nx } σ2 H2)
    (hd : ∀ σ H, Pv (min xs.length ys.length) σ H → D.nx σ H) :
    ∃ W : Nat → Nat → St → Hp → Prop, (∃ m, W 0 m σ H) ∧ ∀ i m σ H, W i m σ H →
      ((Itz K a b).stop i H ∧ D.nx σ H) ∨ ((Itz K a b).go i H ∧ ∃ N : St → Hp → Prop, (∀ σ' H', N σ' H' → ∃ m', m' < m ∧ W (i + 1) m' σ' H') ∧ ∀ x H', (Itz K a b).yld i H x H' → g x σ H' fun σ2 H2 => tb { D with nx := N, ct := N, bk := D.nx } σ2 H2) := by
  refine ⟨fun i m σ H => m = min xs.length ys.length - i ∧ i ≤ min xs.length ys.length ∧ Pv i σ H, ⟨min xs.length ys.length, by simp, Nat.zero_le _, h0⟩, ?_⟩
  rintro i m σ H ⟨rfl, hi, p⟩
  obtain ⟨q1, q2⟩ := hl i σ H p
  by_cases lt : i < min xs.length ys.length
  · have e1 : xs[i]? = some xs[i] := List.getElem?_eq_getElem (by omega)
    have e2 : ys[i]? = some ys[i] := List.getElem?_eq_getElem (by omega)
    refine .inr ⟨⟨xs, ys, _, _, q1, q2, e1, e2⟩, Pv (i + 1), fun σ' H' p' => ⟨_, ?_, rfl, lt, p'⟩, fun v H' yl => ?_⟩
    · omega
    · obtain ⟨T, hT, rfl, e⟩ := yl
      rw [e xs ys _ _ q1 q2 e1 e2]
      exact hs i _ _ σ H T e1 e2 p hT
  · have e : i = min xs.length ys.length := by omega
    subst e
    exact .inl ⟨⟨xs, ys, q1, q2, by omega⟩, hd σ H p⟩
end L2
namespace L2
open PySem PySem.Spec PyProof.Rows
section
variable {X : Cx}
/-- // by a positive divisor of few figures -/
theorem op_fdivP : OpR X (binaryOp .FloorDiv) (rI (fun _ j => 0 < j ∧ j.natAbs.log2 < 9000) fun i j => .int (i / j)) := opI fun i j _ _ _ _ _ hc q => by
  have h1 : (0 : Int) < j := hc.1
  exact floordiv_int (by omega) (by rw [Int.fdiv_eq_ediv_of_nonneg i (by omega)]; exact q) (.inl (PyProof.noPylong_of_log2 hc.2))
end
/-- products of numbers of few bits -/
theorem mul_bits {a b : Int} {m n : Nat} (ha : a.natAbs < 2 ^ m) (hb : b.natAbs < 2 ^ n) (hm : m ≤ 2 ^ 20) (hn : n ≤ 2 ^ 20) : IntMulOk a b :=
  .of_bits (Nat.le_trans (PyProof.Rows.intBits_le ha) hm) (Nat.le_trans (PyProof.Rows.intBits_le hb) hn)
end L2
namespace L2
open PySem PySem.Spec PyProof.Rows
theorem call_list_ofK {X : Cx} {K : PySem.W.Frag} (h : X.K = K) : CallR X (.type "list") (fun xs H Q => ∃ p ys, xs = [.ref p] ∧ (SqL K H p ys ∨ SqT K H p ys) ∧ ∀ l, H l = none → Q (.ref l) (upd H l (.lst ys))) := h ▸ call_list_of
end L2

namespace L2
open PySem PySem.Spec PyProof.Rows
/-! ### for k, x in enumerate(xs), of a list that stays; all(..) of a list of bools; a block with a tuple target that sees names of the def -/
/-- the walk of enumerate over the list at a -/
def Ite (K : PySem.W.Frag) (a : Addr) : It :=
  ⟨fun i H => ∃ xs x, SqL K H a xs ∧ xs[i]? = some x,
   fun i H v H' => ∃ T, H T = none ∧ v = .ref T ∧ ∀ xs x, SqL K H a xs → xs[i]? = some x → H' = upd H T (.tup [.int i, x]),
   fun i H => ∃ xs, SqL K H a xs ∧ xs.length ≤ i⟩
def EnumSt (e it a : Addr) (i : Nat) (h : Heap) : Prop := (∃ old, IsEnum h e it i old) ∧ h.IsListIter it a i
theorem turn_enum {P : Program} {w : World} {K : PySem.W.Frag} {elts : List Expr} {x1} {tp : Pos} {e it a : Addr} (hne : e ≠ it) :
    Turn P w K (.Tuple elts x1 tp) (Ite K a) [e, it] e (EnumSt e it a) where
  mem := by simp
  obj := fun i h st c hc => by
    obtain ⟨⟨old, g1⟩, ⟨o2, g2, _, d2⟩⟩ := st
    simp only [List.mem_cons, List.not_mem_nil, or_false] at hc
    rcases hc with rfl | rfl
    · exact ⟨_, g1, fun v q => nomatch q⟩
    · exact ⟨_, g2, fun v q => by rw [d2] at q; cases q⟩
  keep := fun i h h' st k => by
    obtain ⟨⟨old, g1⟩, g2⟩ := st
    exact ⟨⟨old, k e (by simp) _ g1⟩, g2.at fun o q => k it (by simp) o q⟩
  item := by
    intro X hP hw hK hc i pins s σ H E I hf st hg
    subst hP hw hK
    obtain ⟨xs, x, qa, ex⟩ := hg
    obtain ⟨⟨old, g1⟩, g2⟩ := st
    obtain ⟨us, ru, pu, _⟩ := I.list qa
    obtain ⟨u, eu, r1⟩ := ru.get ex
    refine wpAny_pyNext_enum_item g1 g2 pu.isList (x := u) (by simpa using eu) hne fun h1 a1 a2 a3 a4 a5 => ?_
    refine ⟨_, rfl, wpAny_letOwnedTupleGo_enum (s := { s with heap := h1, toks := s.toks + 1 }) a1 fun h2 b1 b2 => ?_⟩
    have nT : s.heap.get? s.heap.objs.size = none := by
      cases q : s.heap.get? s.heap.objs.size with
      | none => rfl
      | some o => exact absurd (Heap.lt_size q) (Nat.lt_irrefl _)
    have hT : H s.heap.objs.size = none := I.hok.fresh (Nat.le_refl _)
    have nz : s.heap.objs.size ≠ e := Nat.ne_of_gt (Heap.lt_size g1)
    have kk : ∀ c o, c ∉ [e, it] → s.heap.get? c = some o → h2.get? c = some o := fun c o hc q => by
      simp only [List.mem_cons, List.not_mem_nil, or_false, not_or] at hc
      exact b2.extBut _ _ hc.1 (a5 c o hc.1 hc.2 q)
    have J := I.turnedPair (h' := h2) (ch := [e, it]) (T := s.heap.objs.size) (x := .int i) (y := x) (u := .int i s.toks) (v := u) (fun c hc => hf c (by simp at hc ⊢; rcases hc with q | q <;> simp [q])) kk nT hT (b2.extBut _ _ nz a3) ⟨_, rfl⟩ r1
    refine ⟨.ref s.heap.objs.size, upd H s.heap.objs.size (.tup [.int i, x]), J.tok _, rfl, ⟨_, hT, rfl, fun xs' x' q1 e1 => ?_⟩, ⟨⟨_, b1⟩, a2.extBut b2.extBut hne.symm⟩, fun c hc => ?_⟩
    · rw [I.list_inj q1 qa, ex] at e1
      cases e1
      rfl
    · have h0 := (hf c hc).1
      have : c ≠ s.heap.objs.size := by
        obtain ⟨o2, g2', _⟩ := g2
        simp only [List.mem_cons, List.not_mem_nil, or_false] at hc
        rcases hc with rfl | rfl
        · exact nz.symm
        · exact Nat.ne_of_lt (Heap.lt_size g2')
      rw [upd_ne this]; exact h0
  done := by
    intro X hP hw hK hc i pins s σ H E I hf st hg
    subst hP hw hK
    obtain ⟨xs, qa, hl⟩ := hg
    obtain ⟨⟨old, g1⟩, g2⟩ := st
    obtain ⟨us, ru, pu, _⟩ := I.list qa
    have l1 := ru.length
    refine wpAny_pyNext_enum_end (I.ok.hd hc) g1 g2 pu.isList (by simp; omega) fun h2 k => ⟨rfl, I.turnedL (ch := [e, it]) (fun c hc => hf c (by simp at hc ⊢; rcases hc with q | q <;> simp [q])) fun c o hc q => ?_⟩
    simp only [List.mem_cons, List.not_mem_nil, or_false, not_or] at hc
    exact k c o hc.2 q
  self := fun _ _ _ _ _ st h => let ⟨⟨_, g⟩, _⟩ := st; wpAny_pyIter_enum g h
def iEnum (K : PySem.W.Frag) (ta : TA) : TI := fun σ H R => ta σ H fun vs H1 => ∃ a, vs = [.ref a] ∧ (∃ xs, SqL K H1 a xs) ∧ R (Ite K a) H1
section
variable {X : Cx}
theorem pi_enum {e1 : Expr} {ta : TA} {p pos : Pos} {elts : List Expr} {x1} {tp : Pos} (hg : Gl X "enumerate") (hm : X.mg "enumerate" = none) (ha : PA X [e1] ta)
    (hs : starEach [e1] X.env = [(false, eval e1 X.env)] := by rfl) :
    PI X (.Tuple elts x1 tp) (.Call (.Name "enumerate" p) [e1] [] pos) (iEnum X.K ta) := by
  intro pins s σ H R I h
  refine Call_ (ld_blt I hg hm PyProof.Rows.boot_enumerate (PyProof.Rows.callWith_type1 (thn (ha pos pins s σ H _ I h) fun us s1 ⟨vs, H1, I1, r1, q1⟩ => ?_) (by rw [hs]; rfl) rfl))
  obtain ⟨a, rfl, ⟨xs, qa⟩, q⟩ := q1
  obtain ⟨u, rfl, ru⟩ := r1.one
  cases (show u = Value.ref a from ru)
  obtain ⟨us, _, pu, _⟩ := I1.list qa
  refine call_enumerate_list pu.isList fun h' z1 z2 z3 z4 => ?_
  refine wpAny_pyIter_enum (s := { s1 with heap := h' }) z1 ?_
  refine ⟨s1.heap.objs.size + 1, [s1.heap.objs.size + 1, s1.heap.objs.size], EnumSt (s1.heap.objs.size + 1) s1.heap.objs.size a, Ite X.K a, H1, rfl, I1.kept (t' := s1.toks) z4, turn_enum (Nat.ne_of_gt (Nat.lt_succ_self _)), ⟨⟨_, z1⟩, z2⟩, fun c hc => ?_, q⟩
  have hc' : s1.heap.objs.size ≤ c := by
    simp only [List.mem_cons, List.not_mem_nil, or_false] at hc
    rcases hc with rfl | rfl
    · exact Nat.le_succ _
    · exact Nat.le_refl _
  exact I1.fpOk hc' (I1.hok.fresh hc')
end
section
variable {gt : TG} {k : Nat} {fr : List Nat} {tt : TT} {te : TE}
end
section
variable {X : Cx}
end
section
variable {X : Cx} {elt iter tg : Expr} {ifs : List Expr} {pos : Pos} {scope : Scope} {cl : List (Str × Addr)} {N : List Str} {k : Nat} {fr : List Nat} {gt : TG} {tt : TT} {te : TE}
end
end L2

namespace L2
open PySem
set_option maxRecDepth 100000
section
variable {prog : Program} {w : World} {A : Around} {E : Value → Shared → Prop} {s : Shared}
end
section
variable {X : Cx}
/-- list(reversed(xs)) -/
def tLR (K : PySem.W.Frag) (ta : TA) : TE := fun σ H Q => ta σ H fun vs H1 => ∃ a xs, vs = [.ref a] ∧ SqL K H1 a xs ∧ ∀ p, H1 p = none → Q (.ref p) (upd H1 p (.lst xs.reverse))
end
end L2
namespace L2
open PySem
theorem for_enum {K : PySem.W.Frag} {a : Addr} {xs : List V} {g : TG} {tb : TS} {D : Ends} {σ : St} {H : Hp} (Pv : Nat → St → Hp → Prop) (h0 : Pv 0 σ H) (hl : ∀ i σ H, Pv i σ H → SqL K H a xs)
    (hs : ∀ i x σ H T, xs[i]? = some x → Pv i σ H → H T = none → g (.ref T) σ (upd H T (.tup [.int i, x])) fun σ2 H2 => tb { D with nx := Pv (i + 1), ct := Pv (i + 1), bk := D.nx } σ2 H2)
    (hd : ∀ σ H, Pv xs.length σ H → D.nx σ H) :
    ∃ W : Nat → Nat → St → Hp → Prop, (∃ m, W 0 m σ H) ∧ ∀ i m σ H, W i m σ H →
      ((Ite K a).stop i H ∧ D.nx σ H) ∨ ((Ite K a).go i H ∧ ∃ N : St → Hp → Prop, (∀ σ' H', N σ' H' → ∃ m', m' < m ∧ W (i + 1) m' σ' H') ∧ ∀ x H', (Ite K a).yld i H x H' → g x σ H' fun σ2 H2 => tb { D with nx := N, ct := N, bk := D.nx } σ2 H2) := by
  refine ⟨fun i m σ H => m = xs.length - i ∧ i ≤ xs.length ∧ Pv i σ H, ⟨xs.length, by simp, Nat.zero_le _, h0⟩, ?_⟩
  rintro i m σ H ⟨rfl, hi, p⟩
  have q1 := hl i σ H p
  by_cases lt : i < xs.length
  · have e1 : xs[i]? = some xs[i] := List.getElem?_eq_getElem lt
    refine .inr ⟨⟨xs, _, q1, e1⟩, Pv (i + 1), fun σ' H' p' => ⟨_, ?_, rfl, lt, p'⟩, fun v H' yl => ?_⟩
    · omega
    · obtain ⟨T, hT, rfl, e⟩ := yl
      rw [e xs _ q1 e1]
      exact hs i _ σ H T e1 p hT
  · have e : i = xs.length := by omega
    subst e
    exact .inl ⟨⟨xs, q1, Nat.le_refl _⟩, hd σ H p⟩
end L2

namespace L2
open PySem PySem.Spec PyProof.Rows
/-! ### a list comprehension whose own names are seen by a block within it: they are cells of its frame -/
def cmpEnvN (scope : Scope) (cl : List (Str × Addr)) (C : Addr) (env : Env) : Env :=
  { scope := relabel scope env, locals := C, globals := env.globals, cells := cellsFrom (C + 1) scope.names cl, qual := env.qual, func := none, code := env.code, frame := env.frame, builtins := env.builtins }
def cmpCxN (X : Cx) (N : List Str) (scope : Scope) (cl : List (Str × Addr)) (fp : List Addr) (C : Addr) (s2 : Shared) (H2 : Hp) : Cx :=
  { prog := X.prog, w := X.w, K := X.K, mg := X.mg, base := X.base, A := X.A, N := N, s₀ := s2, H₀ := H2, env := cmpEnvN scope cl C X.env, outer := X.stack, stack := X.stack, ex := fp, fn := fun y => scope.names.lookup y == some .cell, calm := X.calm, pn := [], xe := fun _ _ => False }
structure CmpOkN (X : Cx) (N : List Str) (k : Nat) (fr : List Nat) (scope : Scope) (cl : List (Str × Addr)) : Prop where
  clos : closureFor scope X.env = pure cl
  kind : scope.kind = .function
  names : ∀ y ∈ scope.names, y.2 = .local → scope.names.lookup y.1 = some .local
  len : N.length = k + fr.length
  sub : ∀ (i : Nat) (y : Str), N[k + i]? = some y → ∃ j, fr[i]? = some j ∧ X.N[j]? = some y ∧ (X.env.kindOf y = some .cell ∨ X.env.kindOf y = some .free) ∧ ((relabel scope X.env).names.lookup y = some .cell ∨ (relabel scope X.env).names.lookup y = some .free) ∧ ∃ c, cl.lookup y = some c ∧ ∀ C : Addr, (cellsFrom (C + 1) scope.names cl).lookup y = some c
  cells : ∀ y c, cl.lookup y = some c → X.env.cells.lookup y = some c
  has : ∀ (C : Addr) (y : Str), ((relabel scope X.env).names.lookup y = some .cell ∨ (relabel scope X.env).names.lookup y = some .free) → ∃ c, (cellsFrom (C + 1) scope.names cl).lookup y = some c
section
variable {X : Cx} {elt iter tg : Expr} {ifs : List Expr} {pos : Pos} {scope : Scope} {cl : List (Str × Addr)} {N : List Str} {k : Nat} {fr : List Nat} {gt : TG} {tt : TT} {te : TE}
end
/-- the names of the def that the block sees, one by one -/
def SubN (X : Cx) (N : List Str) (scope : Scope) (cl : List (Str × Addr)) : List Nat → Nat → Prop
  | [], _ => True
  | j :: fr, i => (∃ (y : Str) (c : Addr), N[i]? = some y ∧ X.N[j]? = some y ∧ X.env.kindOf y = some .cell ∧ (relabel scope X.env).names.lookup y = some .cell ∧ cl.lookup y = some c ∧ ∀ C : Addr, (cellsFrom (C + 1) scope.names cl).lookup y = some c) ∧ SubN X N scope cl fr (i + 1)
/-! list.insert -/
def rInsert : V → List V → Hp → VK → Prop := fun x vs H Q => ∃ (l : Addr) (xs : List V) (i : Int) (k : Nat) (y : V), x = .ref l ∧ vs = [.int i, y] ∧ i = (k : Int) ∧ H l = some (.lst xs) ∧ k ≤ xs.length ∧ xs.length < sizeLine ∧ Q .non (upd H l (.lst (xs.take k ++ y :: xs.drop k)))
end L2

set_option Elab.async false
set_option maxRecDepth 100000
set_option maxHeartbeats 4000000
set_option linter.all false
namespace My
open PySem L2
def top (i : Nat) : Stmt := PySem.Challenge.pw_rowjudge_k29_tables_refused.main.body.getD i (.Pass ⟨0, 0, 0, 0⟩)
abbrev s_all_among : Stmt := top 13
abbrev s_is_word : Stmt := top 14
abbrev s_is_whole : Stmt := top 15
abbrev s_way_by : Stmt := top 27
abbrev s_refuse_names : Stmt := top 32
abbrev s_refuse_counts : Stmt := top 33
abbrev s_refuse_way : Stmt := top 34
abbrev s_refuse_row : Stmt := top 35
abbrev s_own_row : Stmt := top 36
abbrev s_with_rows : Stmt := top 37
abbrev s_law_cell_at : Stmt := top 39
abbrev s_law_mixed : Stmt := top 40
abbrev s_law_word : Stmt := top 41
abbrev s_law_range : Stmt := top 42
abbrev s_law_domain : Stmt := top 43
abbrev s_law_spans : Stmt := top 44
abbrev s_law_row : Stmt := top 45
abbrev s_law_outcome_of : Stmt := top 46
abbrev s_law_made : Stmt := top 47
abbrev s_law_other_rows : Stmt := top 48
abbrev s_law_own : Stmt := top 49
abbrev s_law_bad_names : Stmt := top 50
abbrev s_law_bad_row : Stmt := top 51
abbrev s_law_faulty : Stmt := top 52
abbrev s_law_refused_so : Stmt := top 53
abbrev s_Table___init___Table : Stmt := inClass (top 31) 0
abbrev s_First___init___First : Stmt := inClass (top 21) 0
abbrev s_Way___init___First : Stmt := inClass (top 20) 0
abbrev s_Only___init___Only : Stmt := inClass (top 22) 0
abbrev s_Way___init___Only : Stmt := inClass (top 20) 0
abbrev s_Like___init___Like : Stmt := inClass (top 23) 0
abbrev s_Way___init___Like : Stmt := inClass (top 20) 0
abbrev s_Low___init___Low : Stmt := inClass (top 24) 0
abbrev s_Way___init___Low : Stmt := inClass (top 20) 0
abbrev s_High___init___High : Stmt := inClass (top 25) 0
abbrev s_Way___init___High : Stmt := inClass (top 20) 0
abbrev s_Sum___init___Sum : Stmt := inClass (top 26) 0
abbrev s_Way___init___Sum : Stmt := inClass (top 20) 0
abbrev s_Domain_has_code_Numbers : Stmt := inClass (top 16) 5
abbrev s_Domain_has_code_Words : Stmt := inClass (top 16) 5
abbrev s_Numbers___init___Numbers : Stmt := inClass (top 17) 0
abbrev s_Domain___init___Numbers : Stmt := inClass (top 16) 0
abbrev s_Words___init___Words : Stmt := inClass (top 18) 0
abbrev s_Domain___init___Words : Stmt := inClass (top 16) 0
abbrev s_law : Stmt := top 54
theorem sc_all_among : FnScope ["text", "signs", "sign"] ["text", "signs"] (defScope s_all_among) := ⟨rfl, rfl, rfl, by decide +kernel, rfl, by decide +kernel, by decide +kernel⟩
theorem sc_is_word : FnScope ["text"] ["text"] (defScope s_is_word) := ⟨rfl, rfl, rfl, by decide +kernel, rfl, by decide +kernel, by decide +kernel⟩
theorem sc_is_whole : FnScope ["value"] ["value"] (defScope s_is_whole) := ⟨rfl, rfl, rfl, by decide +kernel, rfl, by decide +kernel, by decide +kernel⟩
theorem sc_way_by : FnScope ["name", "way"] ["name"] (defScope s_way_by) := ⟨rfl, rfl, rfl, by decide +kernel, rfl, by decide +kernel, by decide +kernel⟩
theorem sc_refuse_names : FnScope ["names", "name"] ["names"] (defScope s_refuse_names) := ⟨rfl, rfl, rfl, by decide +kernel, rfl, by decide +kernel, by decide +kernel⟩
theorem sc_refuse_counts : FnScope ["names", "rows"] ["names", "rows"] (defScope s_refuse_counts) := ⟨rfl, rfl, rfl, by decide +kernel, rfl, by decide +kernel, by decide +kernel⟩
theorem sc_refuse_way : FnScope ["way", "outcome"] ["way", "outcome"] (defScope s_refuse_way) := ⟨rfl, rfl, rfl, by decide +kernel, rfl, by decide +kernel, by decide +kernel⟩
theorem sc_refuse_row : FnScope ["domains", "outcome", "cells", "code", "domain", "spans", "low", "high"] ["domains", "outcome", "cells", "code"] (defScope s_refuse_row) := ⟨rfl, rfl, rfl, by decide +kernel, rfl, by decide +kernel, by decide +kernel⟩
theorem sc_own_row : FnScope ["cells", "code"] ["cells", "code"] (defScope s_own_row) := ⟨rfl, rfl, rfl, by decide +kernel, rfl, by decide +kernel, by decide +kernel⟩
theorem sc_with_rows : FnScope ["table", "rows"] ["table", "rows"] (defScope s_with_rows) := ⟨rfl, rfl, rfl, by decide +kernel, rfl, by decide +kernel, by decide +kernel⟩
theorem sc_law_cell_at : FnScope ["script", "k"] ["script", "k"] (defScope s_law_cell_at) := ⟨rfl, rfl, rfl, by decide +kernel, rfl, by decide +kernel, by decide +kernel⟩
theorem sc_law_mixed : FnScope ["cell", "k", "big"] ["cell", "k"] (defScope s_law_mixed) := ⟨rfl, rfl, rfl, by decide +kernel, rfl, by decide +kernel, by decide +kernel⟩
theorem sc_law_word : FnScope ["cell", "k", "ahead", "behind"] ["cell", "k"] (defScope s_law_word) := ⟨rfl, rfl, rfl, by decide +kernel, rfl, by decide +kernel, by decide +kernel⟩
theorem sc_law_range : FnScope ["cell", "m", "words", "size", "low"] ["cell"] (defScope s_law_range) := ⟨rfl, rfl, rfl, by decide +kernel, rfl, by decide +kernel, by decide +kernel⟩
theorem sc_law_domain : FnScope ["told"] ["told"] (defScope s_law_domain) := ⟨rfl, rfl, rfl, by decide +kernel, rfl, by decide +kernel, by decide +kernel⟩
theorem sc_law_spans : FnScope ["m", "low", "high", "size", "spans", "at", "k", "far"] ["m", "low", "high"] (defScope s_law_spans) := ⟨rfl, rfl, rfl, by decide +kernel, rfl, by decide +kernel, by decide +kernel⟩
theorem sc_law_row : FnScope ["cell", "columns", "low", "high", "calm", "cells", "m", "code"] ["cell", "columns", "low", "high", "calm"] (defScope s_law_row) := ⟨rfl, rfl, rfl, by decide +kernel, rfl, by decide +kernel, by decide +kernel⟩
theorem sc_law_outcome_of : FnScope ["made", "kinds", "k", "word"] ["made", "kinds"] (defScope s_law_outcome_of) := ⟨rfl, rfl, rfl, by decide +kernel, rfl, by decide +kernel, by decide +kernel⟩
theorem sc_law_made : FnScope ["name", "names", "domains", "outcome", "way", "rows", "table", "kinds", "e"] ["name", "names", "domains", "outcome", "way", "rows"] (defScope s_law_made) := ⟨rfl, rfl, rfl, by decide +kernel, rfl, by decide +kernel, by decide +kernel⟩
theorem sc_law_other_rows : FnScope ["table", "rows", "other", "kinds", "e"] ["table", "rows"] (defScope s_law_other_rows) := ⟨rfl, rfl, rfl, by decide +kernel, rfl, by decide +kernel, by decide +kernel⟩
theorem sc_law_own : FnScope ["row"] ["row"] (defScope s_law_own) := ⟨rfl, rfl, rfl, by decide +kernel, rfl, by decide +kernel, by decide +kernel⟩
theorem sc_law_bad_names : FnScope ["name", "names", "turn", "every", "at"] ["name", "names", "turn"] (defScope s_law_bad_names) := ⟨rfl, rfl, rfl, by decide +kernel, rfl, by decide +kernel, by decide +kernel⟩
theorem sc_law_bad_row : FnScope ["row", "columns", "out", "turn", "at", "cells", "way"] ["row", "columns", "out", "turn"] (defScope s_law_bad_row) := ⟨rfl, rfl, rfl, by decide +kernel, rfl, by decide +kernel, by decide +kernel⟩
theorem sc_law_faulty : FnScope ["columns", "rows", "out", "faults", "turn", "head", "due", "way", "names", "domains", "every"] ["columns", "rows", "out", "faults", "turn", "head"] (defScope s_law_faulty) := ⟨rfl, rfl, rfl, by decide +kernel, rfl, by decide +kernel, by decide +kernel⟩
theorem sc_law_refused_so : FnScope ["parts", "outcome", "handed"] ["parts", "outcome"] (defScope s_law_refused_so) := ⟨rfl, rfl, rfl, by decide +kernel, rfl, by decide +kernel, by decide +kernel⟩
theorem sc_Table___init___Table : FnScope ["self", "name", "names", "domains", "outcome", "way", "rows", "cells", "code"] ["self", "name", "names", "domains", "outcome", "way", "rows"] (defScope s_Table___init___Table) := ⟨rfl, rfl, rfl, by decide +kernel, rfl, by decide +kernel, by decide +kernel⟩
theorem sc_First___init___First : FnScope ["self"] ["self"] (defScope s_First___init___First) := ⟨rfl, rfl, rfl, by decide +kernel, rfl, by decide +kernel, by decide +kernel⟩
theorem sc_Way___init___First : FnScope ["self", "called"] ["self", "called"] (defScope s_Way___init___First) := ⟨rfl, rfl, rfl, by decide +kernel, rfl, by decide +kernel, by decide +kernel⟩
theorem sc_Only___init___Only : FnScope ["self"] ["self"] (defScope s_Only___init___Only) := ⟨rfl, rfl, rfl, by decide +kernel, rfl, by decide +kernel, by decide +kernel⟩
theorem sc_Way___init___Only : FnScope ["self", "called"] ["self", "called"] (defScope s_Way___init___Only) := ⟨rfl, rfl, rfl, by decide +kernel, rfl, by decide +kernel, by decide +kernel⟩
theorem sc_Like___init___Like : FnScope ["self"] ["self"] (defScope s_Like___init___Like) := ⟨rfl, rfl, rfl, by decide +kernel, rfl, by decide +kernel, by decide +kernel⟩
theorem sc_Way___init___Like : FnScope ["self", "called"] ["self", "called"] (defScope s_Way___init___Like) := ⟨rfl, rfl, rfl, by decide +kernel, rfl, by decide +kernel, by decide +kernel⟩
theorem sc_Low___init___Low : FnScope ["self"] ["self"] (defScope s_Low___init___Low) := ⟨rfl, rfl, rfl, by decide +kernel, rfl, by decide +kernel, by decide +kernel⟩
theorem sc_Way___init___Low : FnScope ["self", "called"] ["self", "called"] (defScope s_Way___init___Low) := ⟨rfl, rfl, rfl, by decide +kernel, rfl, by decide +kernel, by decide +kernel⟩
theorem sc_High___init___High : FnScope ["self"] ["self"] (defScope s_High___init___High) := ⟨rfl, rfl, rfl, by decide +kernel, rfl, by decide +kernel, by decide +kernel⟩
theorem sc_Way___init___High : FnScope ["self", "called"] ["self", "called"] (defScope s_Way___init___High) := ⟨rfl, rfl, rfl, by decide +kernel, rfl, by decide +kernel, by decide +kernel⟩
theorem sc_Sum___init___Sum : FnScope ["self"] ["self"] (defScope s_Sum___init___Sum) := ⟨rfl, rfl, rfl, by decide +kernel, rfl, by decide +kernel, by decide +kernel⟩
theorem sc_Way___init___Sum : FnScope ["self", "called"] ["self", "called"] (defScope s_Way___init___Sum) := ⟨rfl, rfl, rfl, by decide +kernel, rfl, by decide +kernel, by decide +kernel⟩
theorem sc_Domain_has_code_Numbers : FnScope ["self", "value"] ["self", "value"] (defScope s_Domain_has_code_Numbers) := ⟨rfl, rfl, rfl, by decide +kernel, rfl, by decide +kernel, by decide +kernel⟩
theorem sc_Domain_has_code_Words : FnScope ["self", "value"] ["self", "value"] (defScope s_Domain_has_code_Words) := ⟨rfl, rfl, rfl, by decide +kernel, rfl, by decide +kernel, by decide +kernel⟩
theorem sc_Numbers___init___Numbers : FnScope ["self", "low", "high"] ["self", "low", "high"] (defScope s_Numbers___init___Numbers) := ⟨rfl, rfl, rfl, by decide +kernel, rfl, by decide +kernel, by decide +kernel⟩
theorem sc_Domain___init___Numbers : FnScope ["self", "low", "high"] ["self", "low", "high"] (defScope s_Domain___init___Numbers) := ⟨rfl, rfl, rfl, by decide +kernel, rfl, by decide +kernel, by decide +kernel⟩
theorem sc_Words___init___Words : FnScope ["self", "words", "word"] ["self", "words"] (defScope s_Words___init___Words) := ⟨rfl, rfl, rfl, by decide +kernel, rfl, by decide +kernel, by decide +kernel⟩
theorem sc_Domain___init___Words : FnScope ["self", "low", "high"] ["self", "low", "high"] (defScope s_Domain___init___Words) := ⟨rfl, rfl, rfl, by decide +kernel, rfl, by decide +kernel, by decide +kernel⟩
theorem sc_law : FnScope ["script", "head", "turn", "faults", "columns", "out", "rows", "more", "good", "due", "at", "names", "domains", "table"] ["script"] (defScope s_law) := ⟨rfl, rfl, rfl, by decide +kernel, rfl, by decide +kernel, by decide +kernel⟩
structure Bl (K : PySem.W.Frag) (mg : Str → Option Value) (cTableError cBadName cTooMany cBadWay cBadRow cWay cFirst cOnly cLike cLow cHigh cSum cDomain cNumbers cWords cTable : Addr) : Prop where
  TableError_ : mg "TableError" = some (.ref cTableError)
  n_TableError : PySem.W.nsIn K mainGlobals "TableError" = some (some (.ref cTableError))
  BadName_ : mg "BadName" = some (.ref cBadName)
  n_BadName : PySem.W.nsIn K mainGlobals "BadName" = some (some (.ref cBadName))
  TooMany_ : mg "TooMany" = some (.ref cTooMany)
  n_TooMany : PySem.W.nsIn K mainGlobals "TooMany" = some (some (.ref cTooMany))
  BadWay_ : mg "BadWay" = some (.ref cBadWay)
  n_BadWay : PySem.W.nsIn K mainGlobals "BadWay" = some (some (.ref cBadWay))
  BadRow_ : mg "BadRow" = some (.ref cBadRow)
  n_BadRow : PySem.W.nsIn K mainGlobals "BadRow" = some (some (.ref cBadRow))
  Way_ : mg "Way" = some (.ref cWay)
  n_Way : PySem.W.nsIn K mainGlobals "Way" = some (some (.ref cWay))
  First_ : mg "First" = some (.ref cFirst)
  n_First : PySem.W.nsIn K mainGlobals "First" = some (some (.ref cFirst))
  Only_ : mg "Only" = some (.ref cOnly)
  n_Only : PySem.W.nsIn K mainGlobals "Only" = some (some (.ref cOnly))
  Like_ : mg "Like" = some (.ref cLike)
  n_Like : PySem.W.nsIn K mainGlobals "Like" = some (some (.ref cLike))
  Low_ : mg "Low" = some (.ref cLow)
  n_Low : PySem.W.nsIn K mainGlobals "Low" = some (some (.ref cLow))
  High_ : mg "High" = some (.ref cHigh)
  n_High : PySem.W.nsIn K mainGlobals "High" = some (some (.ref cHigh))
  Sum_ : mg "Sum" = some (.ref cSum)
  n_Sum : PySem.W.nsIn K mainGlobals "Sum" = some (some (.ref cSum))
  Domain_ : mg "Domain" = some (.ref cDomain)
  n_Domain : PySem.W.nsIn K mainGlobals "Domain" = some (some (.ref cDomain))
  Numbers_ : mg "Numbers" = some (.ref cNumbers)
  n_Numbers : PySem.W.nsIn K mainGlobals "Numbers" = some (some (.ref cNumbers))
  Words_ : mg "Words" = some (.ref cWords)
  n_Words : PySem.W.nsIn K mainGlobals "Words" = some (some (.ref cWords))
  Table_ : mg "Table" = some (.ref cTable)
  n_Table : PySem.W.nsIn K mainGlobals "Table" = some (some (.ref cTable))
  x_BadName : ExcCls K cBadName
  l_BadName : ExcLook K cBadName
  x_TooMany : ExcCls K cTooMany
  l_TooMany : ExcLook K cTooMany
  x_BadWay : ExcCls K cBadWay
  l_BadWay : ExcLook K cBadWay
  x_BadRow : ExcCls K cBadRow
  l_BadRow : ExcLook K cBadRow
  k_First : Cls K cFirst
  k_Only : Cls K cOnly
  k_Like : Cls K cLike
  k_Low : Cls K cLow
  k_High : Cls K cHigh
  k_Sum : Cls K cSum
  k_Numbers : Cls K cNumbers
  k_Words : Cls K cWords
  k_Table : Cls K cTable
  t_First : InsT K cFirst
  t_Only : InsT K cOnly
  t_Like : InsT K cLike
  t_Low : InsT K cLow
  t_High : InsT K cHigh
  t_Sum : InsT K cSum
  t_Numbers : InsT K cNumbers
  t_Words : InsT K cWords
  t_Table : InsT K cTable
  na_First_called : NoAttr K cFirst "called"
  na_Only_called : NoAttr K cOnly "called"
  na_Like_called : NoAttr K cLike "called"
  na_Low_called : NoAttr K cLow "called"
  na_High_called : NoAttr K cHigh "called"
  na_Sum_called : NoAttr K cSum "called"
  na_Numbers_low : NoAttr K cNumbers "low"
  na_Numbers_high : NoAttr K cNumbers "high"
  na_Words_low : NoAttr K cWords "low"
  na_Words_high : NoAttr K cWords "high"
  na_Words_words : NoAttr K cWords "words"
  na_Table_name : NoAttr K cTable "name"
  na_Table_names : NoAttr K cTable "names"
  na_Table_domains : NoAttr K cTable "domains"
  na_Table_outcome : NoAttr K cTable "outcome"
  na_Table_way : NoAttr K cTable "way"
  na_Table_rows : NoAttr K cTable "rows"
  f_none : PySem.W.kitOne K (.type "NoneType") (.ref cTable) = some false
  f_nw : PySem.W.kitOne K (.ref cNumbers) (.ref cWords) = some false
  f_ww : PySem.W.kitOne K (.ref cWords) (.ref cWords) = some true
  f_tt : PySem.W.kitOne K (.ref cTable) (.ref cTable) = some true
  e_BadName : PySem.W.exmOne K (.ref cBadName) (.ref cTableError) = some true
  v_BadName : PySem.W.kitOne K (.ref cBadName) (.type "ValueError") = some true
  g_BadName_BadName : PySem.W.kitOne K (.ref cBadName) (.ref cBadName) = some true
  g_BadName_TooMany : PySem.W.kitOne K (.ref cBadName) (.ref cTooMany) = some false
  g_BadName_BadWay : PySem.W.kitOne K (.ref cBadName) (.ref cBadWay) = some false
  g_BadName_BadRow : PySem.W.kitOne K (.ref cBadName) (.ref cBadRow) = some false
  e_TooMany : PySem.W.exmOne K (.ref cTooMany) (.ref cTableError) = some true
  v_TooMany : PySem.W.kitOne K (.ref cTooMany) (.type "ValueError") = some true
  g_TooMany_BadName : PySem.W.kitOne K (.ref cTooMany) (.ref cBadName) = some false
  g_TooMany_TooMany : PySem.W.kitOne K (.ref cTooMany) (.ref cTooMany) = some true
  g_TooMany_BadWay : PySem.W.kitOne K (.ref cTooMany) (.ref cBadWay) = some false
  g_TooMany_BadRow : PySem.W.kitOne K (.ref cTooMany) (.ref cBadRow) = some false
  e_BadWay : PySem.W.exmOne K (.ref cBadWay) (.ref cTableError) = some true
  v_BadWay : PySem.W.kitOne K (.ref cBadWay) (.type "ValueError") = some true
  g_BadWay_BadName : PySem.W.kitOne K (.ref cBadWay) (.ref cBadName) = some false
  g_BadWay_TooMany : PySem.W.kitOne K (.ref cBadWay) (.ref cTooMany) = some false
  g_BadWay_BadWay : PySem.W.kitOne K (.ref cBadWay) (.ref cBadWay) = some true
  g_BadWay_BadRow : PySem.W.kitOne K (.ref cBadWay) (.ref cBadRow) = some false
  e_BadRow : PySem.W.exmOne K (.ref cBadRow) (.ref cTableError) = some true
  v_BadRow : PySem.W.kitOne K (.ref cBadRow) (.type "ValueError") = some true
  g_BadRow_BadName : PySem.W.kitOne K (.ref cBadRow) (.ref cBadName) = some false
  g_BadRow_TooMany : PySem.W.kitOne K (.ref cBadRow) (.ref cTooMany) = some false
  g_BadRow_BadWay : PySem.W.kitOne K (.ref cBadRow) (.ref cBadWay) = some false
  g_BadRow_BadRow : PySem.W.kitOne K (.ref cBadRow) (.ref cBadRow) = some true
  len_ : mg "len" = none
  isinstance_ : mg "isinstance" = none
  int_ : mg "int" = none
  bool_ : mg "bool" = none
  set_ : mg "set" = none
  zip_ : mg "zip" = none
  list_ : mg "list" = none
  range_ : mg "range" = none
  min_ : mg "min" = none
  max_ : mg "max" = none
  enumerate_ : mg "enumerate" = none
  ValueError_ : mg "ValueError" = none
  MOST_SIGNS_ : ∃ u, mg "MOST_SIGNS" = some u ∧ RelV (V.int 12) u
  SMALL_LETTERS_ : ∃ u, mg "SMALL_LETTERS" = some u ∧ RelV (V.str "abcdefghijklmnopqrstuvwxyz") u
  MOST_ROWS_ : ∃ u, mg "MOST_ROWS" = some u ∧ RelV (V.int 200) u
  MOST_COLUMNS_ : ∃ u, mg "MOST_COLUMNS" = some u ∧ RelV (V.int 4) u
  MOST_WORDS_ : ∃ u, mg "MOST_WORDS" = some u ∧ RelV (V.int 40) u
theorem p10 (n : Nat) : (0 : Int) < 10 ^ n := Int.pow_pos (by decide)
theorem getI {xs : List V} {i : Nat} {x : V} (e : xs[i]? = some x) : atI xs (0 + (i : Int)) = some x := by
  rw [Int.zero_add]; exact atI_nat e
theorem ret_r1 {H : Hp} {r : Addr} {o : HO} {b : Addr} {u : HO} (h : H r = some u) (n : H b = none) : upd H b o r = some u := by rw [upd_ne (ne_of_none h n)]; exact h
theorem take_snoc {α : Type} {l : List α} {i : Nat} {x : α} (e : l[i]? = some x) : l.take (i + 1) = l.take i ++ [x] := by rw [List.take_add_one, e]; rfl
def lets : Str := "abcdefghijklmnopqrstuvwxyz"
def isw (z : Str) : Bool := decide ((1 : Int) ≤ ((z.length : Nat) : Int)) && (decide (((z.length : Nat) : Int) ≤ 12) && (!decide (V.str z = V.str "not") && allIn z lets))
theorem all_no {l : List Nat} {i : Nat} {c : Nat} {p : Nat → Bool} (e : l[i]? = some c) (h : p c = false) : l.all p = false := by
  cases q : l.all p with
  | false => rfl
  | true => rw [List.all_eq_true.mp q c (List.mem_of_getElem? e)] at h; cases h
theorem all_succ {l : List Nat} {i : Nat} {c : Nat} {p : Nat → Bool} (e : l[i]? = some c) (h : p c = true) (ha : (l.take i).all p = true) : (l.take (i + 1)).all p = true := by
  rw [take_snoc e, List.all_append, ha]; simp [h]
theorem all_done {z g : Str} (h : (z.cps.toList.take z.cps.size).all (sg g) = true) : allIn z g = true := by
  have e : z.cps.toList.take z.cps.size = z.cps.toList := by rw [← Array.length_toList]; exact List.take_length
  rw [e] at h; exact h
theorem not_sg {g : Str} {c : Nat} (h : (!(!(Builtin.Str.occurrences g ⟨#[c]⟩ 0 g.length 1).isEmpty)) = true) : sg g c = false := by unfold sg; simpa using h
theorem is_sg {g : Str} {c : Nat} (h : ¬ (!(!(Builtin.Str.occurrences g ⟨#[c]⟩ 0 g.length 1).isEmpty)) = true) : sg g c = true := by unfold sg; simpa using h
theorem big {n : Nat} (h : n ≤ 1000) : n ≤ sizeLine := Nat.le_of_lt (small1000 h)
def mkd (C : Addr) (H : Hp) (x dx : Addr) (lo hi : Int) : Hp := upd (upd H x (.ins C dx [("low", .int lo)])) x (.ins C dx [("low", .int lo), ("high", .int hi)])
theorem put2 (v u : V) : putF (Str.ofString "high") u [(Str.ofString "low", v)] = [(Str.ofString "low", v), (Str.ofString "high", u)] := by
  unfold putF putF
  rw [if_neg (by decide)]
theorem put3 (v u t : V) : putF (Str.ofString "words") t [(Str.ofString "low", v), (Str.ofString "high", u)] = [(Str.ofString "low", v), (Str.ofString "high", u), (Str.ofString "words", t)] := by
  unfold putF putF putF
  rw [if_neg (by decide), if_neg (by decide)]
def hiW (zs : List Str) : Int := ((zs.length : Nat) : Int) - 1
structure Good (zs : List Str) : Prop where
  some_ : 1 ≤ zs.length
  few : zs.length ≤ 40
  words : ∀ z ∈ zs, isw z = true
  once : zs.Nodup
theorem flat_strs (zs : List Str) : (zs.map V.str).all flatV = true := by
  rw [List.all_map]
  exact List.all_eq_true.mpr fun _ _ => rfl
theorem get_strs {zs : List Str} {i : Nat} {x : V} (e : (zs.map V.str)[i]? = some x) : ∃ z, x = .str z ∧ zs[i]? = some z := by
  rw [List.getElem?_map] at e
  cases q : zs[i]? with
  | none => rw [q] at e; cases e
  | some z => rw [q] at e; cases e; exact ⟨z, rfl, rfl⟩
theorem put_strs {zs : List Str} {i : Nat} {z : Str} (e : zs[i]? = some z) : (zs.map V.str)[i]? = some (.str z) := by rw [List.getElem?_map, e]; rfl
def six : List Str := [Str.ofString "first", Str.ofString "only", Str.ofString "like", Str.ofString "low", Str.ofString "high", Str.ofString "sum"]
def WyN (C : Addr) (H : Hp) (x : Addr) (z : Str) : Prop := ∃ dx, H x = some (.ins C dx [("called", .str z)])
theorem WyN.same {C : Addr} {H H' : Hp} {x : Addr} {z : Str} (h : WyN C H x z) (s : Same H H') : WyN C H' x z := let ⟨dx, e⟩ := h; ⟨dx, s _ _ e⟩
def fnew (C : Addr) (z : Str) : Sp := fun vs H Q _ => ∃ (x dx : Addr), vs = [.ref x] ∧ H x = some (.ins C dx []) ∧ Q .non (upd H x (.ins C dx [("called", .str z)]))
theorem small2 : 2 ≤ sizeLine := by decide
/-- the six classes, told by place -/
def cl6 (a b c d e f : Addr) : List Addr := [a, b, c, d, e, f]

/-! domains, told by their ends -/
def DomC (C : Addr) (H : Hp) (a : Addr) (lo hi : Int) : Prop := ∃ dx fs, H a = some (.ins C dx fs) ∧ fs.lookup (Str.ofString "low") = some (.int lo) ∧ fs.lookup (Str.ofString "high") = some (.int hi) ∧ fs.lookup (Str.ofString "has_code") = none
def Dom (cN cW : Addr) (H : Hp) (a : Addr) (b : Int × Int) : Prop := ∃ C, (C = cN ∨ C = cW) ∧ DomC C H a b.1 b.2
theorem Dom.same {cN cW : Addr} {H H' : Hp} {a : Addr} {b : Int × Int} (h : Dom cN cW H a b) (s : Same H H') : Dom cN cW H' a b := let ⟨C, hC, dx, fs, e, r⟩ := h; ⟨C, hC, dx, fs, s _ _ e, r⟩
theorem Dom.upd {cN cW : Addr} {H : Hp} {a D : Addr} {b : Int × Int} {o : HO} {zs : List V} (h : Dom cN cW H a b) (e : H D = some (.lst zs)) : Dom cN cW (upd H D o) a b :=
  let ⟨C, hC, dx, fs, f, r⟩ := h
  ⟨C, hC, dx, fs, (upd_ne (ne_of f e (by intro z; cases z))).trans f, r⟩
/-- a row of refs, item by item -/
def RefL {α : Type} (xs : List V) (as : List α) (P : Addr → α → Prop) : Prop := xs.length = as.length ∧ ∀ (j : Nat) (a : α), as[j]? = some a → ∃ r, xs[j]? = some (.ref r) ∧ P r a
theorem RefL.mono {α : Type} {xs : List V} {as : List α} {P Q : Addr → α → Prop} (h : RefL xs as P) (k : ∀ r a, P r a → Q r a) : RefL xs as Q := ⟨h.1, fun j a e => let ⟨r, e1, p⟩ := h.2 j a e; ⟨r, e1, k r a p⟩⟩
theorem RefL.nil {α : Type} {P : Addr → α → Prop} : RefL [] [] P := ⟨rfl, (fun j a e => by simp at e)⟩
theorem RefL.snoc {α : Type} {xs : List V} {as : List α} {P : Addr → α → Prop} {r : Addr} {a : α} (h : RefL xs as P) (p : P r a) : RefL (xs ++ [.ref r]) (as ++ [a]) P := by
  refine ⟨by simp [h.1], fun j b e => ?_⟩
  by_cases hj : j < as.length
  · rw [List.getElem?_append_left hj] at e
    obtain ⟨r', e1, q⟩ := h.2 j b e
    exact ⟨r', by rw [List.getElem?_append_left (by rw [h.1]; exact hj)]; exact e1, q⟩
  · have hj2 : j = as.length := by
      have := (List.getElem?_eq_some_iff.mp e).1
      simp at this; omega
    subst hj2
    simp at e
    subst e
    exact ⟨r, by rw [← h.1]; simp, p⟩
theorem RefL.get {α : Type} {xs : List V} {as : List α} {P : Addr → α → Prop} (h : RefL xs as P) {j : Nat} {x : V} (e : xs[j]? = some x) : ∃ r a, x = .ref r ∧ as[j]? = some a ∧ P r a := by
  have hj := (List.getElem?_eq_some_iff.mp e).1
  have ea := List.getElem?_eq_getElem (l := as) (i := j) (by rw [← h.1]; exact hj)
  obtain ⟨r, e1, p⟩ := h.2 j _ ea
  rw [e] at e1; cases e1
  exact ⟨r, _, rfl, ea, p⟩
abbrev Prs := List (Int × Int)
/-- a list of pairs at l -/
def SpA (N : Addr → Prop) (H : Hp) (l : Addr) (ps : Prs) : Prop := N l ∧ ∃ ys, H l = some (.lst ys) ∧ PL H ys ps
def CL (N : Addr → Prop) (H : Hp) (xs : List V) (pss : List Prs) : Prop := RefL xs pss (SpA N H)
abbrev Rw := List Prs × Int
def RowA (N : Addr → Prop) (H : Hp) (r : Addr) (rw_ : Rw) : Prop := ∃ ce cs, H r = some (.tup [.ref ce, .int rw_.2]) ∧ N ce ∧ H ce = some (.lst cs) ∧ CL N H cs rw_.1
def RL (N : Addr → Prop) (H : Hp) (xs : List V) (rws : List Rw) : Prop := RefL xs rws (RowA N H)
theorem SpA.same {N : Addr → Prop} {H H' : Hp} {l : Addr} {ps : Prs} (h : SpA N H l ps) (s : Same H H') : SpA N H' l ps := let ⟨n, ys, e, p⟩ := h; ⟨n, ys, s _ _ e, p.mono s.tups⟩
theorem CL.same {N : Addr → Prop} {H H' : Hp} {xs : List V} {pss : List Prs} (h : CL N H xs pss) (s : Same H H') : CL N H' xs pss := RefL.mono h fun _ _ p => p.same s
theorem RowA.same {N : Addr → Prop} {H H' : Hp} {r : Addr} {w : Rw} (h : RowA N H r w) (s : Same H H') : RowA N H' r w := let ⟨ce, cs, e, n, f, c⟩ := h; ⟨ce, cs, s _ _ e, n, s _ _ f, c.same s⟩
theorem RL.same {N : Addr → Prop} {H H' : Hp} {xs : List V} {rws : List Rw} (h : RL N H xs rws) (s : Same H H') : RL N H' xs rws := RefL.mono h fun _ _ p => p.same s
abbrev NT : Addr → Prop := fun _ => True
theorem SpA.any {N : Addr → Prop} {H : Hp} {l : Addr} {ps : Prs} (h : SpA N H l ps) : SpA NT H l ps := ⟨trivial, h.2⟩
theorem CL.any {N : Addr → Prop} {H : Hp} {xs : List V} {pss : List Prs} (h : CL N H xs pss) : CL NT H xs pss := RefL.mono h fun _ _ p => p.any
theorem RowA.any {N : Addr → Prop} {H : Hp} {r : Addr} {w : Rw} (h : RowA N H r w) : RowA NT H r w := let ⟨ce, cs, e, _, f, c⟩ := h; ⟨ce, cs, e, trivial, f, c.any⟩
theorem RL.any {N : Addr → Prop} {H : Hp} {xs : List V} {rws : List Rw} (h : RL N H xs rws) : RL NT H xs rws := RefL.mono h fun _ _ p => p.any
theorem SpA.wk {N N' : Addr → Prop} {H : Hp} {l : Addr} {ps : Prs} (h : SpA N H l ps) (k : ∀ a, N a → N' a) : SpA N' H l ps := ⟨k _ h.1, h.2⟩
theorem CL.wk {N N' : Addr → Prop} {H : Hp} {xs : List V} {pss : List Prs} (h : CL N H xs pss) (k : ∀ a, N a → N' a) : CL N' H xs pss := RefL.mono h fun _ _ p => p.wk k
theorem RowA.wk {N N' : Addr → Prop} {H : Hp} {r : Addr} {w : Rw} (h : RowA N H r w) (k : ∀ a, N a → N' a) : RowA N' H r w := let ⟨ce, cs, e, n, f, c⟩ := h; ⟨ce, cs, e, k _ n, f, c.wk k⟩
theorem SpA.updN {N : Addr → Prop} {D : Addr} {H : Hp} {l : Addr} {ps : Prs} {zs : List V} {o : HO} (h : SpA N H l ps) (n : ¬ N D) (e : H D = some (.lst zs)) : SpA N (upd H D o) l ps :=
  let ⟨m, ys, f, p⟩ := h
  ⟨m, ys, (upd_ne (fun z => n (by rw [← z]; exact m))).trans f, p.mono (sameT_lst e)⟩
theorem CL.updN {N : Addr → Prop} {D : Addr} {H : Hp} {xs : List V} {pss : List Prs} {zs : List V} {o : HO} (h : CL N H xs pss) (n : ¬ N D) (e : H D = some (.lst zs)) : CL N (upd H D o) xs pss := RefL.mono h fun _ _ p => p.updN n e
theorem RowA.updN {N : Addr → Prop} {D : Addr} {H : Hp} {r : Addr} {w : Rw} {zs : List V} {o : HO} (h : RowA N H r w) (n : ¬ N D) (e : H D = some (.lst zs)) : RowA N (upd H D o) r w :=
  let ⟨ce, cs, f, m, g, c⟩ := h
  ⟨ce, cs, (upd_ne (ne_of f e (by intro z; cases z))).trans f, m, (upd_ne (fun z => n (by rw [← z]; exact m))).trans g, c.updN n e⟩
theorem RL.updN {N : Addr → Prop} {D : Addr} {H : Hp} {xs : List V} {rws : List Rw} {zs : List V} {o : HO} (h : RL N H xs rws) (n : ¬ N D) (e : H D = some (.lst zs)) : RL N (upd H D o) xs rws := RefL.mono h fun _ _ p => p.updN n e
/-- free ahead, and not D -/
def Fr (H : Hp) (D : Addr) : Addr → Prop := fun a => H a = none ∧ a ≠ D
theorem Fr.out {H : Hp} {D : Addr} : ¬ Fr H D D := fun h => h.2 rfl
/-- columns of the law -/
structure RngOk (b : Int × Int) (zs : List Str) : Prop where
  le : b.1 ≤ b.2
  ws : zs ≠ [] → Good zs ∧ b = (0, hiW zs)
  bd : -(3 * ((10 ^ 59 : Nat) : Int)) ≤ b.1 ∧ b.2 ≤ 3 * ((10 ^ 59 : Nat) : Int)
def ColA (N : Addr → Prop) (H : Hp) (l : Addr) (b : Int × Int) : Prop := ∃ (w : Addr) (zs : List Str), N l ∧ N w ∧ H l = some (.lst [.int b.1, .int b.2, .ref w]) ∧ H w = some (.lst (zs.map V.str)) ∧ RngOk b zs
def Cols (N : Addr → Prop) (H : Hp) (xs : List V) (bs : Prs) : Prop := RefL xs bs (ColA N H)
theorem ColA.same {N : Addr → Prop} {H H' : Hp} {l : Addr} {b : Int × Int} (h : ColA N H l b) (s : Same H H') : ColA N H' l b := let ⟨w, zs, n, m, e, f, r⟩ := h; ⟨w, zs, n, m, s _ _ e, s _ _ f, r⟩
theorem Cols.same {N : Addr → Prop} {H H' : Hp} {xs : List V} {bs : Prs} (h : Cols N H xs bs) (s : Same H H') : Cols N H' xs bs := RefL.mono h fun _ _ p => p.same s
theorem ColA.upd {D : Addr} {H : Hp} {l : Addr} {b : Int × Int} {o : HO} (h : ColA (· ≠ D) H l b) : ColA (· ≠ D) (upd H D o) l b := let ⟨w, zs, n, m, e, f, r⟩ := h; ⟨w, zs, n, m, (upd_ne n).trans e, (upd_ne m).trans f, r⟩
theorem Cols.upd {D : Addr} {H : Hp} {xs : List V} {bs : Prs} {o : HO} (h : Cols (· ≠ D) H xs bs) : Cols (· ≠ D) (upd H D o) xs bs := RefL.mono h fun _ _ p => p.upd
theorem ColA.any {N : Addr → Prop} {H : Hp} {l : Addr} {b : Int × Int} (h : ColA N H l b) : ColA NT H l b := let ⟨w, zs, _, _, r⟩ := h; ⟨w, zs, trivial, trivial, r⟩
theorem ColA.wk {N N' : Addr → Prop} {H : Hp} {l : Addr} {b : Int × Int} (h : ColA N H l b) (k : ∀ a, N a → N' a) : ColA N' H l b := let ⟨w, zs, n, m, r⟩ := h; ⟨w, zs, k _ n, k _ m, r⟩
theorem Cols.any {N : Addr → Prop} {H : Hp} {xs : List V} {bs : Prs} (h : Cols N H xs bs) : Cols NT H xs bs := RefL.mono h fun _ _ p => p.any
/-- a row that a table takes -/
structure RowOk (bs : Prs) (o : Int × Int) (w : Rw) : Prop where
  len : w.1.length = bs.length
  inn : ∀ (j : Nat) (ps : Prs) (b : Int × Int), w.1[j]? = some ps → bs[j]? = some b → ∀ p ∈ ps, b.1 ≤ p.1 ∧ p.2 ≤ b.2
  lo : o.1 ≤ w.2
  hi : w.2 ≤ o.2
/-- a row fits codes -/
def rfit (pss : List Prs) (cs : List Int) : Bool := (List.range cs.length).all fun j => inP (pss.getD j []) (cs.getD j 0)
theorem pf1 (v0 v1 : V) : putF (Str.ofString "names") v1 [(Str.ofString "name", v0)] = [(Str.ofString "name", v0), (Str.ofString "names", v1)] := by
  unfold putF putF
  rw [if_neg (by decide)]
theorem pf2 (v0 v1 v2 : V) : putF (Str.ofString "domains") v2 [(Str.ofString "name", v0), (Str.ofString "names", v1)] = [(Str.ofString "name", v0), (Str.ofString "names", v1), (Str.ofString "domains", v2)] := by
  unfold putF putF putF
  rw [if_neg (by decide), if_neg (by decide)]
theorem pf3 (v0 v1 v2 v3 : V) : putF (Str.ofString "outcome") v3 [(Str.ofString "name", v0), (Str.ofString "names", v1), (Str.ofString "domains", v2)] = [(Str.ofString "name", v0), (Str.ofString "names", v1), (Str.ofString "domains", v2), (Str.ofString "outcome", v3)] := by
  unfold putF putF putF putF
  rw [if_neg (by decide), if_neg (by decide), if_neg (by decide)]
theorem pf4 (v0 v1 v2 v3 v4 : V) : putF (Str.ofString "way") v4 [(Str.ofString "name", v0), (Str.ofString "names", v1), (Str.ofString "domains", v2), (Str.ofString "outcome", v3)] = [(Str.ofString "name", v0), (Str.ofString "names", v1), (Str.ofString "domains", v2), (Str.ofString "outcome", v3), (Str.ofString "way", v4)] := by
  unfold putF putF putF putF putF
  rw [if_neg (by decide), if_neg (by decide), if_neg (by decide), if_neg (by decide)]
theorem pf5 (v0 v1 v2 v3 v4 v5 : V) : putF (Str.ofString "rows") v5 [(Str.ofString "name", v0), (Str.ofString "names", v1), (Str.ofString "domains", v2), (Str.ofString "outcome", v3), (Str.ofString "way", v4)] = [(Str.ofString "name", v0), (Str.ofString "names", v1), (Str.ofString "domains", v2), (Str.ofString "outcome", v3), (Str.ofString "way", v4), (Str.ofString "rows", v5)] := by
  unfold putF putF putF putF putF putF
  rw [if_neg (by decide), if_neg (by decide), if_neg (by decide), if_neg (by decide), if_neg (by decide)]
/-- the heap without x -/
def hide (H : Hp) (x : Addr) : Hp := fun b => if b = x then none else H b
theorem hide_of {H : Hp} {x b : Addr} {o : HO} (e : H b = some o) (n : b ≠ x) : hide H x b = some o := by unfold hide; rw [if_neg n]; exact e
theorem hide_same {H H' : Hp} {x : Addr} (k : ∀ b o, b ≠ x → H b = some o → H' b = some o) : Same (hide H x) H' := fun b o e => by
  unfold hide at e
  by_cases h : b = x
  · rw [if_pos h] at e; cases e
  · rw [if_neg h] at e; exact k b o h e
theorem PL.hide {H : Hp} {x C dx : Addr} {fs : List (Str × V)} (hx : H x = some (.ins C dx fs)) {ys : List V} {ps : Prs} (h : PL H ys ps) : PL (hide H x) ys ps :=
  h.mono fun b xs e => hide_of e (ne_of e hx (by intro z; cases z))
theorem RL.hide {H : Hp} {x C dx : Addr} {fs : List (Str × V)} (hx : H x = some (.ins C dx fs)) {xs : List V} {rws : List Rw} (h : RL NT H xs rws) : RL NT (My.hide H x) xs rws :=
  RefL.mono h fun r w ⟨ce, cs, e, _, f, c⟩ => ⟨ce, cs, hide_of e (ne_of e hx (by intro z; cases z)), trivial, hide_of f (ne_of f hx (by intro z; cases z)), RefL.mono c fun l ps ⟨_, ys, g, p⟩ => ⟨trivial, ys, hide_of g (ne_of g hx (by intro z; cases z)), PL.hide hx p⟩⟩
/-! words -/
def wcs (c k : Int) : List Nat := List.replicate (c / 26 % 6).toNat (97 + (c % 26).toNat) ++ ([97 + (k / 7 % 7).toNat, 97 + (k % 7).toNat] ++ List.replicate (k % 5).toNat (97 + (c / 156 % 26).toNat))
def wd (c k : Int) : Str := ⟨(wcs c k).toArray⟩
theorem wcs_len (c k : Int) : (wcs c k).length = (c / 26 % 6).toNat + (2 + (k % 5).toNat) := by unfold wcs; simp; omega
theorem wcs_at0 (c k : Int) : (wcs c k)[(c / 26 % 6).toNat]? = some (97 + (k / 7 % 7).toNat) := by
  unfold wcs
  rw [List.getElem?_append_right (by simp)]
  simp
theorem wcs_at1 (c k : Int) : (wcs c k)[(c / 26 % 6).toNat + 1]? = some (97 + (k % 7).toNat) := by
  unfold wcs
  rw [List.getElem?_append_right (by simp)]
  simp
theorem wd_len (c k : Int) : (wd c k).length = (c / 26 % 6).toNat + (2 + (k % 5).toNat) := by
  rw [← wcs_len c k]; unfold wd; simp [Str.length]
theorem wd_le (c k : Int) : 2 ≤ (wd c k).length ∧ (wd c k).length ≤ 11 := by
  rw [wd_len]
  have h0 := Int.emod_lt_of_pos (c / 26) (show (0 : Int) < 6 by decide)
  have h1 := Int.emod_lt_of_pos k (show (0 : Int) < 5 by decide)
  omega
theorem sg_let {c : Nat} (h : 97 ≤ c ∧ c ≤ 122) : sg lets c = true := by
  have : ∀ d : Nat, d < 26 → sg lets (97 + d) = true := by decide +kernel
  have z := this (c - 97) (by omega)
  rw [show 97 + (c - 97) = c by omega] at z
  exact z
theorem wcs_let (c k : Int) : ∀ x ∈ wcs c k, 97 ≤ x ∧ x ≤ 122 := fun x hx => by
  have h0 := Int.emod_lt_of_pos c (show (0 : Int) < 26 by decide)
  have h1 := Int.emod_lt_of_pos (c / 156) (show (0 : Int) < 26 by decide)
  have h2 := Int.emod_lt_of_pos (k / 7) (show (0 : Int) < 7 by decide)
  have h3 := Int.emod_lt_of_pos k (show (0 : Int) < 7 by decide)
  unfold wcs at hx
  simp only [List.mem_append, List.mem_replicate, List.mem_cons, List.not_mem_nil, or_false] at hx
  rcases hx with ⟨_, rfl⟩ | (rfl | rfl) | ⟨_, rfl⟩ <;> omega
theorem wd_isw (c k : Int) : isw (wd c k) = true := by
  have hl := wd_le c k
  have ha : allIn (wd c k) lets = true := by
    unfold allIn wd
    rw [List.all_eq_true]
    intro x hx
    exact sg_let (wcs_let c k x (by simpa using hx))
  have hn : ¬ (V.str (wd c k) = V.str (Str.ofString "not")) := fun h => by
    injection h with h
    have e : Str.ofString "not" = ⟨[110, 111, 116].toArray⟩ := by decide +kernel
    rw [e] at h
    unfold wd at h
    injection h with h
    have h : wcs c k = [110, 111, 116] := by simpa using congrArg Array.toList h
    have z := wcs_at0 c k
    rw [h] at z
    have h2 := Int.emod_lt_of_pos (k / 7) (show (0 : Int) < 7 by decide)
    have m := List.mem_of_getElem? z
    simp only [List.mem_cons, List.not_mem_nil, or_false] at m
    omega
  unfold isw
  rw [ha, decide_eq_true (show (1 : Int) ≤ (((wd c k).length : Nat) : Int) by omega), decide_eq_true (show (((wd c k).length : Nat) : Int) ≤ 12 by omega)]
  show (true && (true && (!decide (V.str (wd c k) = V.str (Str.ofString "not")) && true))) = true
  rw [decide_eq_false hn]; rfl
theorem wd_inj {c k k' : Int} (h0 : 0 ≤ k) (h1 : k < 49) (h2 : 0 ≤ k') (h3 : k' < 49) (e : wd c k = wd c k') : k = k' := by
  unfold wd at e
  injection e with e
  have e : wcs c k = wcs c k' := by simpa using congrArg Array.toList e
  have a := wcs_at0 c k
  have b := wcs_at1 c k
  rw [e, wcs_at0] at a
  rw [e, wcs_at1] at b
  injection a with a
  injection b with b
  omega
theorem lets_at {s : Str} {n : Nat} (h : s.cps.toList = (List.range n).map (97 + ·)) {k : Int} (h0 : 0 ≤ k) (h1 : k < n) : atI s.cps.toList k = some (97 + k.toNat) := by
  have hk : k.toNat < n := by omega
  have z : s.cps.toList[k.toNat]? = some (97 + k.toNat) := by rw [h, List.getElem?_map, List.getElem?_range hk]; rfl
  have q := atI_nat z
  rw [show ((k.toNat : Nat) : Int) = k by omega] at q
  exact q
theorem abc26 : (Str.ofString "abcdefghijklmnopqrstuvwxyz").cps.toList = (List.range 26).map (97 + ·) := by decide +kernel
theorem abc7 : (Str.ofString "abcdefg").cps.toList = (List.range 7).map (97 + ·) := by decide +kernel
theorem mul1 (c : Nat) (n : Int) : Txt.mul ⟨#[c]⟩ n = ⟨(List.replicate n.toNat c).toArray⟩ := by
  have h := PyProof.Rows.mul_one_list c n
  cases q : Txt.mul ⟨#[c]⟩ n with
  | mk a => rw [q] at h; simp only at h; rw [← h]
/-- the words of a domain -/
def wds (c : Int) (n : Nat) : List Str := (List.range n).map fun j : Nat => wd c (j : Int)
theorem wds_succ (c : Int) (n : Nat) : wds c (n + 1) = wds c n ++ [wd c (n : Int)] := by unfold wds; rw [List.range_succ, List.map_append]; rfl
theorem wds_nodup {c : Int} {n : Nat} (h : n ≤ 49) (f : Nat → Int) (hf : ∀ j, j < n → 0 ≤ f j ∧ f j < 49) (inj : ∀ i j, f i = f j → i = j) : ((List.range n).map fun j : Nat => wd c (f j)).Nodup := by
  rw [List.nodup_iff_pairwise_ne, List.pairwise_map]
  refine List.Pairwise.imp_of_mem (R := fun a b => a ≠ b) (fun {a b} ha hb hab e => ?_) List.nodup_range
  have a1 := hf a (List.mem_range.mp ha)
  have b1 := hf b (List.mem_range.mp hb)
  exact hab (inj a b (wd_inj a1.1 a1.2 b1.1 b1.2 e))
theorem wds_good {c : Int} {n : Nat} (h1 : 1 ≤ n) (h2 : n ≤ 40) : Good (wds c n) := by
  refine ⟨by unfold wds; simp; omega, by unfold wds; simp; omega, fun z hz => ?_, wds_nodup (n := n) (by omega) (fun j : Nat => (j : Int)) (fun j hj => ⟨by omega, by omega⟩) fun i j e => by omega⟩
  unfold wds at hz
  obtain ⟨j, _, rfl⟩ := List.mem_map.mp hz
  exact wd_isw _ _
abbrev SI := Str × Int
def tp (p : SI) : List V := [.str p.1, .int p.2]
def say (i : Int) : SI := (Str.ofString "say", i)
def clash : SI := (Str.ofString "clash", 0)
def non_ : SI := (Str.ofString "none", 0)
def least (ns : List Int) : Int := ns.foldl (fun m c => if c < m then c else m) (ns.headD 0)
def great (ns : List Int) : Int := ns.foldl (fun m c => if c > m then c else m) (ns.headD 0)
def fLow (ns : List Int) : SI := say (least ns)
def fHigh (ns : List Int) : SI := say (great ns)
def fLike (ns : List Int) : SI := if least ns = great ns then say (least ns) else clash
def ver (f : List Int → SI) : List Int → SI
  | [] => non_
  | n :: ns => f (n :: ns)
def Wy (C : Addr) (H : Hp) (x : Addr) : Prop := ∃ dx z, H x = some (.ins C dx [("called", .str z)])
def fFirst (ns : List Int) : SI := say (ns.headD 0)
def fOnly (ns : List Int) : SI := if ns.length = 1 then say (ns.headD 0) else clash
def near (lo hi n : Int) : Int := if n < lo then lo else if n > hi then hi else n
/-- what the way at a place makes of codes -/
def wf : Nat → Int → Int → List Int → SI
  | 0, _, _ => fFirst
  | 1, _, _ => fOnly
  | 2, _, _ => fLike
  | 3, _, _ => fLow
  | 4, _, _ => fHigh
  | _, lo, hi => fun ns => say (near lo hi ns.sum)
def spCh (K : PySem.W.Frag) (C cN cW : Addr) (i : Nat) : Sp := fun vs H Q _ => ∃ (x c o : Addr) (n : Int) (ns : List Int) (b : Int × Int), vs = [.ref x, .ref c, .ref o] ∧ Wy C H x ∧ Dom cN cW H o b ∧ b.1 ≤ b.2 ∧ SqL K H c ((n :: ns).map V.int) ∧ ns.length < 900 ∧ ∀ (r : Addr) (H' : Hp), Same H H' → SqT K H' r (tp (wf i b.1 b.2 (n :: ns))) → Q (.ref r) H'
def spVe (K : PySem.W.Frag) (C cN cW : Addr) (i : Nat) : Sp := fun vs H Q _ => ∃ (x c o : Addr) (ns : List Int) (b : Int × Int), vs = [.ref x, .ref c, .ref o] ∧ Wy C H x ∧ Dom cN cW H o b ∧ b.1 ≤ b.2 ∧ SqL K H c (ns.map V.int) ∧ ns.length < 900 ∧ ∀ (r : Addr) (H' : Hp), Same H H' → SqT K H' r (tp (ver (wf i b.1 b.2) ns)) → Q (.ref r) H'
/-! masks -/
def msk (f : Nat → Bool) : Nat → Nat
  | 0 => 0
  | n + 1 => (if f n then 2 ^ n else 0) + msk f n
def bitOn (m : Int) (k : Nat) : Bool := Builtin.bitAnd (m / 2 ^ k) 1 != 0
/-- the codes of some rows ahead of n -/
def pkF (rws : List Rw) (f : Nat → Bool) (n : Nat) : List Int := ((List.range n).filter f).map fun k => (rws.getD k ([], 0)).2
/-- a table: its rows, its way, its outcome -/
def Tbl (cT cN cW : Addr) (H : Hp) (t : Addr) (rws : List Rw) (i : Nat) (o : Int × Int) : Prop := ∃ (rl ou dx : Addr) (fs : List (Str × V)) (xs : List V) (wy : Str), H t = some (.ins cT dx fs) ∧ fs.lookup (Str.ofString "rows") = some (.ref rl) ∧ fs.lookup (Str.ofString "way") = some (.str wy) ∧ fs.lookup (Str.ofString "outcome") = some (.ref ou) ∧ H rl = some (.lst xs) ∧ RL NT H xs rws ∧ six[i]? = some wy ∧ Dom cN cW H ou o ∧ o.1 ≤ o.2 ∧ xs.length ≤ 200
def fitF (rws : List Rw) (cs : List Int) (k : Nat) : Bool := rfit (rws.getD k ([], 0)).1 cs
/-- the codes of the rows that fit -/
def fl (rws : List Rw) (cs : List Int) : List Int := (rws.filter fun w => rfit w.1 cs).map (·.2)
/-- the places of the law's ways among the six -/
def ord : List Nat := [3, 4, 2, 1, 0, 5]
def w6 : List Str := [Str.ofString "low", Str.ofString "high", Str.ofString "like", Str.ofString "only", Str.ofString "first", Str.ofString "sum"]
def dueL (lo hi : Int) (ns : List Int) : List SI := ord.map fun i => ver (wf i lo hi) ns
/-- tuples of verdicts -/
def DL (H : Hp) (xs : List V) (ps : List SI) : Prop := RefL xs ps fun r p => H r = some (.tup (tp p))
/-- what else a table has -/
def TblX (cT : Addr) (H : Hp) (t : Addr) (nm wy : Str) (ou : Addr) (zs : List Str) (dv : List V) : Prop := ∃ (dx na dl : Addr) (fs : List (Str × V)), H t = some (.ins cT dx fs) ∧ fs.lookup (Str.ofString "name") = some (.str nm) ∧ fs.lookup (Str.ofString "way") = some (.str wy) ∧ fs.lookup (Str.ofString "outcome") = some (.ref ou) ∧ fs.lookup (Str.ofString "names") = some (.ref na) ∧ fs.lookup (Str.ofString "domains") = some (.ref dl) ∧ H na = some (.lst (zs.map V.str)) ∧ H dl = some (.lst dv)
theorem TblX.same {cT : Addr} {H H' : Hp} {t : Addr} {nm wy : Str} {ou : Addr} {zs : List Str} {dv : List V} (h : TblX cT H t nm wy ou zs dv) (s : Same H H') : TblX cT H' t nm wy ou zs dv :=
  let ⟨dx, na, dl, fs, h1, h2, h3, h4, h5, h6, h7, h8⟩ := h
  ⟨dx, na, dl, fs, s _ _ h1, h2, h3, h4, h5, h6, s _ _ h7, s _ _ h8⟩
/-- texts of few, small signs -/
structure Sm (n : Nat) (z : Str) : Prop where
  len : z.length ≤ n
  low : ∀ c ∈ z.cps.toList, c < 16 ^ 8
theorem low_of (s : String) : ∀ c ∈ (Str.ofString s).cps.toList, c < 16 ^ 8 := fun c hc => by
  rw [Str.ofString_eq_toList] at hc
  simp only [List.mem_map] at hc
  obtain ⟨ch, _, rfl⟩ := hc
  exact ch.val.toNat_lt
theorem Sm.of (s : String) {n : Nat} (h : (Str.ofString s).length ≤ n) : Sm n (Str.ofString s) := ⟨h, low_of s⟩
theorem cut_sub (ns : List Int) (lo hi : Option Int) : ∃ ms : List Int, cutV (ns.map V.int) lo hi = ms.map V.int ∧ ms.length ≤ ns.length ∧ ∀ m ∈ ms, m ∈ ns := by
  unfold cutV
  refine ⟨(ns.drop (HT.sIx (ns.map V.int).length 0 lo)).take (HT.sIx (ns.map V.int).length (ns.map V.int).length hi - HT.sIx (ns.map V.int).length 0 lo), ?_, ?_, fun m hm => List.mem_of_mem_drop (List.mem_of_mem_take hm)⟩
  · rw [List.map_take, List.map_drop]
  · rw [List.length_take, List.length_drop]; omega
theorem mem_map_int {ns : List Int} {i : Nat} {x : V} (e : (ns.map V.int)[i]? = some x) : ∃ c, x = .int c ∧ c ∈ ns := by
  rw [List.getElem?_map] at e
  cases z : ns[i]? with
  | none => rw [z] at e; cases e
  | some w => rw [z] at e; cases e; exact ⟨w, rfl, List.mem_of_getElem? z⟩
theorem at_strs {zs : List Str} {k : Int} (h0 : 0 ≤ k) (h1 : k < ((zs.length : Nat) : Int)) : ∃ z, z ∈ zs ∧ atI (zs.map V.str) k = some (.str z) := by
  have hk : k.toNat < zs.length := by omega
  refine ⟨zs[k.toNat], List.getElem_mem hk, ?_⟩
  have z := atI_nat (put_strs (List.getElem?_eq_getElem hk))
  rw [show ((k.toNat : Nat) : Int) = k by omega] at z
  exact z
theorem deq_lst {K : PySem.W.Frag} {H : Hp} {n : Nat} {a b : Addr} {xs ys : List V} (ha : SqL K H a xs) (hb : SqL K H b ys) (hl : xs.length = ys.length) (h : ∀ (j : Nat) (x y : V), xs[j]? = some x → ys[j]? = some y → DEq K H n x y true) : DEq K H (n + 1) (.ref a) (.ref b) true := by
  by_cases e : a = b
  · subst e; exact .same a
  · have := DEq.lst (f := fun _ => true) e ha hb hl h
    rw [show (List.range xs.length).all (fun _ => true) = true by simp] at this
    exact this
theorem deq_tup {K : PySem.W.Frag} {H : Hp} {n : Nat} {a b : Addr} {xs ys : List V} (ha : SqT K H a xs) (hb : SqT K H b ys) (hl : xs.length = ys.length) (h : ∀ (j : Nat) (x y : V), xs[j]? = some x → ys[j]? = some y → DEq K H n x y true) : DEq K H (n + 1) (.ref a) (.ref b) true := by
  by_cases e : a = b
  · subst e; exact .same a
  · have := DEq.tup (f := fun _ => true) e ha hb h
    rw [show ((List.range (min xs.length ys.length)).all (fun _ => true) && xs.length == ys.length) = true by simp [hl]] at this
    exact this
theorem deq_int {K : PySem.W.Frag} {H : Hp} {n : Nat} (i : Int) : DEq K H n (.int i) (.int i) true := by
  have := DEq.flat (K := K) (H := H) (n := n) (x := .int i) (y := .int i) rfl rfl
  rw [show eqV (.int i) (.int i) = true by simp [eqV]] at this
  exact this
theorem deq_pl {K : PySem.W.Frag} {H : Hp} {n : Nat} {xs ys : List V} {ps : Prs} (h : PL H xs ps) (h' : PL H ys ps) (j : Nat) (x y : V) (e1 : xs[j]? = some x) (e2 : ys[j]? = some y) : DEq K H (n + 1) x y true := by
  obtain ⟨u, r, g1, rfl, h1⟩ := h.get e1
  obtain ⟨u', r', g2, rfl, h2⟩ := h'.get e2
  rw [g1] at g2
  cases g2
  refine deq_tup (SqT.of h1) (SqT.of h2) rfl fun j x y f1 f2 => ?_
  rw [f1] at f2
  cases f2
  match j, f1 with
  | 0, f1 => cases f1; exact deq_int _
  | 1, f1 => cases f1; exact deq_int _
  | j + 2, f1 => simp at f1
theorem deq_row {K : PySem.W.Frag} {H : Hp} {r r' : Addr} {w : Rw} (h : RowA NT H r w) (h' : RowA NT H r' w) : DEq K H 60 (.ref r) (.ref r') true := by
  obtain ⟨ce, cs, g1, _, g2, g3⟩ := h
  obtain ⟨ce', cs', g1', _, g2', g3'⟩ := h'
  refine deq_tup (n := 59) (SqT.of g1) (SqT.of g1') rfl fun j x y e1 e2 => ?_
  match j, e1, e2 with
  | 0, e1, e2 =>
    cases e1; cases e2
    refine deq_lst (n := 58) (SqL.of g2) (SqL.of g2') (by rw [g3.1, g3'.1]) fun j x y f1 f2 => ?_
    obtain ⟨l, ps, rfl, ep, _, ys, el, hp⟩ := RefL.get g3 f1
    obtain ⟨l', ps', rfl, ep', _, ys', el', hp'⟩ := RefL.get g3' f2
    rw [ep] at ep'
    cases ep'
    exact deq_lst (n := 57) (SqL.of el) (SqL.of el') (by rw [hp.length, hp'.length]) (deq_pl (n := 56) hp hp')
  | 1, e1, e2 => cases e1; cases e2; exact deq_int _
  | j + 2, e1, e2 => simp at e1
theorem eqDL_same {K : PySem.W.Frag} {H : Hp} {Q : VK} {a b : Addr} {xs ys : List V} (ha : SqL K H a xs) (hb : SqL K H b ys) (hl : xs.length = ys.length) (h : ∀ (j : Nat) (x y : V), xs[j]? = some x → ys[j]? = some y → DEq K H 60 x y true) (q : Q (.bl true) H) : rEqDL K false (.ref a) (.ref b) H Q := by
  refine ⟨a, b, xs, ys, rfl, rfl, ha, hb, .inr ⟨hl, fun _ => true, h, ?_⟩⟩
  rw [show (List.range xs.length).all (fun _ => true) = true by simp]
  exact q
theorem deq_rows {K : PySem.W.Frag} {H : Hp} {xs ys : List V} {rws : List Rw} (h : RL NT H xs rws) (h' : RL NT H ys rws) (j : Nat) (x y : V) (e1 : xs[j]? = some x) (e2 : ys[j]? = some y) : DEq K H 60 x y true := by
  obtain ⟨r, w, rfl, ew, hr⟩ := RefL.get h e1
  obtain ⟨r', w', rfl, ew', hr'⟩ := RefL.get h' e2
  rw [ew] at ew'
  cases ew'
  exact deq_row hr hr'
def NmOk (zs : List Str) : Prop := (∀ z ∈ zs, isw z = true) ∧ zs.Nodup
def CtOk (n m : Nat) : Prop := 1 ≤ n ∧ n ≤ 4 ∧ m ≤ 200
def WyOk (z : Str) (b : Bool) : Prop := z ∈ six ∧ ¬ (z = Str.ofString "sum" ∧ b = true)
def OuC (cN cW : Addr) (H : Hp) (ou : Addr) (b : Bool) : Prop := ∃ dx fs, H ou = some (.ins (if b = true then cW else cN) dx fs)
theorem OuC.same {cN cW : Addr} {H H' : Hp} {ou : Addr} {b : Bool} (h : OuC cN cW H ou b) (s : Same H H') : OuC cN cW H' ou b := let ⟨dx, fs, e⟩ := h; ⟨dx, fs, s _ _ e⟩
/-- what comes of a table's making: 0 made, 1 BadName, 2 TooMany, 3 BadWay, 4 BadRow -/
inductive TabIs (nms : List Str) (n m : Nat) (wok rok : Prop) : Nat → Prop where
  | made : NmOk nms → CtOk n m → wok → rok → TabIs nms n m wok rok 0
  | name : ¬ NmOk nms → TabIs nms n m wok rok 1
  | many : NmOk nms → ¬ CtOk n m → TabIs nms n m wok rok 2
  | way : NmOk nms → CtOk n m → ¬ wok → TabIs nms n m wok rok 3
  | row : NmOk nms → CtOk n m → wok → ¬ rok → TabIs nms n m wok rok 4
section
variable {nms : List Str} {n m k : Nat} {wok rok : Prop}
theorem TabIs.k1 (h : TabIs nms n m wok rok k) (g : ¬ NmOk nms) : k = 1 := by
  cases h with
  | made a => exact absurd a g
  | name => rfl
  | many a => exact absurd a g
  | way a => exact absurd a g
  | row a => exact absurd a g
theorem TabIs.k2 (h : TabIs nms n m wok rok k) (a : NmOk nms) (g : ¬ CtOk n m) : k = 2 := by
  cases h with
  | made _ b => exact absurd b g
  | name b => exact absurd a b
  | many => rfl
  | way _ b => exact absurd b g
  | row _ b => exact absurd b g
theorem TabIs.k3 (h : TabIs nms n m wok rok k) (a : NmOk nms) (b : CtOk n m) (g : ¬ wok) : k = 3 := by
  cases h with
  | made _ _ c => exact absurd c g
  | name c => exact absurd a c
  | many _ c => exact absurd b c
  | way => rfl
  | row _ _ c => exact absurd c g
theorem TabIs.k4 (h : TabIs nms n m wok rok k) (a : NmOk nms) (b : CtOk n m) (c : wok) (g : ¬ rok) : k = 4 := by
  cases h with
  | made _ _ _ d => exact absurd d g
  | name d => exact absurd a d
  | many _ d => exact absurd b d
  | way _ _ d => exact absurd c d
  | row => rfl
theorem TabIs.k0 (h : TabIs nms n m wok rok k) (a : NmOk nms) (b : CtOk n m) (c : wok) (d : rok) : k = 0 := by
  cases h with
  | made => rfl
  | name e => exact absurd a e
  | many _ e => exact absurd b e
  | way _ _ e => exact absurd c e
  | row _ _ _ e => exact absurd d e
end
def ex5 (a b c d : Addr) : Nat → Option Addr
  | 1 => some a
  | 2 => some b
  | 3 => some c
  | 4 => some d
  | _ => none
def bnd (i : Int) : Prop := i.natAbs < 10 ^ 60
theorem take_all {α : Type} {l : List α} {i : Nat} {x : α} {p : α → Prop} (e : l[i]? = some x) (h : ∀ y ∈ l.take i, p y) (hx : p x) : ∀ y ∈ l.take (i + 1), p y := fun y hy => by
  rw [take_snoc e] at hy
  rcases List.mem_append.mp hy with hy | hy
  · exact h y hy
  · rw [show y = x by simpa using hy]; exact hx
def out5 : Nat → Str
  | 0 => Str.ofString "made"
  | 1 => Str.ofString "BadName"
  | 2 => Str.ofString "TooMany"
  | 3 => Str.ofString "BadWay"
  | 4 => Str.ofString "BadRow"
  | _ => Str.ofString "other"
def kinds5 (k : Nat) : List Bool := [true, decide (k = 1), decide (k = 2), decide (k = 3), decide (k = 4)]
theorem get_bls {bs : List Bool} {i : Nat} {x : V} (e : (bs.map V.bl)[i]? = some x) : ∃ b, x = .bl b ∧ bs[i]? = some b := by
  rw [List.getElem?_map] at e
  cases q : bs[i]? with
  | none => rw [q] at e; cases e
  | some z => rw [q] at e; cases e; exact ⟨z, rfl, rfl⟩
theorem rEqL_bls {K : PySem.W.Frag} {H : Hp} {Q : VK} {a b : Addr} {xs ys : List Bool} {r : Bool} (ha : SqL K H a (xs.map V.bl)) (hb : SqL K H b (ys.map V.bl)) (hr : r = true ↔ xs = ys) (q : Q (.bl r) H) : rEqL K false (.ref a) (.ref b) H Q := by
  by_cases hl : xs.length = ys.length
  · refine ⟨a, b, _, _, rfl, rfl, ha, hb, .inr ⟨by rw [List.length_map, List.length_map]; exact hl, fun j => decide (xs[j]? = ys[j]?), fun j x y e1 e2 => ?_, ?_⟩⟩
    · obtain ⟨z, rfl, f1⟩ := get_bls e1
      obtain ⟨z2, rfl, f2⟩ := get_bls e2
      have h1 := EqI.flat (K := K) (H := H) (x := V.bl z) (y := V.bl z2) rfl rfl
      have h2 : eqV (V.bl z) (V.bl z2) = decide (xs[j]? = ys[j]?) := by
        rw [f1, f2, Bool.eq_iff_iff]
        simp [eqV]
      rw [h2] at h1
      exact h1
    · have e : (List.range (xs.map V.bl).length).all (fun j => decide (xs[j]? = ys[j]?)) = r := by
        rw [Bool.eq_iff_iff, hr, List.all_eq_true]
        constructor
        · intro h
          apply List.ext_getElem?
          intro j
          by_cases hj : j < xs.length
          · exact of_decide_eq_true (h j (List.mem_range.mpr (by rw [List.length_map]; exact hj)))
          · rw [List.getElem?_eq_none (by omega), List.getElem?_eq_none (by omega)]
        · intro h j _
          rw [h]
          exact decide_eq_true rfl
      rw [if_neg Bool.false_ne_true, e]
      exact q
  · have e : r = false := by
      rw [Bool.eq_false_iff]
      intro z
      exact hl (by rw [hr.mp z])
    rw [e] at q
    exact ⟨a, b, _, _, rfl, rfl, ha, hb, .inl ⟨by rw [List.length_map, List.length_map]; exact hl, q⟩⟩
def four : List Str := [Str.ofString "BadName", Str.ofString "TooMany", Str.ofString "BadWay", Str.ofString "BadRow"]
theorem four_get {i : Nat} {x : V} (e : (four.map V.str)[i]? = some x) : i < 4 ∧ x = .str (out5 (i + 1)) := by
  match i, e with
  | 0, e => cases e; exact ⟨by decide, rfl⟩
  | 1, e => cases e; exact ⟨by decide, rfl⟩
  | 2, e => cases e; exact ⟨by decide, rfl⟩
  | 3, e => cases e; exact ⟨by decide, rfl⟩
  | i + 4, e => simp [four] at e
theorem kinds_eq {k i : Nat} (hk : 1 ≤ k) (hk4 : k ≤ 4) (hi : i < 4) : decide (i + 1 = k) = true ↔ kinds5 k = [true, decide (V.int (i : Int) = V.int 0), decide (V.int (i : Int) = V.int 1), decide (V.int (i : Int) = V.int 2), decide (V.int (i : Int) = V.int 3)] := by
  have g1 : k = 1 ∨ k = 2 ∨ k = 3 ∨ k = 4 := by omega
  have g2 : i = 0 ∨ i = 1 ∨ i = 2 ∨ i = 3 := by omega
  clear hk hk4 hi
  rcases g1 with rfl | rfl | rfl | rfl <;> rcases g2 with rfl | rfl | rfl | rfl <;> decide
theorem E30 : ((10 : Int) ^ (30 : Int).toNat) = ((10 ^ 30 : Nat) : Int) := by decide +kernel
theorem E59 : ((10 : Int) ^ (59 : Int).toNat) = ((10 ^ 59 : Nat) : Int) := by decide +kernel
theorem bnd_of {o : Int × Int} {i : Int} (h : -(3 * ((10 ^ 59 : Nat) : Int)) ≤ o.1 ∧ o.2 ≤ 3 * ((10 ^ 59 : Nat) : Int)) (h1 : o.1 - 100 ≤ i) (h2 : i ≤ o.2 + 100) : bnd i := by
  unfold bnd
  have e : (10 ^ 60 : Nat) = 10 * 10 ^ 59 := by decide
  have c : 1000 ≤ (10 ^ 59 : Nat) := by decide
  rw [e]
  generalize (10 ^ 59 : Nat) = T at h c ⊢
  omega
/-- a column with its words -/
def ColZ (N : Addr → Prop) (H : Hp) (l : Addr) (b : Int × Int) (zs : List Str) : Prop := ∃ w : Addr, N l ∧ N w ∧ H l = some (.lst [.int b.1, .int b.2, .ref w]) ∧ H w = some (.lst (zs.map V.str)) ∧ RngOk b zs
theorem ColA.z {N : Addr → Prop} {H : Hp} {l : Addr} {b : Int × Int} (h : ColA N H l b) : ∃ zs, ColZ N H l b zs := let ⟨w, zs, r⟩ := h; ⟨zs, w, r⟩
theorem ColZ.a {N : Addr → Prop} {H : Hp} {l : Addr} {b : Int × Int} {zs : List Str} (h : ColZ N H l b zs) : ColA N H l b := let ⟨w, r⟩ := h; ⟨w, zs, r⟩
theorem ColZ.same {N : Addr → Prop} {H H' : Hp} {l : Addr} {b : Int × Int} {zs : List Str} (h : ColZ N H l b zs) (s : Same H H') : ColZ N H' l b zs := let ⟨w, n, m, e, f, r⟩ := h; ⟨w, n, m, s _ _ e, s _ _ f, r⟩
theorem ColZ.any {N : Addr → Prop} {H : Hp} {l : Addr} {b : Int × Int} {zs : List Str} (h : ColZ N H l b zs) : ColZ NT H l b zs := let ⟨w, _, _, r⟩ := h; ⟨w, trivial, trivial, r⟩
theorem RefL.set {α : Type} {xs : List V} {as : List α} {P : Addr → α → Prop} {i : Nat} {r : Addr} {a : α} (h : RefL xs as P) (p : P r a) : RefL (xs.set i (.ref r)) (as.set i a) P := by
  refine ⟨by rw [List.length_set, List.length_set]; exact h.1, fun j b e => ?_⟩
  by_cases hj : i = j
  · subst hj
    have hl := (List.getElem?_eq_some_iff.mp e).1
    rw [List.length_set] at hl
    rw [List.getElem?_set_self hl] at e
    cases e
    exact ⟨r, List.getElem?_set_self (by rw [h.1]; exact hl), p⟩
  · rw [List.getElem?_set_ne hj] at e
    obtain ⟨r', e1, q⟩ := h.2 j b e
    exact ⟨r', by rw [List.getElem?_set_ne hj]; exact e1, q⟩
theorem RefL.take {α : Type} {xs : List V} {as : List α} {P : Addr → α → Prop} (h : RefL xs as P) (n : Nat) : RefL (xs.take n) (as.take n) P := by
  refine ⟨by rw [List.length_take, List.length_take, h.1], fun j b e => ?_⟩
  rw [List.getElem?_take] at e
  split at e
  · obtain ⟨r, e1, q⟩ := h.2 j b e
    exact ⟨r, by rw [List.getElem?_take, if_pos (by assumption)]; exact e1, q⟩
  · cases e
theorem RefL.drop {α : Type} {xs : List V} {as : List α} {P : Addr → α → Prop} (h : RefL xs as P) (n : Nat) : RefL (xs.drop n) (as.drop n) P := by
  refine ⟨by rw [List.length_drop, List.length_drop, h.1], fun j b e => ?_⟩
  rw [List.getElem?_drop] at e
  obtain ⟨r, e1, q⟩ := h.2 _ b e
  exact ⟨r, by rw [List.getElem?_drop]; exact e1, q⟩
theorem RefL.append {α : Type} {xs ys : List V} {as bs : List α} {P : Addr → α → Prop} (h : RefL xs as P) (k : RefL ys bs P) : RefL (xs ++ ys) (as ++ bs) P := by
  refine ⟨by rw [List.length_append, List.length_append, h.1, k.1], fun j b e => ?_⟩
  by_cases hj : j < as.length
  · rw [List.getElem?_append_left hj] at e
    obtain ⟨r, e1, q⟩ := h.2 j b e
    exact ⟨r, by rw [List.getElem?_append_left (by rw [h.1]; exact hj)]; exact e1, q⟩
  · rw [List.getElem?_append_right (by omega)] at e
    obtain ⟨r, e1, q⟩ := k.2 _ b e
    exact ⟨r, by rw [List.getElem?_append_right (by rw [h.1]; omega), h.1]; exact e1, q⟩
theorem RefL.one {α : Type} {r : Addr} {a : α} {P : Addr → α → Prop} (p : P r a) : RefL [.ref r] [a] P := RefL.snoc RefL.nil p
theorem cutV_to (xs : List V) {n : Nat} (h : n ≤ xs.length) : cutV xs none (some (n : Int)) = xs.take n := by
  unfold cutV
  have e1 : HT.sIx xs.length xs.length (some (n : Int)) = n := by rw [HT.sIx_nat]; omega
  have e0 : HT.sIx xs.length 0 none = 0 := rfl
  rw [e1, e0, List.drop_zero, Nat.sub_zero]
theorem cutV_from (xs : List V) {n : Nat} (h : n ≤ xs.length) : cutV xs (some (n : Int)) none = xs.drop n := by
  unfold cutV
  have e1 : HT.sIx xs.length 0 (some (n : Int)) = n := by rw [HT.sIx_nat]; omega
  have e0 : HT.sIx xs.length xs.length none = xs.length := rfl
  rw [e1, e0]
  exact List.take_of_length_le (by rw [List.length_drop]; omega)
theorem set_dup {ys : List Str} {i j : Nat} {z : Str} (hi : i < ys.length) (hj : ys[j]? = some z) (n : j ≠ i) : ¬ NmOk (ys.set i z) := fun h => by
  have e1 : (ys.set i z)[i]? = some z := List.getElem?_set_self hi
  have e2 : (ys.set i z)[j]? = some z := by rw [List.getElem?_set_ne (Ne.symm n)]; exact hj
  exact n (nodup_ix h.2 e2 e1)
theorem set_bad {ys : List Str} {i : Nat} {z : Str} (hi : i < ys.length) (hz : isw z = false) : ¬ NmOk (ys.set i z) := fun h => by
  have := h.1 z (List.mem_of_getElem? (List.getElem?_set_self hi))
  rw [this] at hz
  cases hz
def bad6 : List Str := [Str.ofString "", Str.ofString "not", Str.ofString "Aa", Str.ofString "a b", Str.ofString "a1", Str.ofString "abcdefghijklm"]
theorem bad6_ok : ∀ z ∈ bad6, isw z = false ∧ z.length ≤ 13 := by decide +kernel
theorem bad6_sm : ∀ z ∈ bad6, Sm 600 z := fun z hz => by
  have h := (bad6_ok z hz).2
  simp only [bad6, List.mem_cons, List.not_mem_nil, or_false] at hz
  rcases hz with rfl | rfl | rfl | rfl | rfl | rfl <;> exact Sm.of _ (by omega)
theorem at_back {zs : List Str} {k : Int} {i : Nat} {r : Int} (hi : i < zs.length) (h0 : 0 ≤ r) (h1 : r < (zs.length : Int) - 1) (e : k = (i : Int) - 1 - r) : ∃ z j, zs[j]? = some z ∧ j ≠ i ∧ atI (zs.map V.str) k = some (.str z) := by
  have hl : (zs.map V.str).length = zs.length := List.length_map _
  by_cases hk : 0 ≤ k
  · have hj : k.toNat < zs.length := by omega
    refine ⟨zs[k.toNat], k.toNat, List.getElem?_eq_getElem hj, by omega, ?_⟩
    unfold atI ixN
    rw [if_pos hk, if_pos (by rw [hl]; omega)]
    show (zs.map V.str)[k.toNat]? = _
    rw [List.getElem?_map, List.getElem?_eq_getElem hj]; rfl
  · have hj : (k + zs.length).toNat < zs.length := by omega
    refine ⟨zs[(k + zs.length).toNat], (k + zs.length).toNat, List.getElem?_eq_getElem hj, by omega, ?_⟩
    unfold atI ixN
    rw [if_neg hk, if_pos (by rw [hl]; omega), hl]
    show (zs.map V.str)[(k + zs.length).toNat]? = _
    rw [List.getElem?_map, List.getElem?_eq_getElem hj]; rfl
/-- a row within, told for one place -/
theorem RowOk.no {bs : Prs} {o : Int × Int} {w : Rw} {j : Nat} {ps : Prs} {b p : Int × Int} (e1 : w.1[j]? = some ps) (e2 : bs[j]? = some b) (hp : p ∈ ps) (hn : ¬ (b.1 ≤ p.1 ∧ p.2 ≤ b.2)) : ¬ RowOk bs o w := fun h => hn (h.inn j ps b e1 e2 p hp)
/-- what a faulty table is made of -/
def PartA (cN cW : Addr) (H : Hp) (l : Addr) (o : Int × Int) (zo : List Str) : Prop := ∃ (ev dl rl : Addr) (wy nm : Str) (zs : List Str) (dv rx : List V) (bs : Prs) (rws : List Rw) (k : Nat), H l = some (.lst [.str (out5 k), .str wy, .ref ev, .ref dl, .ref rl]) ∧ H ev = some (.lst ((nm :: zs).map V.str)) ∧ H dl = some (.lst dv) ∧ H rl = some (.lst rx) ∧ Sm 1000 wy ∧ (∀ z ∈ nm :: zs, Sm 600 z) ∧ zs.length ≤ 20 ∧ RefL dv bs (Dom cN cW H) ∧ bs.length ≤ 5 ∧ RL NT H rx rws ∧ rx.length ≤ 300 ∧ (∀ w ∈ rws, bnd w.2 ∧ w.1.length ≤ 5) ∧ TabIs (nm :: zs) zs.length rx.length (WyOk wy (!zo.isEmpty)) (∀ w ∈ rws, RowOk bs o w) k
def five : List Str := [Str.ofString "first", Str.ofString "only", Str.ofString "like", Str.ofString "low", Str.ofString "high"]
theorem five_ok : ∀ z ∈ five, z ∈ six ∧ z ≠ Str.ofString "sum" ∧ z.length ≤ 10 := by decide +kernel
theorem five_sm : ∀ z ∈ five, Sm 1000 z := fun z hz => by
  have h := (five_ok z hz).2.2
  simp only [five, List.mem_cons, List.not_mem_nil, or_false] at hz
  rcases hz with rfl | rfl | rfl | rfl | rfl <;> exact Sm.of _ (by omega)
def bad5 : List Str := [Str.ofString "", Str.ofString "First", Str.ofString "lows", Str.ofString "onl", Str.ofString "any"]
theorem bad5_ok : ∀ z ∈ bad5, z ∉ six ∧ z.length ≤ 10 := by decide +kernel
theorem bad5_sm : ∀ z ∈ bad5, Sm 1000 z := fun z hz => by
  have h := (bad5_ok z hz).2
  simp only [bad5, List.mem_cons, List.not_mem_nil, or_false] at hz
  rcases hz with rfl | rfl | rfl | rfl | rfl <;> exact Sm.of _ (by omega)
def nms (c : Int) (n : Nat) : List Str := (List.range n).map fun j : Nat => wd c (1 + (j : Int))
theorem nms_succ (c : Int) (n : Nat) : nms c (n + 1) = nms c n ++ [wd c (1 + (n : Int))] := by unfold nms; rw [List.range_succ, List.map_append]; rfl
theorem nms_len (c : Int) (n : Nat) : (nms c n).length = n := by unfold nms; simp
theorem nms_wds (c : Int) (n : Nat) : wd c 0 :: nms c n = wds c (n + 1) := by
  unfold wds nms
  rw [List.range_succ_eq_map, List.map_cons, List.map_map]
  congr 1
  apply List.map_congr_left
  intro j _
  show wd c (1 + (j : Int)) = wd c (((j + 1 : Nat)) : Int)
  congr 1
  omega
theorem nms_ok (c : Int) {n : Nat} (h : n ≤ 30) : NmOk (wd c 0 :: nms c n) := by
  rw [nms_wds]
  have g := wds_good (c := c) (n := n + 1) (by omega) (by omega)
  exact ⟨g.words, g.once⟩
theorem isw_sm {z : Str} (h : isw z = true) : Sm 600 z := by
  unfold isw at h
  simp only [Bool.and_eq_true, decide_eq_true_eq] at h
  refine ⟨by omega, fun c hc => ?_⟩
  have := List.all_eq_true.mp h.2.2.2 c hc
  unfold sg at this
  rw [PySem.StrLaws.found_one] at this
  have m := of_decide_eq_true this
  exact (Sm.of "abcdefghijklmnopqrstuvwxyz" (n := 26) (by decide +kernel)).low c m
theorem nms_sm (c : Int) {n : Nat} (h : n ≤ 30) : ∀ z ∈ wd c 0 :: nms c n, Sm 600 z := fun z hz => isw_sm ((nms_ok c h).1 z hz)
theorem rep_flat {α : Type} (n : Nat) (x : α) : (List.replicate n [x]).flatten = List.replicate n x := by
  induction n with
  | zero => rfl
  | succ n ih => rw [List.replicate_succ, List.flatten_cons, ih, List.replicate_succ]; rfl
theorem RefL.rep {α : Type} {r : Addr} {a : α} {P : Addr → α → Prop} (p : P r a) (n : Nat) : RefL (List.replicate n (V.ref r)) (List.replicate n a) P := by
  refine ⟨by rw [List.length_replicate, List.length_replicate], fun j b e => ?_⟩
  rw [List.getElem?_replicate] at e
  split at e
  · cases e
    exact ⟨r, by rw [List.getElem?_replicate, if_pos (by assumption)], p⟩
  · cases e
theorem PartA.same {cN cW : Addr} {H H' : Hp} {l : Addr} {o : Int × Int} {zo : List Str} (h : PartA cN cW H l o zo) (s : Same H H') : PartA cN cW H' l o zo := by
  obtain ⟨ev, dl, rl, wy, nm, zs, dv, rx, bs, rws, k, e1, e2, e3, e4, h1, h2, h3, h4, h5, h6, r⟩ := h
  exact ⟨ev, dl, rl, wy, nm, zs, dv, rx, bs, rws, k, s _ _ e1, s _ _ e2, s _ _ e3, s _ _ e4, h1, h2, h3, RefL.mono h4 fun _ _ p => p.same s, h5, RL.same h6 s, r⟩
theorem cut_tail (nm : Str) (zs : List Str) : cutV ((nm :: zs).map V.str) (some 1) none = zs.map V.str := by
  have := cutV_from ((nm :: zs).map V.str) (n := 1) (by simp)
  exact this
theorem at_zero (nm : Str) (zs : List Str) : atI ((nm :: zs).map V.str) 0 = some (.str nm) := atI_nat (j := 0) (show ((nm :: zs).map V.str)[0]? = some (V.str nm) from rfl)
def sp_all_among (K : PySem.W.Frag) (cTableError cBadName cTooMany cBadWay cBadRow cWay cFirst cOnly cLike cLow cHigh cSum cDomain cNumbers cWords cTable : Addr) : Sp := fun vs H Q _ => ∃ (z g : Str), vs = [.str z, .str g] ∧ Q (.bl (allIn z g)) H
def sp_is_whole (K : PySem.W.Frag) (cTableError cBadName cTooMany cBadWay cBadRow cWay cFirst cOnly cLike cLow cHigh cSum cDomain cNumbers cWords cTable : Addr) : Sp := fun vs H Q _ => ∃ i : Int, vs = [.int i] ∧ Q (.bl true) H
def sp_refuse_counts (K : PySem.W.Frag) (cTableError cBadName cTooMany cBadWay cBadRow cWay cFirst cOnly cLike cLow cHigh cSum cDomain cNumbers cWords cTable : Addr) : Sp := fun vs H Q E => ∃ (p r : Addr) (xs ys : List V), vs = [.ref p, .ref r] ∧ SqL K H p xs ∧ SqL K H r ys ∧ (CtOk xs.length ys.length → Q .non H) ∧ (¬ CtOk xs.length ys.length → E (.ref cTooMany) none H)
def sp_own_row (K : PySem.W.Frag) (cTableError cBadName cTooMany cBadWay cBadRow cWay cFirst cOnly cLike cLow cHigh cSum cDomain cNumbers cWords cTable : Addr) : Sp := fun vs H Q _ => ∃ (cl : Addr) (xs : List V) (w : Rw), vs = [.ref cl, .int w.2] ∧ H cl = some (.lst xs) ∧ CL NT H xs w.1 ∧ w.1.length ≤ 100 ∧ ∀ (r : Addr) (H' : Hp), Same H H' → H r = none → RowA (fun a => H a = none) H' r w → Q (.ref r) H'
def sp_law_cell_at (K : PySem.W.Frag) (cTableError cBadName cTooMany cBadWay cBadRow cWay cFirst cOnly cLike cLow cHigh cSum cDomain cNumbers cWords cTable : Addr) : Sp := fun vs H Q _ => ∃ (a : Addr) (ns : List Int) (k : Int), vs = [.ref a, .int k] ∧ SqL K H a (ns.map V.int) ∧ 0 ≤ k ∧ ∀ r : Int, Q (.int r) H
def sp_law_mixed (K : PySem.W.Frag) (cTableError cBadName cTooMany cBadWay cBadRow cWay cFirst cOnly cLike cLow cHigh cSum cDomain cNumbers cWords cTable : Addr) : Sp := fun vs H Q _ => ∃ c k : Int, vs = [.int c, .int k] ∧ 0 ≤ k ∧ k ≤ 100 ∧ ∀ r : Int, Q (.int r) H
def sp_law_word (K : PySem.W.Frag) (cTableError cBadName cTooMany cBadWay cBadRow cWay cFirst cOnly cLike cLow cHigh cSum cDomain cNumbers cWords cTable : Addr) : Sp := fun vs H Q _ => ∃ c k : Int, vs = [.int c, .int k] ∧ Q (.str (wd c k)) H
def sp_law_spans (K : PySem.W.Frag) (cTableError cBadName cTooMany cBadWay cBadRow cWay cFirst cOnly cLike cLow cHigh cSum cDomain cNumbers cWords cTable : Addr) : Sp := fun vs H Q _ => ∃ (m : Int) (b : Int × Int), vs = [.int m, .int b.1, .int b.2] ∧ b.1 ≤ b.2 ∧ ∀ (l : Addr) (ps : Prs) (H' : Hp), Same H H' → SpA (fun a => H a = none) H' l ps → (∀ p ∈ ps, b.1 ≤ p.1 ∧ p.2 ≤ b.2) → ps.length ≤ 4 → Q (.ref l) H'
def sp_law_outcome_of (K : PySem.W.Frag) (cTableError cBadName cTooMany cBadWay cBadRow cWay cFirst cOnly cLike cLow cHigh cSum cDomain cNumbers cWords cTable : Addr) : Sp := fun vs H Q _ => ∃ (mv : V) (kl : Addr) (k : Nat), vs = [mv, .ref kl] ∧ ((k = 0 ∧ (∃ x dx fs, mv = .ref x ∧ H x = some (.ins cTable dx fs)) ∧ H kl = some (.lst [])) ∨ (1 ≤ k ∧ k ≤ 4 ∧ mv = .non ∧ H kl = some (.lst ((kinds5 k).map V.bl)))) ∧ ∀ H', Same H H' → Q (.str (out5 k)) H'
def sp_law_own (K : PySem.W.Frag) (cTableError cBadName cTooMany cBadWay cBadRow cWay cFirst cOnly cLike cLow cHigh cSum cDomain cNumbers cWords cTable : Addr) : Sp := fun vs H Q _ => ∃ (r0 : Addr) (w : Rw), vs = [.ref r0] ∧ RowA NT H r0 w ∧ w.1.length ≤ 5 ∧ ∀ (r ce : Addr) (ls : List Addr) (H' : Hp), Same H H' → H r = none → H ce = none → H' r = some (.tup [.ref ce, .int w.2]) → H' ce = some (.lst (ls.map V.ref)) → (∀ l ∈ ls, H l = none ∧ l ≠ ce) → RowA (fun a => H a = none) H' r w → Q (.ref r) H'
def sp_law_bad_names (K : PySem.W.Frag) (cTableError cBadName cTooMany cBadWay cBadRow cWay cFirst cOnly cLike cLow cHigh cSum cDomain cNumbers cWords cTable : Addr) : Sp := fun vs H Q _ => ∃ (nm : Str) (na : Addr) (zs : List Str) (t : Int), vs = [.str nm, .ref na, .int t] ∧ H na = some (.lst (zs.map V.str)) ∧ zs.length ≤ 10 ∧ (∀ z ∈ nm :: zs, Sm 600 z) ∧ ∀ (l : Addr) (ys : List Str) (H' : Hp), Same H H' → H' l = some (.lst (ys.map V.str)) → ys.length = zs.length + 1 → (∀ y ∈ ys, Sm 600 y) → ¬ NmOk ys → Q (.ref l) H'
def sp_law_bad_row (K : PySem.W.Frag) (cTableError cBadName cTooMany cBadWay cBadRow cWay cFirst cOnly cLike cLow cHigh cSum cDomain cNumbers cWords cTable : Addr) : Sp := fun vs H Q _ => ∃ (r0 cl ol : Addr) (w : Rw) (xs : List V) (bs : Prs) (o : Int × Int) (t : Int), vs = [.ref r0, .ref cl, .ref ol, .int t] ∧ RowA NT H r0 w ∧ H cl = some (.lst xs) ∧ Cols NT H xs bs ∧ 1 ≤ bs.length ∧ bs.length ≤ 4 ∧ ColA NT H ol o ∧ RowOk bs o w ∧ (∀ ps ∈ w.1, ps.length ≤ 4) ∧ ∀ (r : Addr) (w' : Rw) (H' : Hp), Same H H' → RowA NT H' r w' → ¬ RowOk bs o w' → bnd w'.2 → w'.1.length ≤ 5 → Q (.ref r) H'
def sp_Way___init___First (K : PySem.W.Frag) (cTableError cBadName cTooMany cBadWay cBadRow cWay cFirst cOnly cLike cLow cHigh cSum cDomain cNumbers cWords cTable : Addr) : Sp := fun vs H Q _ => ∃ (x dx : Addr) (z : Str), vs = [.ref x, .str z] ∧ H x = some (.ins cFirst dx []) ∧ Q .non (upd H x (.ins cFirst dx [("called", .str z)]))
def sp_Way___init___Only (K : PySem.W.Frag) (cTableError cBadName cTooMany cBadWay cBadRow cWay cFirst cOnly cLike cLow cHigh cSum cDomain cNumbers cWords cTable : Addr) : Sp := fun vs H Q _ => ∃ (x dx : Addr) (z : Str), vs = [.ref x, .str z] ∧ H x = some (.ins cOnly dx []) ∧ Q .non (upd H x (.ins cOnly dx [("called", .str z)]))
def sp_Way___init___Like (K : PySem.W.Frag) (cTableError cBadName cTooMany cBadWay cBadRow cWay cFirst cOnly cLike cLow cHigh cSum cDomain cNumbers cWords cTable : Addr) : Sp := fun vs H Q _ => ∃ (x dx : Addr) (z : Str), vs = [.ref x, .str z] ∧ H x = some (.ins cLike dx []) ∧ Q .non (upd H x (.ins cLike dx [("called", .str z)]))
def sp_Way___init___Low (K : PySem.W.Frag) (cTableError cBadName cTooMany cBadWay cBadRow cWay cFirst cOnly cLike cLow cHigh cSum cDomain cNumbers cWords cTable : Addr) : Sp := fun vs H Q _ => ∃ (x dx : Addr) (z : Str), vs = [.ref x, .str z] ∧ H x = some (.ins cLow dx []) ∧ Q .non (upd H x (.ins cLow dx [("called", .str z)]))
def sp_Way___init___High (K : PySem.W.Frag) (cTableError cBadName cTooMany cBadWay cBadRow cWay cFirst cOnly cLike cLow cHigh cSum cDomain cNumbers cWords cTable : Addr) : Sp := fun vs H Q _ => ∃ (x dx : Addr) (z : Str), vs = [.ref x, .str z] ∧ H x = some (.ins cHigh dx []) ∧ Q .non (upd H x (.ins cHigh dx [("called", .str z)]))
def sp_Way___init___Sum (K : PySem.W.Frag) (cTableError cBadName cTooMany cBadWay cBadRow cWay cFirst cOnly cLike cLow cHigh cSum cDomain cNumbers cWords cTable : Addr) : Sp := fun vs H Q _ => ∃ (x dx : Addr) (z : Str), vs = [.ref x, .str z] ∧ H x = some (.ins cSum dx []) ∧ Q .non (upd H x (.ins cSum dx [("called", .str z)]))
def sp_Domain___init___Numbers (K : PySem.W.Frag) (cTableError cBadName cTooMany cBadWay cBadRow cWay cFirst cOnly cLike cLow cHigh cSum cDomain cNumbers cWords cTable : Addr) : Sp := fun vs H Q _ => ∃ (x dx : Addr) (lo hi : Int), vs = [.ref x, .int lo, .int hi] ∧ H x = some (.ins cNumbers dx []) ∧ Q .non (mkd cNumbers H x dx lo hi)
def sp_Domain___init___Words (K : PySem.W.Frag) (cTableError cBadName cTooMany cBadWay cBadRow cWay cFirst cOnly cLike cLow cHigh cSum cDomain cNumbers cWords cTable : Addr) : Sp := fun vs H Q _ => ∃ (x dx : Addr) (lo hi : Int), vs = [.ref x, .int lo, .int hi] ∧ H x = some (.ins cWords dx []) ∧ Q .non (mkd cWords H x dx lo hi)
def sp_is_word (K : PySem.W.Frag) (cTableError cBadName cTooMany cBadWay cBadRow cWay cFirst cOnly cLike cLow cHigh cSum cDomain cNumbers cWords cTable : Addr) : Sp := fun vs H Q _ => ∃ (z : Str), vs = [.str z] ∧ z.length ≤ 1000 ∧ Q (.bl (isw z)) H
def sp_law_range (K : PySem.W.Frag) (cTableError cBadName cTooMany cBadWay cBadRow cWay cFirst cOnly cLike cLow cHigh cSum cDomain cNumbers cWords cTable : Addr) : Sp := fun vs H Q _ => ∃ c : Int, vs = [.int c] ∧ ∀ (l : Addr) (b : Int × Int) (H' : Hp), Same H H' → ColA (fun a => H a = none) H' l b → Q (.ref l) H'
def sp_law_row (K : PySem.W.Frag) (cTableError cBadName cTooMany cBadWay cBadRow cWay cFirst cOnly cLike cLow cHigh cSum cDomain cNumbers cWords cTable : Addr) : Sp := fun vs H Q _ => ∃ (c : Int) (cl : Addr) (xs : List V) (bs : Prs) (o : Int × Int) (calm : Int), vs = [.int c, .ref cl, .int o.1, .int o.2, .int calm] ∧ H cl = some (.lst xs) ∧ Cols NT H xs bs ∧ bs.length ≤ 4 ∧ o.1 ≤ o.2 ∧ ∀ (r : Addr) (w : Rw) (H' : Hp), Same H H' → RowA (fun a => H a = none) H' r w → RowOk bs o w → (∀ ps ∈ w.1, ps.length ≤ 4) → Q (.ref r) H'
def sp_First___init___First (K : PySem.W.Frag) (cTableError cBadName cTooMany cBadWay cBadRow cWay cFirst cOnly cLike cLow cHigh cSum cDomain cNumbers cWords cTable : Addr) : Sp := fnew cFirst (Str.ofString "first")
def sp_Only___init___Only (K : PySem.W.Frag) (cTableError cBadName cTooMany cBadWay cBadRow cWay cFirst cOnly cLike cLow cHigh cSum cDomain cNumbers cWords cTable : Addr) : Sp := fnew cOnly (Str.ofString "only")
def sp_Like___init___Like (K : PySem.W.Frag) (cTableError cBadName cTooMany cBadWay cBadRow cWay cFirst cOnly cLike cLow cHigh cSum cDomain cNumbers cWords cTable : Addr) : Sp := fnew cLike (Str.ofString "like")
def sp_Low___init___Low (K : PySem.W.Frag) (cTableError cBadName cTooMany cBadWay cBadRow cWay cFirst cOnly cLike cLow cHigh cSum cDomain cNumbers cWords cTable : Addr) : Sp := fnew cLow (Str.ofString "low")
def sp_High___init___High (K : PySem.W.Frag) (cTableError cBadName cTooMany cBadWay cBadRow cWay cFirst cOnly cLike cLow cHigh cSum cDomain cNumbers cWords cTable : Addr) : Sp := fnew cHigh (Str.ofString "high")
def sp_Sum___init___Sum (K : PySem.W.Frag) (cTableError cBadName cTooMany cBadWay cBadRow cWay cFirst cOnly cLike cLow cHigh cSum cDomain cNumbers cWords cTable : Addr) : Sp := fnew cSum (Str.ofString "sum")
def sp_Domain_has_code_Numbers (K : PySem.W.Frag) (cTableError cBadName cTooMany cBadWay cBadRow cWay cFirst cOnly cLike cLow cHigh cSum cDomain cNumbers cWords cTable : Addr) : Sp := fun vs H Q _ => ∃ (a : Addr) (b : Int × Int) (i : Int), vs = [.ref a, .int i] ∧ DomC cNumbers H a b.1 b.2 ∧ Q (.bl (decide (b.1 ≤ i) && decide (i ≤ b.2))) H
def sp_Domain_has_code_Words (K : PySem.W.Frag) (cTableError cBadName cTooMany cBadWay cBadRow cWay cFirst cOnly cLike cLow cHigh cSum cDomain cNumbers cWords cTable : Addr) : Sp := fun vs H Q _ => ∃ (a : Addr) (b : Int × Int) (i : Int), vs = [.ref a, .int i] ∧ DomC cWords H a b.1 b.2 ∧ Q (.bl (decide (b.1 ≤ i) && decide (i ≤ b.2))) H
def sp_Numbers___init___Numbers (K : PySem.W.Frag) (cTableError cBadName cTooMany cBadWay cBadRow cWay cFirst cOnly cLike cLow cHigh cSum cDomain cNumbers cWords cTable : Addr) : Sp := fun vs H Q _ => ∃ (x dx : Addr) (lo hi : Int), vs = [.ref x, .int lo, .int hi] ∧ H x = some (.ins cNumbers dx []) ∧ lo ≤ hi ∧ Q .non (mkd cNumbers H x dx lo hi)
def sp_refuse_names (K : PySem.W.Frag) (cTableError cBadName cTooMany cBadWay cBadRow cWay cFirst cOnly cLike cLow cHigh cSum cDomain cNumbers cWords cTable : Addr) : Sp := fun vs H Q E => ∃ (p : Addr) (zs : List Str), vs = [.ref p] ∧ SqL K H p (zs.map V.str) ∧ (∀ z ∈ zs, Sm 600 z) ∧ zs.length ≤ 100 ∧ (NmOk zs → ∀ H', Same H H' → Q .non H') ∧ (¬ NmOk zs → ∀ H', Same H H' → E (.ref cBadName) none H')
def sp_refuse_row (K : PySem.W.Frag) (cTableError cBadName cTooMany cBadWay cBadRow cWay cFirst cOnly cLike cLow cHigh cSum cDomain cNumbers cWords cTable : Addr) : Sp := fun vs H Q E => ∃ (dl ou cl : Addr) (dv xs : List V) (bs : Prs) (o : Int × Int) (w : Rw), vs = [.ref dl, .ref ou, .ref cl, .int w.2] ∧ SqL K H dl dv ∧ RefL dv bs (Dom cNumbers cWords H) ∧ Dom cNumbers cWords H ou o ∧ H cl = some (.lst xs) ∧ CL NT H xs w.1 ∧ bnd w.2 ∧ (RowOk bs o w → ∀ H', Same H H' → Q .non H') ∧ (¬ RowOk bs o w → ∀ H', Same H H' → E (.ref cBadRow) none H')
def sp_Words___init___Words (K : PySem.W.Frag) (cTableError cBadName cTooMany cBadWay cBadRow cWay cFirst cOnly cLike cLow cHigh cSum cDomain cNumbers cWords cTable : Addr) : Sp := fun vs H Q _ => ∃ (x dx p : Addr) (zs : List Str), vs = [.ref x, .ref p] ∧ H x = some (.ins cWords dx []) ∧ H p = some (.lst (zs.map V.str)) ∧ Good zs ∧
  ∀ (H' : Hp) (l : Addr), (∀ b o, b ≠ x → H b = some o → H' b = some o) → H' x = some (.ins cWords dx [("low", .int 0), ("high", .int (hiW zs)), ("words", .ref l)]) → Q .non H'
def sp_way_by (K : PySem.W.Frag) (cTableError cBadName cTooMany cBadWay cBadRow cWay cFirst cOnly cLike cLow cHigh cSum cDomain cNumbers cWords cTable : Addr) : Sp := fun vs H Q E => ∃ z : Str, vs = [.str z] ∧ Sm 1000 z ∧ (∀ i : Nat, six[i]? = some z → ∀ (x C : Addr) (H' : Hp), Same H H' → (cl6 cFirst cOnly cLike cLow cHigh cSum)[i]? = some C → WyN C H' x z → Q (.ref x) H') ∧ (z ∉ six → ∀ H', Same H H' → E (.ref cBadWay) none H')
def sp_refuse_way (K : PySem.W.Frag) (cTableError cBadName cTooMany cBadWay cBadRow cWay cFirst cOnly cLike cLow cHigh cSum cDomain cNumbers cWords cTable : Addr) : Sp := fun vs H Q E => ∃ (z : Str) (ou : Addr) (b : Bool), vs = [.str z, .ref ou] ∧ Sm 1000 z ∧ OuC cNumbers cWords H ou b ∧ (WyOk z b → ∀ H', Same H H' → Q .non H') ∧ (¬ WyOk z b → ∀ H', Same H H' → E (.ref cBadWay) none H')
def sp_law_domain (K : PySem.W.Frag) (cTableError cBadName cTooMany cBadWay cBadRow cWay cFirst cOnly cLike cLow cHigh cSum cDomain cNumbers cWords cTable : Addr) : Sp := fun vs H Q _ => ∃ (l : Addr) (b : Int × Int) (zs : List Str), vs = [.ref l] ∧ ColZ NT H l b zs ∧ ∀ (a : Addr) (H' : Hp), Same H H' → Dom cNumbers cWords H' a b → OuC cNumbers cWords H' a (!zs.isEmpty) → Q (.ref a) H'
def sp_law_faulty (K : PySem.W.Frag) (cTableError cBadName cTooMany cBadWay cBadRow cWay cFirst cOnly cLike cLow cHigh cSum cDomain cNumbers cWords cTable : Addr) : Sp := fun vs H Q _ => ∃ (cl rl ol : Addr) (xs rx : List V) (bs : Prs) (o : Int × Int) (zo : List Str) (rws : List Rw) (f t h : Int), vs = [.ref cl, .ref rl, .ref ol, .int f, .int t, .int h] ∧ H cl = some (.lst xs) ∧ Cols NT H xs bs ∧ 1 ≤ bs.length ∧ bs.length ≤ 4 ∧ ColZ NT H ol o zo ∧ H rl = some (.lst rx) ∧ RL NT H rx rws ∧ rx.length ≤ 70 ∧ (∀ w ∈ rws, bnd w.2 ∧ w.1.length ≤ 5) ∧ (f / 8 % 2 = 1 → ¬ ∀ w ∈ rws, RowOk bs o w) ∧ (f / 8 % 2 ≠ 1 → ∀ w ∈ rws, RowOk bs o w) ∧ ∀ (l : Addr) (H' : Hp), Same H H' → PartA cNumbers cWords H' l o zo → Q (.ref l) H'
def sp_Table___init___Table (K : PySem.W.Frag) (cTableError cBadName cTooMany cBadWay cBadRow cWay cFirst cOnly cLike cLow cHigh cSum cDomain cNumbers cWords cTable : Addr) : Sp := fun vs H Q E => ∃ (x dx na dl ou rl : Addr) (nm wy : Str) (zs : List Str) (dv rx : List V) (bs : Prs) (o : Int × Int) (rws : List Rw) (b : Bool) (k : Nat), vs = [.ref x, .str nm, .ref na, .ref dl, .ref ou, .str wy, .ref rl] ∧ H x = some (.ins cTable dx []) ∧ H na = some (.lst (zs.map V.str)) ∧ (∀ z ∈ nm :: zs, Sm 600 z) ∧ zs.length ≤ 50 ∧ Sm 1000 wy ∧ OuC cNumbers cWords H ou b ∧ H dl = some (.lst dv) ∧ RefL dv bs (Dom cNumbers cWords H) ∧ Dom cNumbers cWords H ou o ∧ H rl = some (.lst rx) ∧ RL NT H rx rws ∧ bs.length ≤ 5 ∧ (∀ w ∈ rws, bnd w.2) ∧ TabIs (nm :: zs) zs.length rx.length (WyOk wy b) (∀ w ∈ rws, RowOk bs o w) k ∧
  (k = 0 → ∀ (H' : Hp) (fs : List (Str × V)) (rl' : Addr) (xs' : List V), (∀ b o, b ≠ x → H b = some o → H' b = some o) → H' x = some (.ins cTable dx fs) → fs.lookup (Str.ofString "rows") = some (.ref rl') → fs.lookup (Str.ofString "way") = some (.str wy) → fs.lookup (Str.ofString "outcome") = some (.ref ou) → fs.lookup (Str.ofString "name") = some (.str nm) → (∃ na' dl' : Addr, fs.lookup (Str.ofString "names") = some (.ref na') ∧ fs.lookup (Str.ofString "domains") = some (.ref dl') ∧ H' na' = some (.lst (zs.map V.str)) ∧ H' dl' = some (.lst dv)) → H' rl' = some (.lst xs') → RL NT H' xs' rws → Q .non H') ∧ (∀ C, ex5 cBadName cTooMany cBadWay cBadRow k = some C → ∀ H', Same H H' → E (.ref C) none H')
def sp_with_rows (K : PySem.W.Frag) (cTableError cBadName cTooMany cBadWay cBadRow cWay cFirst cOnly cLike cLow cHigh cSum cDomain cNumbers cWords cTable : Addr) : Sp := fun vs H Q E => ∃ (t rl ou : Addr) (nm wy : Str) (zs : List Str) (dv rx : List V) (bs : Prs) (o : Int × Int) (rws : List Rw) (b : Bool) (k : Nat), vs = [.ref t, .ref rl] ∧ TblX cTable H t nm wy ou zs dv ∧ (∀ z ∈ nm :: zs, Sm 600 z) ∧ zs.length ≤ 50 ∧ Sm 1000 wy ∧ OuC cNumbers cWords H ou b ∧ RefL dv bs (Dom cNumbers cWords H) ∧ Dom cNumbers cWords H ou o ∧ H rl = some (.lst rx) ∧ RL NT H rx rws ∧ bs.length ≤ 5 ∧ (∀ w ∈ rws, bnd w.2) ∧ TabIs (nm :: zs) zs.length rx.length (WyOk wy b) (∀ w ∈ rws, RowOk bs o w) k ∧
  (k = 0 → ∀ (x dx : Addr) (fs : List (Str × V)) (H' : Hp), Same H H' → H' x = some (.ins cTable dx fs) → Q (.ref x) H') ∧ (∀ C, ex5 cBadName cTooMany cBadWay cBadRow k = some C → ∀ H', Same H H' → E (.ref C) none H')
def sp_law_made (K : PySem.W.Frag) (cTableError cBadName cTooMany cBadWay cBadRow cWay cFirst cOnly cLike cLow cHigh cSum cDomain cNumbers cWords cTable : Addr) : Sp := fun vs H Q _ => ∃ (na dl ou rl : Addr) (nm wy : Str) (zs : List Str) (dv rx : List V) (bs : Prs) (o : Int × Int) (rws : List Rw) (b : Bool) (k : Nat), vs = [.str nm, .ref na, .ref dl, .ref ou, .str wy, .ref rl] ∧ H na = some (.lst (zs.map V.str)) ∧ (∀ z ∈ nm :: zs, Sm 600 z) ∧ zs.length ≤ 50 ∧ Sm 1000 wy ∧ OuC cNumbers cWords H ou b ∧ H dl = some (.lst dv) ∧ RefL dv bs (Dom cNumbers cWords H) ∧ Dom cNumbers cWords H ou o ∧ H rl = some (.lst rx) ∧ RL NT H rx rws ∧ bs.length ≤ 5 ∧ (∀ w ∈ rws, bnd w.2) ∧ TabIs (nm :: zs) zs.length rx.length (WyOk wy b) (∀ w ∈ rws, RowOk bs o w) k ∧ ∀ H', Same H H' → Q (.str (out5 k)) H'
def sp_law_other_rows (K : PySem.W.Frag) (cTableError cBadName cTooMany cBadWay cBadRow cWay cFirst cOnly cLike cLow cHigh cSum cDomain cNumbers cWords cTable : Addr) : Sp := fun vs H Q _ => ∃ (t rl ou : Addr) (nm wy : Str) (zs : List Str) (dv rx : List V) (bs : Prs) (o : Int × Int) (rws : List Rw) (b : Bool) (k : Nat), vs = [.ref t, .ref rl] ∧ TblX cTable H t nm wy ou zs dv ∧ (∀ z ∈ nm :: zs, Sm 600 z) ∧ zs.length ≤ 50 ∧ Sm 1000 wy ∧ OuC cNumbers cWords H ou b ∧ RefL dv bs (Dom cNumbers cWords H) ∧ Dom cNumbers cWords H ou o ∧ H rl = some (.lst rx) ∧ RL NT H rx rws ∧ bs.length ≤ 5 ∧ (∀ w ∈ rws, bnd w.2) ∧ TabIs (nm :: zs) zs.length rx.length (WyOk wy b) (∀ w ∈ rws, RowOk bs o w) k ∧ ∀ H', Same H H' → Q (.str (out5 k)) H'
def sp_law_refused_so (K : PySem.W.Frag) (cTableError cBadName cTooMany cBadWay cBadRow cWay cFirst cOnly cLike cLow cHigh cSum cDomain cNumbers cWords cTable : Addr) : Sp := fun vs H Q _ => ∃ (pl ou : Addr) (o : Int × Int) (zo : List Str), vs = [.ref pl, .ref ou] ∧ PartA cNumbers cWords H pl o zo ∧ Dom cNumbers cWords H ou o ∧ OuC cNumbers cWords H ou (!zo.isEmpty) ∧ ∀ H', Same H H' → Q (.bl true) H'
def sp_law (K : PySem.W.Frag) : Sp := fun vs H Q _ => ∃ (a : Addr) (ns : List Int), vs = [.ref a] ∧ SqL K H a (ns.map V.int) ∧ ns.length ≤ 63 ∧ ∀ H', Q (.bl true) H'
section
variable {P : Program} {w : World} {K : PySem.W.Frag} {mg : Str → Option Value} {base : Heap} {f : Addr} {fd : FuncData} {cTableError cBadName cTooMany cBadWay cBadRow cWay cFirst cOnly cLike cLow cHigh cSum cDomain cNumbers cWords cTable : Addr}
theorem ok_all_among (F : Fun K "all_among" "all_among" s_all_among f fd) (bl : Bl K mg cTableError cBadName cTooMany cBadWay cBadRow cWay cFirst cOnly cLike cLow cHigh cSum cDomain cNumbers cWords cTable)  : FnOk P w K mg base CX0 1 f fd ["text", "signs"] (sp_all_among K cTableError cBadName cTooMany cBadWay cBadRow cWay cFirst cOnly cLike cLow cHigh cSum cDomain cNumbers cWords cTable) := by
  refine F.ok sc_all_among (fun vs H Q E h => ?_) (fun cdv A outer s H vs Q E hr h => ?_)
  · obtain ⟨z, g, rfl, q⟩ := h
    rfl
  obtain ⟨z, g, rfl, q⟩ := h
  refine ⟨_, (pss_cons (ps_for PassesOwn.never rfl (pi_str (pv 0)) (pg_name (i := 2) sc_all_among.nd rfl (Or.inl rfl))
     (pss_one (ps_if (pt_cmpR op_notin_str (pv 2) (pv 1) (by with_unfolding_all rfl))
     (pss_one (ps_ret pe_bl))
     pss_nil)))
     (pss_one (ps_ret pe_bl))), ?_⟩
  refine ⟨_, rfl, z, rfl, for_str (fun i σ H' => (∃ c2 : Option V, σ = [some (.str z), some (.str g), c2]) ∧ H' = H ∧ (z.cps.toList.take i).all (sg g) = true) ⟨⟨_, rfl⟩, rfl, rfl⟩ (fun i c σ H' e h => ?_) (fun σ H' h => ?_)⟩
  · obtain ⟨⟨c2, rfl⟩, e0, ha⟩ := h
    rw [e0]
    refine ⟨_, rfl, _, rfl, _, _, rfl, rfl, _, rfl, ?_⟩
    refine ite2 (fun d => ?_) (fun d => ?_)
    · have z2 : allIn z g = false := all_no e (not_sg d)
      rw [z2] at q; exact q
    · exact ⟨⟨_, rfl⟩, rfl, all_succ e (is_sg d) ha⟩
  · obtain ⟨⟨c2, rfl⟩, e0, ha⟩ := h
    rw [e0]
    rw [all_done ha] at q; exact q
theorem ok_is_whole (F : Fun K "is_whole" "is_whole" s_is_whole f fd) (bl : Bl K mg cTableError cBadName cTooMany cBadWay cBadRow cWay cFirst cOnly cLike cLow cHigh cSum cDomain cNumbers cWords cTable)  : FnOk P w K mg base CX0 1 f fd ["value"] (sp_is_whole K cTableError cBadName cTooMany cBadWay cBadRow cWay cFirst cOnly cLike cLow cHigh cSum cDomain cNumbers cWords cTable) := by
  refine F.ok sc_is_whole (fun vs H Q E h => ?_) (fun cdv A outer s H vs Q E hr h => ?_)
  · obtain ⟨i, rfl, q⟩ := h
    rfl
  obtain ⟨i, rfl, q⟩ := h
  refine ⟨_, (pss_one (ps_ret (pe_and (pe_callB call_isiG rfl bl.isinstance_ PyProof.Rows.boot_isinstance (pa_cons (pv 0) (pa_cons (pe_bltn (v := .ty "int") rfl bl.int_ PyProof.Rows.boot_int rfl) pa_nil))) (pe_one (pe_not (pe_callB call_isiG rfl bl.isinstance_ PyProof.Rows.boot_isinstance (pa_cons (pv 0) (pa_cons (pe_bltn (v := .ty "bool") rfl bl.bool_ PyProof.Rows.boot_bool rfl) pa_nil)))))))), ?_⟩
  exact ⟨_, rfl, _, _, _, _, true, rfl, .ty _, .inl (.int _), (by first | rfl | with_unfolding_all rfl | decide +kernel), _, rfl, iteT ⟨_, rfl, _, _, _, _, false, rfl, .ty _, .inl (.int _), (by first | rfl | with_unfolding_all rfl | decide +kernel), _, rfl, q⟩⟩
theorem ok_refuse_counts (F : Fun K "refuse_counts" "refuse_counts" s_refuse_counts f fd) (bl : Bl K mg cTableError cBadName cTooMany cBadWay cBadRow cWay cFirst cOnly cLike cLow cHigh cSum cDomain cNumbers cWords cTable)  : FnOk P w K mg base (CX1 P w) 1 f fd ["names", "rows"] (sp_refuse_counts K cTableError cBadName cTooMany cBadWay cBadRow cWay cFirst cOnly cLike cLow cHigh cSum cDomain cNumbers cWords cTable) := by
  refine F.okE sc_refuse_counts (fun vs H Q E h => ?_) (fun cdv A outer s H vs Q E hr h => ?_)
  · obtain ⟨p, r, xs, ys, rfl, hP, hR, q, qE⟩ := h
    rfl
  obtain ⟨p, r, xs, ys, rfl, hP, hR, q, qE⟩ := h
  refine ⟨_, (pss_cons (ps_if (pt_not (pt_chain op_le op_le pe_int (pe_callB call_len_seq rfl bl.len_ PySem.boot_len (pa_cons (pv 0) pa_nil)) (pe_gl rfl bl.MOST_COLUMNS_)))
     (pss_one (ps_raiseE bl.x_TooMany hr.hd rfl bl.TooMany_ (pa_cons pe_str pa_nil)))
     pss_nil)
     (pss_one (ps_if (pt_cmpR op_gt (pe_callB call_len_seq rfl bl.len_ PySem.boot_len (pa_cons (pv 1) pa_nil)) (pe_gl rfl bl.MOST_ROWS_) (nomark _))
     (pss_one (ps_raiseE bl.x_TooMany hr.hd rfl bl.TooMany_ (pa_cons pe_str pa_nil)))
     pss_nil))), ?_⟩
  refine ⟨_, rfl, p, _, rfl, .inl (hP), _, _, rfl, rfl, _, rfl, ?_⟩
  refine ite2 (fun g1 => ?_) (fun g1 => ?_)
  rotate_left
  · have g1' : ¬ (1 : Int) ≤ ((xs.length : Nat) : Int) := dec_f g1
    exact ⟨_, rfl, iteT ⟨(by show 1 ≤ sizeLine; decide), qE fun g => by have := g.1; omega⟩⟩
  have g1' : (1 : Int) ≤ ((xs.length : Nat) : Int) := dec_t g1
  refine ⟨_, _, rfl, rfl, _, rfl, ?_⟩
  cases hg : decide (((xs.length : Nat) : Int) ≤ 4) with
  | false =>
    have hg' := of_decide_eq_false hg
    exact iteT ⟨(by show 1 ≤ sizeLine; decide), qE fun g => by have := g.2.1; omega⟩
  | true =>
    have hg' := of_decide_eq_true hg
    refine iteF ⟨_, rfl, r, _, rfl, .inl (hR), _, _, rfl, rfl, _, rfl, ?_⟩
    refine ite2 (fun g2 => ?_) (fun g2 => ?_)
    · have g2' := dec_t g2
      exact ⟨(by show 1 ≤ sizeLine; decide), qE fun g => by have := g.2.2; omega⟩
    · have g2' := dec_f g2
      exact q ⟨by omega, by omega, by omega⟩
theorem ok_own_row (F : Fun K "own_row" "own_row" s_own_row f fd) (bl : Bl K mg cTableError cBadName cTooMany cBadWay cBadRow cWay cFirst cOnly cLike cLow cHigh cSum cDomain cNumbers cWords cTable)  : FnOk P w K mg base CX0 1 f fd ["cells", "code"] (sp_own_row K cTableError cBadName cTooMany cBadWay cBadRow cWay cFirst cOnly cLike cLow cHigh cSum cDomain cNumbers cWords cTable) := by
  refine F.ok sc_own_row (fun vs H Q E h => ?_) (fun cdv A outer s H vs Q E hr h => ?_)
  · obtain ⟨cl, xs, w_, rfl, hC, hcl, h100, q⟩ := h
    rfl
  obtain ⟨cl, xs, w_, rfl, hC, hcl, h100, q⟩ := h
  refine ⟨_, (pss_one (ps_ret (pe_tup (pa_cons (pe_comp (pi_list (pv 0)) (cmpOk_plain rfl (by decide +kernel) (by decide +kernel) (by decide +kernel) rfl) rfl (fun _ _ _ _ => pif_nil) (fun _ _ _ _ => (pe_callTy (call_list_ofK (K := K) rfl) rfl bl.list_ PyProof.Rows.boot_list (pa_cons (pv 0) pa_nil)))) (pa_cons (pv 1) pa_nil))))), ?_⟩
  refine ⟨_, rfl, cl, rfl, ⟨_, SqL.of hC⟩, comp_list (xs := xs) (fun D i zs H' => Same H H' ∧ H' D = some (.lst zs) ∧ CL (Fr H D) H' zs (w_.1.take i))
    (fun D hD => ⟨same_new hD _, upd_same, RefL.nil⟩) (fun D i zs H' hD _ h => SqL.of (h.1 _ _ hC)) (fun D i x zs H' hD e h => ?_) (fun D zs H' hD h => ?_)⟩
  · obtain ⟨sm, eD, hz⟩ := h
    obtain ⟨l, ps, rfl, ep, hl⟩ := RefL.get hcl e
    obtain ⟨_, ys, el, hp⟩ := hl.same sm
    have hi : i < xs.length := (List.getElem?_eq_some_iff.mp e).1
    have hlz : zs.length < sizeLine := by
      have h1 := hz.1
      rw [List.length_take] at h1
      exact small1000 (by omega)
    refine ⟨_, rfl, l, _, rfl, .inl (SqL.of el), fun l2 hl2 => ?_⟩
    have s2 := same_new hl2 (.lst ys)
    have e2 : upd H' l2 (.lst ys) l2 = some (.lst ys) := upd_same
    have eD2 := s2 _ _ eD
    generalize upd H' l2 (.lst ys) = H2 at s2 e2 eD2 ⊢
    have n2 : H l2 = none := sm.free hl2
    have nD : l2 ≠ D := fun z => by rw [z, eD] at hl2; cases hl2
    refine CYes.mk hi eD2 hlz ⟨(sm.trans s2).upd hD, upd_same, ?_⟩
    rw [take_snoc ep]
    exact CL.updN (RefL.snoc (hz.same s2) ⟨⟨n2, nD⟩, ys, e2, hp.mono s2.tups⟩) Fr.out eD2
  · obtain ⟨sm, eD, hz⟩ := h
    rw [hcl.1, List.take_length] at hz
    refine ⟨_, rfl, small2, fun r hr' => q r _ (sm.trans (same_new hr' _)) (sm.free hr') ⟨D, zs, upd_same, hD, same_new hr' _ _ _ eD, ?_⟩⟩
    exact (hz.same (same_new hr' _)).wk fun a h => h.1
theorem ok_law_cell_at (F : Fun K "_law_cell_at" "_law_cell_at" s_law_cell_at f fd) (bl : Bl K mg cTableError cBadName cTooMany cBadWay cBadRow cWay cFirst cOnly cLike cLow cHigh cSum cDomain cNumbers cWords cTable)  : FnOk P w K mg base CX0 1 f fd ["script", "k"] (sp_law_cell_at K cTableError cBadName cTooMany cBadWay cBadRow cWay cFirst cOnly cLike cLow cHigh cSum cDomain cNumbers cWords cTable) := by
  refine F.ok sc_law_cell_at (fun vs H Q E h => ?_) (fun cdv A outer s H vs Q E hr h => ?_)
  · obtain ⟨a, ns, k, rfl, hS, h0, q⟩ := h
    rfl
  obtain ⟨a, ns, k, rfl, hS, h0, q⟩ := h
  refine ⟨_, (pss_cons (ps_if (pt_cmpR op_lt (pv 1) (pe_callB call_len_seq rfl bl.len_ PySem.boot_len (pa_cons (pv 0) pa_nil)) (nomark _))
     (pss_one (ps_ret (pe_ix ix_list (pv 0) (pv 1) (fun _ _ => rfl))))
     pss_nil)
     (pss_one (ps_ret pe_int))), ?_⟩
  refine ⟨_, rfl, _, rfl, a, _, rfl, .inl hS, _, _, rfl, rfl, _, rfl, ?_⟩
  refine ite2 (fun c => ?_) (fun c => ?_)
  · have c' : k < (((ns.map V.int).length : Nat) : Int) := dec_t c
    rw [List.length_map] at c'
    have hk : k.toNat < ns.length := by omega
    have hv : atI (ns.map V.int) k = some (.int ns[k.toNat]) := by
      have z : atI (ns.map V.int) ((k.toNat : Nat) : Int) = some (.int ns[k.toNat]) := atI_nat (by rw [List.getElem?_map, List.getElem?_eq_getElem hk]; rfl)
      rw [show ((k.toNat : Nat) : Int) = k by omega] at z
      exact z
    exact ⟨_, rfl, _, rfl, a, _, _, _, rfl, rfl, hS, hv, q _⟩
  · exact q 0
theorem ok_law_mixed (F : Fun K "_law_mixed" "_law_mixed" s_law_mixed f fd) (bl : Bl K mg cTableError cBadName cTooMany cBadWay cBadRow cWay cFirst cOnly cLike cLow cHigh cSum cDomain cNumbers cWords cTable)  : FnOk P w K mg base CX0 1 f fd ["cell", "k"] (sp_law_mixed K cTableError cBadName cTooMany cBadWay cBadRow cWay cFirst cOnly cLike cLow cHigh cSum cDomain cNumbers cWords cTable) := by
  refine F.ok sc_law_mixed (fun vs H Q E h => ?_) (fun cdv A outer s H vs Q E hr h => ?_)
  · obtain ⟨c, k, rfl, h0, h1, q⟩ := h
    rfl
  obtain ⟨c, k, rfl, h0, h1, q⟩ := h
  refine ⟨_, (pss_cut (ps_set (i := 2) sc_law_mixed.nd rfl (Or.inl rfl) (pe_op op_mulO (pe_op op_add (pe_op op_mod (pv 0) (pe_op op_pow pe_int pe_int)) pe_int) (pe_op op_add pe_int (pe_op op_mul (pe_op op_mul pe_int (pv 1)) (pv 1)))))
     (pss_cut (ps_set (i := 2) sc_law_mixed.nd rfl (Or.inl rfl) (pe_op op_add (pv 2) (pe_op op_mul pe_int (pv 1))))
     (pss_one (ps_ret (pe_op op_mod (pe_op op_mulO (pv 2) (pv 2)) (pe_op op_add (pe_op op_pow pe_int pe_int) pe_int)))))), ?_⟩
  have a0 := Int.emod_nonneg c (Int.ne_of_gt (p10 (60 : Int).toNat))
  have a1 := Int.emod_lt_of_pos c (p10 (60 : Int).toNat)
  have t60 : (10 : Int) ^ (60 : Int).toNat < 2 ^ 200 := by decide
  have kk : 0 ≤ 2 * k * k ∧ 2 * k * k ≤ 20000 := by
    have z1 : 0 ≤ 2 * k := by omega
    have z2 := Int.mul_nonneg z1 h0
    have z3 : 2 * k * k ≤ 2 * k * 100 := Int.mul_le_mul_of_nonneg_left h1 z1
    omega
  refine ⟨fun σ' H' => H' = H ∧ ∃ b : Int, 0 ≤ b ∧ b < 2 ^ 400 ∧ σ' = [some (.int c), some (.int k), some (.int b)], ?_, ?_⟩
  · have hA : 0 ≤ c % 10 ^ (60 : Int).toNat + 1 ∧ c % 10 ^ (60 : Int).toNat + 1 ≤ 2 ^ 200 := ⟨by omega, by omega⟩
    have hB : 0 ≤ 27182818284590452353602874713526624977572 + 2 * k * k ∧ 27182818284590452353602874713526624977572 + 2 * k * k < 2 ^ 140 := by
      have : (27182818284590452353602874713526624977572 : Int) + 20000 < 2 ^ 140 := by decide
      omega
    have hM : IntMulOk (c % 10 ^ (60 : Int).toNat + 1) (27182818284590452353602874713526624977572 + 2 * k * k) := by
      refine mul_bits (m := 201) (n := 140) ?_ ?_ (by decide) (by decide)
      · have : (2 : Int) ^ 200 < ((2 ^ 201 : Nat) : Int) := by decide
        omega
      · have : (2 : Int) ^ 140 = ((2 ^ 140 : Nat) : Int) := by decide
        omega
    refine ⟨_, rfl, _, _, rfl, rfl, ⟨by decide, by decide, by decide⟩, _, _, rfl, rfl, p10 _, _, _, rfl, rfl, _, rfl, _, _, rfl, rfl, .inl ⟨by decide, by decide⟩, _, rfl, _, _, rfl, rfl, .inr ⟨by omega, by omega⟩, _, _, rfl, rfl, _, _, rfl, rfl, hM, rfl, _, Int.mul_nonneg hA.1 hB.1, ?_, rfl⟩
    have z := Int.mul_le_mul hA.2 (Int.le_of_lt hB.2) hB.1 (by decide)
    have z2 : (2 : Int) ^ 200 * 2 ^ 140 < 2 ^ 400 := by decide
    omega
  rintro σ1 H1 ⟨rfl, b, b0, b1, rfl⟩
  refine ⟨fun σ' H' => H' = H1 ∧ ∃ b : Int, 0 ≤ b ∧ b < 2 ^ 401 ∧ σ' = [some (.int c), some (.int k), some (.int b)], ?_, ?_⟩
  · refine ⟨_, rfl, _, rfl, _, _, rfl, rfl, .inl ⟨by decide, by decide⟩, _, _, rfl, rfl, rfl, _, by omega, ?_, rfl⟩
    have z2 : (2 : Int) ^ 400 + 7919 * 100 < 2 ^ 401 := by decide
    omega
  rintro σ2 H2 ⟨rfl, b', b2, b3, rfl⟩
  have hM : IntMulOk b' b' := by
    have e : (2 : Int) ^ 401 = ((2 ^ 401 : Nat) : Int) := by decide
    refine mul_bits (m := 401) (n := 401) ?_ ?_ (by decide) (by decide) <;> omega
  exact ⟨_, rfl, _, rfl, _, _, rfl, rfl, hM, _, _, rfl, rfl, ⟨by decide, by decide, by decide⟩, _, _, rfl, rfl, _, _, rfl, rfl, (by show (0 : Int) < 10 ^ (60 : Int).toNat + 7; have := p10 (60 : Int).toNat; omega), q _⟩
theorem ok_law_word (F : Fun K "_law_word" "_law_word" s_law_word f fd) (bl : Bl K mg cTableError cBadName cTooMany cBadWay cBadRow cWay cFirst cOnly cLike cLow cHigh cSum cDomain cNumbers cWords cTable)  : FnOk P w K mg base CX0 1 f fd ["cell", "k"] (sp_law_word K cTableError cBadName cTooMany cBadWay cBadRow cWay cFirst cOnly cLike cLow cHigh cSum cDomain cNumbers cWords cTable) := by
  refine F.ok sc_law_word (fun vs H Q E h => ?_) (fun cdv A outer s H vs Q E hr h => ?_)
  · obtain ⟨c, k, rfl, q⟩ := h
    rfl
  obtain ⟨c, k, rfl, q⟩ := h
  refine ⟨_, (pss_cut (ps_set (i := 2) sc_law_word.nd rfl (Or.inl rfl) (pe_op op_rep_str (pe_ix ix_str pe_str (pe_op op_mod (pv 0) pe_int) (fun _ _ => rfl)) (pe_op op_mod (pe_op op_fdiv (pv 0) pe_int) pe_int)))
     (pss_cut (ps_set (i := 3) sc_law_word.nd rfl (Or.inl rfl) (pe_op op_rep_str (pe_ix ix_str pe_str (pe_op op_mod (pe_op op_fdiv (pv 0) pe_int) pe_int) (fun _ _ => rfl)) (pe_op op_mod (pv 1) pe_int)))
     (pss_one (ps_ret (pe_op op_add_str (pe_op op_add_str (pe_op op_add_str (pv 2) (pe_ix ix_str pe_str (pe_op op_mod (pe_op op_fdiv (pv 1) pe_int) pe_int) (fun _ _ => rfl))) (pe_ix ix_str pe_str (pe_op op_mod (pv 1) pe_int) (fun _ _ => rfl))) (pv 3)))))), ?_⟩
  have m1 : ∀ (x : Nat) (n : Int), 0 ≤ n → n < 10 → MulOk ⟨#[x]⟩ n := fun x n h0 h1 => by
    have : n = 0 ∨ n = 1 ∨ n = 2 ∨ n = 3 ∨ n = 4 ∨ n = 5 ∨ n = 6 ∨ n = 7 ∨ n = 8 ∨ n = 9 := by omega
    have e : (⟨#[x]⟩ : Str).length = 1 := rfl
    unfold MulOk
    rw [e]
    rcases this with rfl | rfl | rfl | rfl | rfl | rfl | rfl | rfl | rfl | rfl <;> decide
  have a0 := Int.emod_nonneg c (show (26 : Int) ≠ 0 by decide)
  have a1 := Int.emod_lt_of_pos c (show (0 : Int) < 26 by decide)
  have b0 := Int.emod_nonneg (c / 26) (show (6 : Int) ≠ 0 by decide)
  have b1 := Int.emod_lt_of_pos (c / 26) (show (0 : Int) < 6 by decide)
  have d0 := Int.emod_nonneg (c / 156) (show (26 : Int) ≠ 0 by decide)
  have d1 := Int.emod_lt_of_pos (c / 156) (show (0 : Int) < 26 by decide)
  have e0 := Int.emod_nonneg k (show (5 : Int) ≠ 0 by decide)
  have e1 := Int.emod_lt_of_pos k (show (0 : Int) < 5 by decide)
  have f0 := Int.emod_nonneg (k / 7) (show (7 : Int) ≠ 0 by decide)
  have f1 := Int.emod_lt_of_pos (k / 7) (show (0 : Int) < 7 by decide)
  have g0 := Int.emod_nonneg k (show (7 : Int) ≠ 0 by decide)
  have g1 := Int.emod_lt_of_pos k (show (0 : Int) < 7 by decide)
  refine ⟨fun σ' H' => H' = H ∧ σ' = [some (.int c), some (.int k), some (.str ⟨(List.replicate (c / 26 % 6).toNat (97 + (c % 26).toNat)).toArray⟩), none], ?_, ?_⟩
  · refine ⟨_, rfl, _, _, rfl, rfl, (by show (0 : Int) < 26; decide), _, _, _, rfl, rfl, (by decide), lets_at abc26 a0 a1, _, rfl, _, _, rfl, rfl, ⟨by decide, by decide⟩, _, _, rfl, rfl, (by show (0 : Int) < 6; decide), _, _, rfl, rfl, m1 _ _ b0 (by omega), rfl, ?_⟩
    rw [mul1]
    rfl
  rintro σ1 H1 ⟨rfl, rfl⟩
  refine ⟨fun σ' H' => H' = H1 ∧ σ' = [some (.int c), some (.int k), some (.str ⟨(List.replicate (c / 26 % 6).toNat (97 + (c % 26).toNat)).toArray⟩), some (.str ⟨(List.replicate (k % 5).toNat (97 + (c / 156 % 26).toNat)).toArray⟩)], ?_, ?_⟩
  · refine ⟨_, rfl, _, _, rfl, rfl, ⟨by decide, by decide⟩, _, _, rfl, rfl, (by show (0 : Int) < 26; decide), _, _, _, rfl, rfl, (by decide), lets_at abc26 d0 d1, _, rfl, _, _, rfl, rfl, (by show (0 : Int) < 5; decide), _, _, rfl, rfl, m1 _ _ e0 (by omega), rfl, ?_⟩
    rw [mul1]
    rfl
  rintro σ2 H2 ⟨rfl, rfl⟩
  have n1 : (⟨(List.replicate (c / 26 % 6).toNat (97 + (c % 26).toNat)).toArray⟩ : Str).length ≤ 6 := by simp [Str.length]; omega
  have n2 : (⟨(List.replicate (k % 5).toNat (97 + (c / 156 % 26).toNat)).toArray⟩ : Str).length ≤ 6 := by simp [Str.length]; omega
  have o1 : ∀ x : Nat, (⟨#[x]⟩ : Str).length = 1 := fun _ => rfl
  refine ⟨_, rfl, _, rfl, _, _, rfl, rfl, ⟨by decide, by decide⟩, _, _, rfl, rfl, (by show (0 : Int) < 7; decide), _, _, _, rfl, rfl, (by decide), lets_at abc7 f0 f1, _, _, rfl, rfl, big (by rw [o1]; omega), _, rfl, _, _, rfl, rfl, (by show (0 : Int) < 7; decide), _, _, _, rfl, rfl, (by decide), lets_at abc7 g0 g1, _, _, rfl, rfl, big (by rw [len_app, o1, o1]; omega), _, rfl, _, _, rfl, rfl, big (by rw [len_app, len_app, o1, o1]; omega), ?_⟩
  have e : ∀ (A B : List Nat) (x y : Nat), (⟨A.toArray⟩ : Str) ++ (⟨#[x]⟩ : Str) ++ (⟨#[y]⟩ : Str) ++ (⟨B.toArray⟩ : Str) = ⟨(A ++ ([x, y] ++ B)).toArray⟩ := fun A B x y => by
    show Str.append (Str.append (Str.append _ _) _) _ = _
    unfold Str.append
    simp
  show Q (.str (_ ++ _ ++ _ ++ _)) H2
  rw [e]
  exact q
theorem ok_law_spans (F : Fun K "_law_spans" "_law_spans" s_law_spans f fd) (bl : Bl K mg cTableError cBadName cTooMany cBadWay cBadRow cWay cFirst cOnly cLike cLow cHigh cSum cDomain cNumbers cWords cTable)  : FnOk P w K mg base CX0 1 f fd ["m", "low", "high"] (sp_law_spans K cTableError cBadName cTooMany cBadWay cBadRow cWay cFirst cOnly cLike cLow cHigh cSum cDomain cNumbers cWords cTable) := by
  refine F.ok sc_law_spans (fun vs H Q E h => ?_) (fun cdv A outer s H vs Q E hr h => ?_)
  · obtain ⟨m, b, rfl, hle, q⟩ := h
    rfl
  obtain ⟨m, b, rfl, hle, q⟩ := h
  refine ⟨_, (pss_cut (ps_set (i := 3) sc_law_spans.nd rfl (Or.inl rfl) (pe_op op_add (pe_op op_sub (pv 2) (pv 1)) pe_int))
     (pss_cons (ps_if (pt_cmpR op_eq (pe_op op_mod (pv 0) pe_int) pe_int (nomark _))
     (pss_one (ps_ret (pe_lst (pa_cons (pe_tup (pa_cons (pv 1) (pa_cons (pv 2) pa_nil))) pa_nil))))
     pss_nil)
     (pss_cons (ps_if (pt_cmpR op_eq (pe_op op_mod (pv 0) pe_int) pe_int (nomark _))
     (pss_one (ps_ret (pe_lst pa_nil)))
     pss_nil)
     (pss_cut (ps_set (i := 4) sc_law_spans.nd rfl (Or.inl rfl) (pe_lst pa_nil))
     (pss_cut (ps_set (i := 5) sc_law_spans.nd rfl (Or.inl rfl) (pe_op op_add (pv 1) (pe_op op_fdivP (pe_op op_mul (pe_op op_add (pv 3) pe_int) (pe_op op_mod (pe_op op_fdiv (pv 0) pe_int) (pe_op op_pow pe_int pe_int))) (pe_op op_mul pe_int (pe_op op_pow pe_int pe_int)))))
     (pss_cons (ps_for PassesOwn.never rfl (pi_range1 rfl bl.range_ (pa_cons (pe_op op_add pe_int (pe_op op_mod (pv 0) pe_int)) pa_nil)) (pg_name (i := 6) sc_law_spans.nd rfl (Or.inl rfl))
     (pss_cut (ps_set (i := 0) sc_law_spans.nd rfl (Or.inl rfl) (pe_op op_fdivP (pv 0) (pe_op op_pow pe_int pe_int)))
     (pss_cut (ps_set (i := 7) sc_law_spans.nd rfl (Or.inl rfl) (pe_callB (call_min2 rfl) rfl bl.min_ PyProof.Rows.boot_min (pa_cons (pv 2) (pa_cons (pe_op op_add (pv 5) (pe_op op_fdivP (pe_op op_mul (pe_op op_add (pv 3) pe_int) (pe_op op_mod (pv 0) (pe_op op_pow pe_int pe_int))) (pe_op op_mul pe_int (pe_op op_pow pe_int pe_int)))) pa_nil))))
     (pss_cut (ps_if (pt_cmpR op_le (pv 5) (pv 2) (nomark _))
     (pss_one (ps_expr (pe_bm PySem.F.plainAttrs_list PySem.F.slot_list_append PySem.F.type_list_append mt_append (pv 4) (pa_cons (pe_tup (pa_cons (pv 5) (pa_cons (pv 7) pa_nil))) pa_nil))))
     pss_nil)
     (pss_one (ps_set (i := 5) sc_law_spans.nd rfl (Or.inl rfl) (pe_op op_add (pe_op op_add (pv 7) pe_int) (pe_op op_fdivP (pe_op op_mulO (pv 3) (pe_op op_mod (pe_op op_fdiv (pv 0) pe_int) (pe_op op_pow pe_int pe_int))) (pe_op op_mul pe_int (pe_op op_pow pe_int pe_int))))))))))
     (pss_one (ps_ret (pv 4))))))))), ?_⟩
  refine ⟨fun σ' H' => H' = H ∧ σ' = [some (.int m), some (.int b.1), some (.int b.2), some (.int (b.2 - b.1 + 1)), none, none, none, none], ?_, ?_⟩
  · exact ⟨_, rfl, _, rfl, _, _, rfl, rfl, _, _, rfl, rfl, rfl, rfl⟩
  rintro σ1 H1 ⟨rfl, rfl⟩
  have hs0 : 1 ≤ b.2 - b.1 + 1 := by omega
  have hsz : b.2 = b.1 + (b.2 - b.1 + 1) - 1 := by omega
  generalize b.2 - b.1 + 1 = sz at hs0 hsz ⊢
  refine ⟨_, rfl, _, _, rfl, rfl, (by show (0 : Int) < 16; decide), rfl, _, rfl, ?_⟩
  refine ite2 (fun _ => ?_) (fun _ => ?_)
  · refine ⟨_, rfl, _, rfl, small2, fun t ht => ?_⟩
    have t1 := same_new ht (.tup [.int b.1, .int b.2])
    have e1 : upd H1 t (.tup [.int b.1, .int b.2]) t = some (.tup [.int b.1, .int b.2]) := upd_same
    generalize upd H1 t (.tup [.int b.1, .int b.2]) = H2 at t1 e1 ⊢
    refine ⟨(by show 1 ≤ sizeLine; decide), fun l hl => q l [(b.1, b.2)] _ (t1.trans (same_new hl _)) ⟨t1.free hl, _, upd_same, .cons ⟨t, rfl, same_new hl _ _ _ e1⟩ .nil⟩ (fun p hp => ?_) (by simp)⟩
    rw [show p = (b.1, b.2) by simpa using hp]
    exact ⟨Int.le_refl _, Int.le_refl _⟩
  refine ⟨_, rfl, _, _, rfl, rfl, (by show (0 : Int) < 16; decide), rfl, _, rfl, ?_⟩
  refine ite2 (fun _ => ?_) (fun _ => ?_)
  · exact ⟨(by show 0 ≤ sizeLine; decide), fun l hl => q l [] _ (same_new hl _) ⟨hl, _, upd_same, .nil⟩ (fun p hp => by cases hp) (by simp)⟩
  refine ⟨fun σ' H' => Same H1 H' ∧ ∃ sp : Addr, H1 sp = none ∧ H' sp = some (.lst []) ∧ σ' = [some (.int m), some (.int b.1), some (.int b.2), some (.int sz), some (.ref sp), none, none, none], ?_, ?_⟩
  · exact ⟨(by show 0 ≤ sizeLine; decide), fun l hl => ⟨same_new hl _, l, hl, upd_same, rfl⟩⟩
  rintro σ2 H2 ⟨s2, sp, nsp, esp, rfl⟩
  have t9 : (10 : Int) ^ (9 : Int).toNat < 2 ^ 64 := by decide
  have md : ∀ x : Int, 0 ≤ x % 10 ^ (9 : Int).toNat ∧ x % 10 ^ (9 : Int).toNat < 2 ^ 64 := fun x => ⟨Int.emod_nonneg _ (Int.ne_of_gt (p10 _)), by have := Int.emod_lt_of_pos x (p10 (9 : Int).toNat); omega⟩
  have d2 : (0 : Int) < 2 * 10 ^ (9 : Int).toNat ∧ (2 * (10 : Int) ^ (9 : Int).toNat).natAbs.log2 < 9000 := by decide +kernel
  have d5 : (0 : Int) < 5 * 10 ^ (9 : Int).toNat ∧ (5 * (10 : Int) ^ (9 : Int).toNat).natAbs.log2 < 9000 := by decide +kernel
  have d10 : (0 : Int) < 10 ^ (10 : Int).toNat ∧ ((10 : Int) ^ (10 : Int).toNat).natAbs.log2 < 9000 := by decide +kernel
  refine ⟨fun σ' H' => H' = H2 ∧ ∃ at_ : Int, b.1 ≤ at_ ∧ σ' = [some (.int m), some (.int b.1), some (.int b.2), some (.int sz), some (.ref sp), some (.int at_), none, none], ?_, ?_⟩
  · have h1 := md (m / 16)
    refine ⟨_, rfl, _, rfl, _, _, rfl, rfl, _, rfl, _, _, rfl, rfl, ⟨by decide, by decide⟩, _, _, rfl, rfl, ⟨by decide, by decide, by decide⟩, _, _, rfl, rfl, p10 _, _, _, rfl, rfl, .inr ⟨by omega, h1.2⟩, _, _, rfl, rfl, ⟨by decide, by decide, by decide⟩, _, _, rfl, rfl, .inl ⟨by decide, by decide⟩, _, _, rfl, rfl, d2, _, _, rfl, rfl, rfl, _, ?_, rfl⟩
    have := Int.ediv_nonneg (Int.mul_nonneg (show 0 ≤ sz + 1 by omega) h1.1) (Int.le_of_lt d2.1)
    omega
  rintro σ3 H3 ⟨rfl, at0_, ha0, rfl⟩
  have m0 := Int.emod_nonneg m (show (3 : Int) ≠ 0 by decide)
  have m1 := Int.emod_lt_of_pos m (show (0 : Int) < 3 by decide)
  refine ⟨_, rfl, _, _, rfl, rfl, (by show (0 : Int) < 3; decide), _, _, rfl, rfl, _, rfl, (by show -(2 ^ 62) ≤ 1 + m % 3; omega), (by show 1 + m % 3 < 2 ^ 62; omega), for_range (fun i σ H' => Same H1 H' ∧ ∃ (m2 at_ : Int) (c6 c7 : Option V) (ys : List V) (ps : Prs), b.1 ≤ at_ ∧ H' sp = some (.lst ys) ∧ PL H' ys ps ∧ ys.length ≤ i ∧ (∀ p ∈ ps, b.1 ≤ p.1 ∧ p.2 ≤ b.2) ∧ σ = [some (.int m2), some (.int b.1), some (.int b.2), some (.int sz), some (.ref sp), some (.int at_), c6, c7]) ⟨s2, m, at0_, _, _, [], [], ha0, esp, .nil, Nat.le_refl _, (fun p hp => by cases hp), rfl⟩ (fun i σ H' hi h => ?_) (fun σ H' h => ?_)⟩
  · obtain ⟨sm, m2, at_, c6, c7, ys, ps, ha, es, hp, hl, hb, rfl⟩ := h
    refine ⟨fun σ' H4 => H4 = H' ∧ ∃ m3 : Int, σ' = [some (.int m3), some (.int b.1), some (.int b.2), some (.int sz), some (.ref sp), some (.int at_), some (.int (0 + (i : Int))), c7], ?_, ?_⟩
    · exact ⟨_, rfl, _, _, rfl, rfl, ⟨by decide, by decide, by decide⟩, _, _, rfl, rfl, d10, rfl, _, rfl⟩
    rintro σ4 H4 ⟨rfl, m3, rfl⟩
    refine ⟨fun σ' H5 => H5 = H4 ∧ ∃ far : Int, b.1 ≤ far ∧ far ≤ b.2 ∧ σ' = [some (.int m3), some (.int b.1), some (.int b.2), some (.int sz), some (.ref sp), some (.int at_), some (.int (0 + (i : Int))), some (.int far)], ?_, ?_⟩
    · have h1 := md m3
      have h2 := Int.ediv_nonneg (Int.mul_nonneg (show 0 ≤ sz + 1 by omega) h1.1) (Int.le_of_lt d2.1)
      refine ⟨_, rfl, _, rfl, _, rfl, _, _, rfl, rfl, _, rfl, _, _, rfl, rfl, ⟨by decide, by decide, by decide⟩, _, _, rfl, rfl, p10 _, _, _, rfl, rfl, .inr ⟨by omega, h1.2⟩, _, _, rfl, rfl, ⟨by decide, by decide, by decide⟩, _, _, rfl, rfl, .inl ⟨by decide, by decide⟩, _, _, rfl, rfl, d2, _, _, rfl, rfl, _, _, rfl, rfl, _, ?_, ?_, rfl⟩
      · split <;> omega
      · split <;> omega
    rintro σ5 H5 ⟨rfl, far, hf0, hf1, rfl⟩
    refine ⟨fun σ' H6 => Same H1 H6 ∧ ∃ (ys : List V) (ps : Prs), H6 sp = some (.lst ys) ∧ PL H6 ys ps ∧ ys.length ≤ i + 1 ∧ (∀ p ∈ ps, b.1 ≤ p.1 ∧ p.2 ≤ b.2) ∧ σ' = [some (.int m3), some (.int b.1), some (.int b.2), some (.int sz), some (.ref sp), some (.int at_), some (.int (0 + (i : Int))), some (.int far)], ?_, ?_⟩
    · refine ⟨_, rfl, _, rfl, _, _, rfl, rfl, _, rfl, ?_⟩
      refine ite2 (fun _ => ?_) (fun _ => ⟨sm, ys, ps, es, hp, by omega, hb, rfl⟩)
      refine ⟨_, rfl, .inl ⟨rfl, _, SqL.of es⟩, _, rfl, _, rfl, small2, fun t ht => ?_⟩
      have x1 : upd H5 t (.tup [.int at_, .int far]) sp = some (.lst ys) := ret_r1 es ht
      refine ⟨sp, _, _, rfl, rfl, x1, small1000 (by omega), ?_⟩
      have st1 : SameT H5 (upd (upd H5 t (.tup [.int at_, .int far])) sp (.lst (ys ++ [.ref t]))) := (sameT_new ht).trans (sameT_lst x1)
      refine ⟨(sm.trans (same_new ht _)).upd nsp, ys ++ [.ref t], ps ++ [(at_, far)], upd_same, (hp.mono st1).snoc (sameT_lst x1 _ _ upd_same), by rw [List.length_append, List.length_singleton]; omega, fun p hp => ?_, rfl⟩
      rcases List.mem_append.mp hp with hp | hp
      · exact hb p hp
      · rw [show p = (at_, far) by simpa using hp]
        exact ⟨ha, hf1⟩
    rintro σ6 H6 ⟨s6, ys2, ps2, es2, hp2, hl2, hb2, rfl⟩
    have h1 := md (m3 / 7)
    have h2 := Int.ediv_nonneg (Int.mul_nonneg (show 0 ≤ sz by omega) h1.1) (Int.le_of_lt d5.1)
    exact ⟨_, rfl, _, _, rfl, rfl, _, rfl, _, rfl, _, _, rfl, rfl, ⟨by decide, by decide⟩, _, _, rfl, rfl, ⟨by decide, by decide, by decide⟩, _, _, rfl, rfl, p10 _, _, _, rfl, rfl, CMul.ok (.inr ⟨by omega, h1.2⟩), _, _, rfl, rfl, ⟨by decide, by decide, by decide⟩, _, _, rfl, rfl, .inl ⟨by decide, by decide⟩, _, _, rfl, rfl, d5, _, _, rfl, rfl, s6, m3, _, _, _, ys2, ps2, by omega, es2, hp2, hl2, hb2, rfl⟩
  · obtain ⟨sm, m2, at_, c6, c7, ys, ps, ha, es, hp, hl, hb, rfl⟩ := h
    exact ⟨_, rfl, q sp ps _ sm ⟨nsp, ys, es, hp⟩ hb (by have := hp.length; omega)⟩
theorem ok_law_outcome_of (F : Fun K "_law_outcome_of" "_law_outcome_of" s_law_outcome_of f fd) (bl : Bl K mg cTableError cBadName cTooMany cBadWay cBadRow cWay cFirst cOnly cLike cLow cHigh cSum cDomain cNumbers cWords cTable)  : FnOk P w K mg base CX0 1 f fd ["made", "kinds"] (sp_law_outcome_of K cTableError cBadName cTooMany cBadWay cBadRow cWay cFirst cOnly cLike cLow cHigh cSum cDomain cNumbers cWords cTable) := by
  refine F.ok sc_law_outcome_of (fun vs H Q E h => ?_) (fun cdv A outer s H vs Q E hr h => ?_)
  · obtain ⟨mv, kl, k, rfl, hk, q⟩ := h
    rfl
  obtain ⟨mv, kl, k, rfl, hk, q⟩ := h
  refine ⟨_, (pss_cons (ps_if (PW.pt (pw_and (pt_val (pe_callB call_isiG rfl bl.isinstance_ PyProof.Rows.boot_isinstance (pa_cons (pv 0) (pa_cons (pe_glob (v := .ref cTable) rfl bl.Table_ rfl) pa_nil)))) (pw_and1 (pt_cmpR (op_eqL hr) (pv 1) (pe_lst pa_nil) (nomark _)))))
     (pss_one (ps_ret pe_str))
     pss_nil)
     (pss_cons (ps_for PassesOwn.never rfl (pi_enum rfl bl.enumerate_ (pa_cons (pe_lst (pa_cons pe_str (pa_cons pe_str (pa_cons pe_str (pa_cons pe_str pa_nil))))) pa_nil)) (pg_tup rfl (pgs_cons (pg_name (i := 2) sc_law_outcome_of.nd rfl (Or.inl rfl)) (pgs_cons (pg_name (i := 3) sc_law_outcome_of.nd rfl (Or.inl rfl)) pgs_nil)))
     (pss_one (ps_if (pt_cmpR (op_eqL hr) (pv 1) (pe_lst (pa_cons pe_bl (pa_cons (pe_cmpR op_eq (pv 2) pe_int (nomark _)) (pa_cons (pe_cmpR op_eq (pv 2) pe_int (nomark _)) (pa_cons (pe_cmpR op_eq (pv 2) pe_int (nomark _)) (pa_cons (pe_cmpR op_eq (pv 2) pe_int (nomark _)) pa_nil)))))) (nomark _))
     (pss_one (ps_ret (pv 3)))
     pss_nil)))
     (pss_one (ps_ret pe_str)))), ?_⟩
  rcases hk with ⟨rfl, ⟨x, dx, fs, rfl, hx⟩, ek⟩ | ⟨k1, k4, rfl, ek⟩
  · refine ⟨_, rfl, _, _, _, _, true, rfl, .ref _, bl.t_Table.ty hx, bl.f_tt, _, rfl, iteT ?_⟩
    refine ⟨_, rfl, (by show 0 ≤ sizeLine; decide), fun p hp => rEqL_bls (xs := []) (ys := []) (r := true) (SqL.of (same_new hp _ _ _ ek)) (SqL.of upd_same) (by simp) ⟨_, rfl, iteT (q _ (same_new hp _))⟩⟩
  · refine ⟨_, rfl, _, _, _, _, false, rfl, .ref _, .inl .non, bl.f_none, _, rfl, iteF (iteF ?_)⟩
    refine ⟨(by show 4 ≤ sizeLine; decide), fun l hl => ?_⟩
    have s1 : Same H (upd H l (.lst (four.map V.str))) := same_new hl _
    have el : upd H l (.lst (four.map V.str)) l = some (.lst (four.map V.str)) := upd_same
    generalize hH1 : upd H l (.lst (four.map V.str)) = H1 at s1 el
    have hH2 : upd H l (.lst [V.str (Str.ofString "BadName"), V.str (Str.ofString "TooMany"), V.str (Str.ofString "BadWay"), V.str (Str.ofString "BadRow")]) = H1 := hH1
    rw [hH2]
    refine ⟨l, rfl, ⟨_, SqL.of el⟩, for_enum (xs := four.map V.str) (fun i σ H' => Same H H' ∧ Same H1 H' ∧ i < k ∧ ∃ c2 c3 : Option V, σ = [some .non, some (.ref kl), c2, c3]) ⟨s1, Same.refl _, by omega, _, _, rfl⟩ (fun i σ H' hh => SqL.of (hh.2.1 _ _ el)) (fun i y σ H' T ey hh hT => ?_) (fun σ H' hh => ?_)⟩
    · obtain ⟨sm, sm1, hik, c2, c3, rfl⟩ := hh
      obtain ⟨hi4, rfl⟩ := four_get ey
      have sT := same_new hT (.tup [.int i, .str (out5 (i + 1))])
      have eT : upd H' T (.tup [.int i, .str (out5 (i + 1))]) T = some (.tup [.int i, .str (out5 (i + 1))]) := upd_same
      generalize upd H' T (.tup [.int i, .str (out5 (i + 1))]) = H2 at sT eT ⊢
      refine ⟨T, _, rfl, SqT.of eT, rfl, _, _, rfl, _, _, rfl, rfl, ?_⟩
      have ek2 := (sm.trans sT) _ _ ek
      refine ⟨_, rfl, _, rfl, rfl, _, rfl, rfl, _, rfl, rfl, _, rfl, rfl, (by show 5 ≤ sizeLine; decide), fun p hp => ?_⟩
      refine rEqL_bls (xs := kinds5 k) (ys := [true, decide (V.int (i : Int) = V.int 0), decide (V.int (i : Int) = V.int 1), decide (V.int (i : Int) = V.int 2), decide (V.int (i : Int) = V.int 3)]) (r := decide (i + 1 = k)) (SqL.of (same_new hp _ _ _ ek2)) (SqL.of upd_same) (kinds_eq k1 k4 hi4) ⟨_, rfl, ?_⟩
      have sP := same_new hp (.lst [V.bl true, .bl (decide (V.int (i : Int) = V.int 0)), .bl (decide (V.int (i : Int) = V.int 1)), .bl (decide (V.int (i : Int) = V.int 2)), .bl (decide (V.int (i : Int) = V.int 3))])
      by_cases h : i + 1 = k
      · refine iteTS h ⟨_, rfl, ?_⟩
        rw [h]
        exact q _ ((sm.trans sT).trans sP)
      · exact iteFS h ⟨(sm.trans sT).trans sP, (sm1.trans sT).trans sP, by omega, _, _, rfl⟩
    · obtain ⟨_, _, hik, _⟩ := hh
      have : (four.map V.str).length = 4 := rfl
      rw [this] at hik
      omega
theorem ok_law_own (F : Fun K "_law_own" "_law_own" s_law_own f fd) (bl : Bl K mg cTableError cBadName cTooMany cBadWay cBadRow cWay cFirst cOnly cLike cLow cHigh cSum cDomain cNumbers cWords cTable)  : FnOk P w K mg base CX0 1 f fd ["row"] (sp_law_own K cTableError cBadName cTooMany cBadWay cBadRow cWay cFirst cOnly cLike cLow cHigh cSum cDomain cNumbers cWords cTable) := by
  refine F.ok sc_law_own (fun vs H Q E h => ?_) (fun cdv A outer s H vs Q E hr h => ?_)
  · obtain ⟨r0, w_, rfl, hr0, h4, q⟩ := h
    rfl
  obtain ⟨r0, w_, rfl, hr0, h4, q⟩ := h
  refine ⟨_, (pss_one (ps_ret (pe_tup (pa_cons (pe_comp (pi_list (pe_ix ix_tup (pv 0) pe_int (fun _ _ => rfl))) (cmpOk_plain rfl (by decide +kernel) (by decide +kernel) (by decide +kernel) rfl) rfl (fun _ _ _ _ => pif_nil) (fun _ _ _ _ => (pe_callTy (call_list_ofK (K := K) rfl) rfl bl.list_ PyProof.Rows.boot_list (pa_cons (pv 0) pa_nil)))) (pa_cons (pe_ix ix_tup (pv 0) pe_int (fun _ _ => rfl)) pa_nil))))), ?_⟩
  obtain ⟨c0, xs, e1, _, e2, hcl⟩ := hr0
  refine ⟨_, rfl, r0, _, _, _, rfl, rfl, SqT.of e1, rfl, c0, rfl, ⟨_, SqL.of e2⟩, comp_list (xs := xs) (fun D i zs H' => Same H H' ∧ H' D = some (.lst zs) ∧ (∃ ls : List Addr, zs = ls.map V.ref ∧ ∀ l ∈ ls, H l = none ∧ l ≠ D) ∧ CL (Fr H D) H' zs (w_.1.take i))
    (fun D hD => ⟨same_new hD _, upd_same, ⟨[], rfl, (fun l hl => by cases hl)⟩, RefL.nil⟩) (fun D i zs H' hD _ h => SqL.of (h.1 _ _ e2)) (fun D i x zs H' hD e h => ?_) (fun D zs H' hD h => ?_)⟩
  · obtain ⟨sm, eD, ⟨ls, rfl, hls⟩, hz⟩ := h
    obtain ⟨l, ps, rfl, ep, hl⟩ := RefL.get hcl e
    obtain ⟨_, ys, el, hp⟩ := hl.same sm
    have hi : i < xs.length := (List.getElem?_eq_some_iff.mp e).1
    have hlz : (ls.map V.ref).length < sizeLine := by
      have h1 := hz.1
      rw [List.length_take] at h1
      exact small1000 (by omega)
    refine ⟨_, rfl, l, _, rfl, .inl (SqL.of el), fun l2 hl2 => ?_⟩
    have s2 := same_new hl2 (.lst ys)
    have e3 : upd H' l2 (.lst ys) l2 = some (.lst ys) := upd_same
    have eD2 := s2 _ _ eD
    generalize upd H' l2 (.lst ys) = H2 at s2 e3 eD2 ⊢
    have n2 : H l2 = none := sm.free hl2
    have nD : l2 ≠ D := fun z => by rw [z, eD] at hl2; cases hl2
    refine CYes.mk hi eD2 hlz ⟨(sm.trans s2).upd hD, upd_same, ⟨ls ++ [l2], by simp, fun k hk => ?_⟩, ?_⟩
    · rcases List.mem_append.mp hk with hk | hk
      · exact hls k hk
      · rw [show k = l2 by simpa using hk]; exact ⟨n2, nD⟩
    · rw [take_snoc ep]
      exact CL.updN (RefL.snoc (hz.same s2) ⟨⟨n2, nD⟩, ys, e3, hp.mono s2.tups⟩) Fr.out eD2
  · obtain ⟨sm, eD, ⟨ls, rfl, hls⟩, hz⟩ := h
    rw [hcl.1, List.take_length] at hz
    refine ⟨_, rfl, r0, _, _, _, rfl, rfl, SqT.of (sm _ _ e1), rfl, small2, fun r hr' => ?_⟩
    have sr := same_new hr' (.tup [.ref D, .int w_.2])
    exact q r D ls _ (sm.trans sr) (sm.free hr') hD upd_same (sr _ _ eD) hls ⟨D, _, upd_same, hD, sr _ _ eD, (hz.same sr).wk fun a h => h.1⟩
theorem ok_law_bad_names (F : Fun K "_law_bad_names" "_law_bad_names" s_law_bad_names f fd) (bl : Bl K mg cTableError cBadName cTooMany cBadWay cBadRow cWay cFirst cOnly cLike cLow cHigh cSum cDomain cNumbers cWords cTable)  : FnOk P w K mg base CX0 1 f fd ["name", "names", "turn"] (sp_law_bad_names K cTableError cBadName cTooMany cBadWay cBadRow cWay cFirst cOnly cLike cLow cHigh cSum cDomain cNumbers cWords cTable) := by
  refine F.ok sc_law_bad_names (fun vs H Q E h => ?_) (fun cdv A outer s H vs Q E hr h => ?_)
  · obtain ⟨nm, na, zs, t, rfl, hna, h10, hsm, q⟩ := h
    rfl
  obtain ⟨nm, na, zs, t, rfl, hna, h10, hsm, q⟩ := h
  refine ⟨_, (pss_cons (ps_set (i := 3) sc_law_bad_names.nd rfl (Or.inl rfl) (pe_op op_cat (pe_lst (pa_cons (pv 0) pa_nil)) (pv 1)))
     (pss_cut (ps_set (i := 4) sc_law_bad_names.nd rfl (Or.inl rfl) (pe_op op_mod (pv 2) (pe_callB call_len_seq rfl bl.len_ PySem.boot_len (pa_cons (pv 3) pa_nil))))
     (pss_cut (ps_if (PW.pt (pw_and (pt_cmpR op_eq (pe_op op_mod (pe_op op_fdiv (pv 2) pe_int) pe_int) pe_int (nomark _)) (pw_and1 (pt_cmpR op_gt (pe_callB call_len_seq rfl bl.len_ PySem.boot_len (pa_cons (pv 3) pa_nil)) pe_int (nomark _)))))
     (pss_one (ps_asg (pe_ix ix_list (pv 3) (pe_op op_sub (pe_op op_sub (pv 4) pe_int) (pe_op op_mod (pe_op op_fdiv (pv 2) pe_int) (pe_op op_sub (pe_callB call_len_seq rfl bl.len_ PySem.boot_len (pa_cons (pv 3) pa_nil)) pe_int))) (fun _ _ => rfl)) (pg_sub (pv 3) (pv 4) set_list)))
     (pss_one (ps_asg (pe_ix ix_list (pe_lst (pa_cons pe_str (pa_cons pe_str (pa_cons pe_str (pa_cons pe_str (pa_cons pe_str (pa_cons pe_str pa_nil))))))) (pe_op op_mod (pe_op op_fdiv (pv 2) pe_int) pe_int) (fun _ _ => rfl)) (pg_sub (pv 3) (pv 4) set_list))))
     (pss_one (ps_ret (pv 3)))))), ?_⟩
  have hzl : (zs.map V.str).length = zs.length := List.length_map _
  refine ⟨_, rfl, (by show 1 ≤ sizeLine; decide), fun l1 hl1 => ?_⟩
  have s1 := same_new hl1 (.lst [.str nm])
  have e1 : upd H l1 (.lst [.str nm]) l1 = some (.lst [.str nm]) := upd_same
  generalize upd H l1 (.lst [.str nm]) = H1 at s1 e1 ⊢
  refine ⟨_, rfl, l1, na, _, _, rfl, rfl, e1, s1 _ _ hna, (by rw [hzl]; show 1 + zs.length ≤ sizeLine; exact big (by omega)), fun l hl => ?_⟩
  have hl0 : H l = none := s1.free hl
  have s2 := s1.trans (same_new hl (.lst ([V.str nm] ++ zs.map V.str)))
  have e2 : upd H1 l (.lst ([V.str nm] ++ zs.map V.str)) l = some (.lst ((nm :: zs).map V.str)) := upd_same
  generalize upd H1 l (.lst ([V.str nm] ++ zs.map V.str)) = H2 at s2 e2 ⊢
  generalize hys : nm :: zs = ys at e2 hsm
  have hyl : ys.length = zs.length + 1 := by rw [← hys]; rfl
  have hml : (ys.map V.str).length = ys.length := List.length_map _
  have pos : (0 : Int) < (((ys.map V.str).length : Nat) : Int) := by rw [hml, hyl]; omega
  have a0 := Int.emod_nonneg t (Int.ne_of_gt pos)
  have a1 := Int.emod_lt_of_pos t pos
  refine ⟨fun σ' H' => H' = H2 ∧ ∃ i : Nat, i < ys.length ∧ σ' = [some (.str nm), some (.ref na), some (.int t), some (.ref l), some (.int i)], ?_, ?_⟩
  · refine ⟨_, rfl, _, rfl, l, _, rfl, .inl (SqL.of e2), _, _, rfl, rfl, pos, rfl, (t % (((ys.map V.str).length : Nat) : Int)).toNat, by rw [hml] at a1 ⊢; omega, ?_⟩
    rw [Int.toNat_of_nonneg a0]; rfl
  rintro σ1 H3 ⟨rfl, i, hi, rfl⟩
  have hix : ixN (ys.map V.str).length (i : Int) = some i := by
    unfold ixN
    rw [if_pos (by omega), if_pos (by rw [hml]; omega)]
    rfl
  refine ⟨fun σ' H' => Same H H' ∧ ∃ us : List Str, H' l = some (.lst (us.map V.str)) ∧ us.length = zs.length + 1 ∧ (∀ y ∈ us, Sm 600 y) ∧ ¬ NmOk us ∧ σ' = [some (.str nm), some (.ref na), some (.int t), some (.ref l), some (.int i)], ?_, ?_⟩
  · obtain ⟨z6, hz6, ez6⟩ := at_strs (zs := bad6) (k := t / 15 % 6) (Int.emod_nonneg _ (by decide)) (Int.emod_lt_of_pos _ (by show (0 : Int) < 6; decide))
    have other : ∀ (p : Addr) (hp : H3 p = none), Same H (upd (upd H3 p (.lst (bad6.map V.str))) l (.lst ((ys.map V.str).set i (.str z6)))) ∧ ∃ us : List Str, upd (upd H3 p (.lst (bad6.map V.str))) l (.lst ((ys.map V.str).set i (.str z6))) l = some (.lst (us.map V.str)) ∧ us.length = zs.length + 1 ∧ (∀ y ∈ us, Sm 600 y) ∧ ¬ NmOk us ∧ ([some (.str nm), some (.ref na), some (.int t), some (.ref l), some (.int (i : Int))] : St) = [some (.str nm), some (.ref na), some (.int t), some (.ref l), some (.int i)] := fun p hp => by
      refine ⟨(s2.trans (same_new hp _)).upd hl0, ys.set i z6, by rw [upd_same, List.map_set], by rw [List.length_set]; exact hyl, fun y hy => ?_, set_bad hi (bad6_ok z6 hz6).1, rfl⟩
      rcases List.mem_or_eq_of_mem_set hy with h | h
      · exact hsm y h
      · rw [h]; exact bad6_sm z6 hz6
    refine ⟨_, rfl, _, _, rfl, rfl, ⟨by decide, by decide⟩, _, _, rfl, rfl, (by show (0 : Int) < 3; decide), rfl, _, rfl, ite2 (fun _ => ?_) (fun _ => iteF ?_)⟩
    · refine ⟨_, rfl, l, _, rfl, .inl (SqL.of e2), _, _, rfl, rfl, _, rfl, ite2 (fun g => ?_) (fun _ => ?_)⟩
      · have g' := dec_t g
        rw [hml] at g'
        have pos2 : (0 : Int) < (((ys.map V.str).length : Nat) : Int) - 1 := by rw [hml]; omega
        have r0 := Int.emod_nonneg (t / 45) (Int.ne_of_gt pos2)
        have r1 := Int.emod_lt_of_pos (t / 45) pos2
        obtain ⟨z, j, ej, nj, ev⟩ := at_back (k := (i : Int) - 1 - t / 45 % ((((ys.map V.str).length : Nat) : Int) - 1)) hi r0 (by rw [hml] at r1 ⊢; exact r1) rfl
        refine ⟨_, rfl, _, rfl, _, _, rfl, rfl, _, rfl, _, _, rfl, rfl, ⟨by decide, by decide⟩, _, rfl, l, _, rfl, .inl (SqL.of e2), _, _, rfl, rfl, _, _, rfl, rfl, pos2, _, _, rfl, rfl, l, _, _, _, rfl, rfl, SqL.of e2, ev, _, rfl, _, rfl, l, _, _, _, rfl, rfl, e2, hix, ?_⟩
        refine ⟨s2.upd hl0, ys.set i z, by rw [upd_same, List.map_set], by rw [List.length_set]; exact hyl, fun y hy => ?_, set_dup hi ej nj, rfl⟩
        rcases List.mem_or_eq_of_mem_set hy with h | h
        · exact hsm y h
        · rw [h]; exact hsm z (List.mem_of_getElem? ej)
      · exact ⟨(by show 6 ≤ sizeLine; decide), fun p hp => ⟨_, rfl, _, _, rfl, rfl, ⟨by decide, by decide⟩, _, _, rfl, rfl, (by show (0 : Int) < 6; decide), p, _, _, _, rfl, rfl, SqL.of upd_same, ez6, _, rfl, _, rfl, l, _, _, _, rfl, rfl, same_new hp _ _ _ e2, hix, other p hp⟩⟩
    · exact ⟨(by show 6 ≤ sizeLine; decide), fun p hp => ⟨_, rfl, _, _, rfl, rfl, ⟨by decide, by decide⟩, _, _, rfl, rfl, (by show (0 : Int) < 6; decide), p, _, _, _, rfl, rfl, SqL.of upd_same, ez6, _, rfl, _, rfl, l, _, _, _, rfl, rfl, same_new hp _ _ _ e2, hix, other p hp⟩⟩
  rintro σ4 H4 ⟨s4, us, e4, l4, m4, n4, rfl⟩
  exact ⟨_, rfl, q l us H4 s4 e4 l4 m4 n4⟩
theorem ok_law_bad_row (F : Fun K "_law_bad_row" "_law_bad_row" s_law_bad_row f fd) (bl : Bl K mg cTableError cBadName cTooMany cBadWay cBadRow cWay cFirst cOnly cLike cLow cHigh cSum cDomain cNumbers cWords cTable)  : FnOk P w K mg base CX0 1 f fd ["row", "columns", "out", "turn"] (sp_law_bad_row K cTableError cBadName cTooMany cBadWay cBadRow cWay cFirst cOnly cLike cLow cHigh cSum cDomain cNumbers cWords cTable) := by
  refine F.ok sc_law_bad_row (fun vs H Q E h => ?_) (fun cdv A outer s H vs Q E hr h => ?_)
  · obtain ⟨r0, cl, ol, w_, xs, bs, o, t, rfl, ⟨ce, cs, er, _, ec, hcl⟩, hxs, hco, n1, n4, ⟨wo, zo, _, _, eo, ewo, rok⟩, ok, h4p, q⟩ := h
    rfl
  obtain ⟨r0, cl, ol, w_, xs, bs, o, t, rfl, ⟨ce, cs, er, _, ec, hcl⟩, hxs, hco, n1, n4, ⟨wo, zo, _, _, eo, ewo, rok⟩, ok, h4p, q⟩ := h
  refine ⟨_, (pss_cons (ps_set (i := 4) sc_law_bad_row.nd rfl (Or.inl rfl) (pe_op op_mod (pv 3) (pe_callB call_len_seq rfl bl.len_ PySem.boot_len (pa_cons (pv 1) pa_nil))))
     (pss_cut (ps_set (i := 5) sc_law_bad_row.nd rfl (Or.inl rfl) (pe_callTy call_list_of rfl bl.list_ PyProof.Rows.boot_list (pa_cons (pe_ix ix_tup (pv 0) pe_int (fun _ _ => rfl)) pa_nil)))
     (pss_cons (ps_set (i := 6) sc_law_bad_row.nd rfl (Or.inl rfl) (pe_op op_mod (pe_op op_fdiv (pv 3) pe_int) pe_int))
     (pss_cons (ps_if (pt_cmpR op_eq (pv 6) pe_int (nomark _))
     (pss_one (ps_ret (pe_tup (pa_cons (pe_op op_cat (pe_slice sl_list (pv 5) po_none (po_some (pv 4))) (pe_slice sl_list (pv 5) (po_some (pe_op op_add (pv 4) pe_int)) po_none)) (pa_cons (pe_ix ix_tup (pv 0) pe_int (fun _ _ => rfl)) pa_nil)))))
     pss_nil)
     (pss_cons (ps_if (pt_cmpR op_eq (pv 6) pe_int (nomark _))
     (pss_one (ps_ret (pe_tup (pa_cons (pe_op op_cat (pv 5) (pe_lst (pa_cons (pe_lst pa_nil) pa_nil))) (pa_cons (pe_ix ix_tup (pv 0) pe_int (fun _ _ => rfl)) pa_nil)))))
     pss_nil)
     (pss_cut (ps_if (pt_cmpR op_eq (pv 6) pe_int (nomark _))
     (pss_one (ps_asg (pe_lst (pa_cons (pe_tup (pa_cons (pe_op op_sub (pe_ix ix_list (pe_ix ix_list (pv 1) (pv 4) (fun _ _ => rfl)) pe_int (fun _ _ => rfl)) pe_int) (pa_cons (pe_ix ix_list (pe_ix ix_list (pv 1) (pv 4) (fun _ _ => rfl)) pe_int (fun _ _ => rfl)) pa_nil))) pa_nil)) (pg_sub (pv 5) (pv 4) set_list)))
     pss_nil)
     (pss_cut (ps_if (pt_cmpR op_eq (pv 6) pe_int (nomark _))
     (pss_one (ps_asg (pe_op op_cat (pe_ix ix_list (pv 5) (pv 4) (fun _ _ => rfl)) (pe_lst (pa_cons (pe_tup (pa_cons (pe_op op_add (pe_ix ix_list (pe_ix ix_list (pv 1) (pv 4) (fun _ _ => rfl)) pe_int (fun _ _ => rfl)) pe_int) (pa_cons (pe_op op_add (pe_ix ix_list (pe_ix ix_list (pv 1) (pv 4) (fun _ _ => rfl)) pe_int (fun _ _ => rfl)) pe_int) pa_nil))) pa_nil))) (pg_sub (pv 5) (pv 4) set_list)))
     pss_nil)
     (pss_cons (ps_if (pt_cmpR op_eq (pv 6) pe_int (nomark _))
     (pss_one (ps_ret (pe_tup (pa_cons (pv 5) (pa_cons (pe_op op_sub (pe_op op_sub (pe_ix ix_list (pv 2) pe_int (fun _ _ => rfl)) pe_int) (pe_op op_mod (pe_op op_fdiv (pv 3) pe_int) pe_int)) pa_nil)))))
     pss_nil)
     (pss_cons (ps_if (pt_cmpR op_eq (pv 6) pe_int (nomark _))
     (pss_one (ps_ret (pe_tup (pa_cons (pv 5) (pa_cons (pe_op op_add (pe_op op_add (pe_ix ix_list (pv 2) pe_int (fun _ _ => rfl)) pe_int) (pe_op op_mod (pe_op op_fdiv (pv 3) pe_int) pe_int)) pa_nil)))))
     pss_nil)
     (pss_one (ps_ret (pe_tup (pa_cons (pv 5) (pa_cons (pe_ix ix_tup (pv 0) pe_int (fun _ _ => rfl)) pa_nil)))))))))))))), ?_⟩
  have hxl : xs.length = bs.length := hco.1
  have hcl1 : cs.length = bs.length := by rw [hcl.1, ok.len]
  have pos : (0 : Int) < ((xs.length : Nat) : Int) := by omega
  have a0 := Int.emod_nonneg t (Int.ne_of_gt pos)
  have a1 := Int.emod_lt_of_pos t pos
  refine ⟨_, rfl, _, rfl, cl, _, rfl, .inl (SqL.of hxs), _, _, rfl, rfl, pos, ?_⟩
  obtain ⟨i, ei⟩ : ∃ i : Nat, t % ((xs.length : Nat) : Int) = (i : Int) := ⟨(t % ((xs.length : Nat) : Int)).toNat, by omega⟩
  rw [ei] at a0 a1
  have hi : i < bs.length := by omega
  obtain ⟨b, eb⟩ : ∃ b, bs[i]? = some b := ⟨_, List.getElem?_eq_getElem hi⟩
  obtain ⟨lc, elc, wc, zc, _, _, ecol, _, okc⟩ := hco.2 i b eb
  obtain ⟨ps, eps⟩ : ∃ ps, w_.1[i]? = some ps := ⟨_, List.getElem?_eq_getElem (by rw [ok.len]; exact hi)⟩
  obtain ⟨ls, els, _, ys, el0, hpl⟩ := hcl.2 i ps eps
  refine ⟨fun σ' H' => Same H H' ∧ ∃ c : Addr, H c = none ∧ H' c = some (.lst cs) ∧ σ' = [some (.ref r0), some (.ref cl), some (.ref ol), some (.int t), some (.int i), some (.ref c), none], ?_, ?_⟩
  · refine ⟨_, rfl, r0, _, _, _, rfl, rfl, SqT.of er, rfl, ce, _, rfl, .inl (SqL.of ec), fun c hc => ⟨same_new hc _, c, hc, upd_same, ?_⟩⟩
    rw [← ei]; rfl
  rintro σ1 H1 ⟨s1, c, hc0, ecs, rfl⟩
  refine ⟨_, rfl, _, _, rfl, rfl, ⟨by decide, by decide⟩, _, _, rfl, rfl, (by show (0 : Int) < 6; decide), ?_⟩
  have w0 := Int.emod_nonneg (t / 4) (show (6 : Int) ≠ 0 by decide)
  have w1 := Int.emod_lt_of_pos (t / 4) (show (0 : Int) < 6 by decide)
  have hC1 : CL NT H1 cs w_.1 := CL.same hcl s1
  have bw : bnd w_.2 := bnd_of rok.bd (by have := ok.lo; omega) (by have := ok.hi; omega)
  have er1 := s1 _ _ er
  refine ⟨_, rfl, rfl, _, rfl, ite2 (fun g => ?_) (fun g0 => ?_)⟩
  · refine ⟨_, rfl, _, rfl, _, rfl, c, _, rfl, SqL.of ecs, fun c1 hc1 => ?_⟩
    rw [cutV_to cs (by omega)]
    have s2 := same_new hc1 (.lst (cs.take i))
    have e2 : upd H1 c1 (.lst (cs.take i)) c1 = some (.lst (cs.take i)) := upd_same
    generalize upd H1 c1 (.lst (cs.take i)) = H2 at s2 e2 ⊢
    refine ⟨_, rfl, _, rfl, _, _, rfl, rfl, _, rfl, c, _, rfl, SqL.of (s2 _ _ ecs), fun c2 hc2 => ?_⟩
    rw [show (i : Int) + 1 = ((i + 1 : Nat) : Int) by omega, cutV_from cs (by omega)]
    have s3 := same_new hc2 (.lst (cs.drop (i + 1)))
    have e3 : upd H2 c2 (.lst (cs.drop (i + 1))) c2 = some (.lst (cs.drop (i + 1))) := upd_same
    generalize upd H2 c2 (.lst (cs.drop (i + 1))) = H3 at s3 e3 ⊢
    refine ⟨c1, c2, _, _, rfl, rfl, s3 _ _ e2, e3, Nat.le_of_lt (small1000 (by rw [List.length_take, List.length_drop]; omega)), fun p hp => ?_⟩
    have s4 := same_new hp (.lst (cs.take i ++ cs.drop (i + 1)))
    have e4 : upd H3 p (.lst (cs.take i ++ cs.drop (i + 1))) p = some (.lst (cs.take i ++ cs.drop (i + 1))) := upd_same
    generalize upd H3 p (.lst (cs.take i ++ cs.drop (i + 1))) = H4 at s4 e4 ⊢
    have sA := (s2.trans s3).trans s4
    refine ⟨_, rfl, r0, _, _, _, rfl, rfl, SqT.of (sA _ _ er1), rfl, small2, fun r hr' => ?_⟩
    have sr := same_new hr' (.tup [.ref p, .int w_.2])
    have hlen : (w_.1.take i ++ w_.1.drop (i + 1)).length ≠ bs.length := by rw [List.length_append, List.length_take, List.length_drop, ok.len]; omega
    refine q r (w_.1.take i ++ w_.1.drop (i + 1), w_.2) _ ((s1.trans sA).trans sr) ⟨p, _, upd_same, trivial, sr _ _ e4, ?_⟩ (fun h => hlen h.len) bw (by rw [List.length_append, List.length_take, List.length_drop, ok.len]; omega)
    exact CL.same (RefL.append (RefL.take hC1 i) (RefL.drop hC1 (i + 1))) (sA.trans sr)
  refine ⟨_, rfl, rfl, _, rfl, ite2 (fun g => ?_) (fun g1 => ?_)⟩
  · refine ⟨_, rfl, (by show 0 ≤ sizeLine; decide), fun l1 hl1 => ?_⟩
    have s2 := same_new hl1 (.lst [])
    have e2 : upd H1 l1 (.lst []) l1 = some (.lst []) := upd_same
    generalize upd H1 l1 (.lst []) = H2 at s2 e2 ⊢
    refine ⟨(by show 1 ≤ sizeLine; decide), fun l2 hl2 => ?_⟩
    have s3 := same_new hl2 (.lst [.ref l1])
    have e3 : upd H2 l2 (.lst [.ref l1]) l2 = some (.lst [.ref l1]) := upd_same
    generalize upd H2 l2 (.lst [.ref l1]) = H3 at s3 e3 ⊢
    refine ⟨c, l2, _, _, rfl, rfl, (s2.trans s3) _ _ ecs, e3, Nat.le_of_lt (small1000 (by show cs.length + 1 ≤ 1000; omega)), fun p hp => ?_⟩
    have s4 := same_new hp (.lst (cs ++ [.ref l1]))
    have e4 : upd H3 p (.lst (cs ++ [.ref l1])) p = some (.lst (cs ++ [.ref l1])) := upd_same
    generalize upd H3 p (.lst (cs ++ [.ref l1])) = H4 at s4 e4 ⊢
    have sA := (s2.trans s3).trans s4
    refine ⟨_, rfl, r0, _, _, _, rfl, rfl, SqT.of (sA _ _ er1), rfl, small2, fun r hr' => ?_⟩
    have sr := same_new hr' (.tup [.ref p, .int w_.2])
    have hlen : (w_.1 ++ [[]]).length ≠ bs.length := by rw [List.length_append, List.length_singleton, ok.len]; omega
    refine q r (w_.1 ++ [[]], w_.2) _ ((s1.trans sA).trans sr) ⟨p, _, upd_same, trivial, sr _ _ e4, ?_⟩ (fun h => hlen h.len) bw (by rw [List.length_append, List.length_singleton, ok.len]; omega)
    have hn : SpA NT H2 l1 [] := ⟨trivial, [], e2, .nil⟩
    exact CL.same (RefL.snoc (RefL.mono hC1 fun _ _ p => p.same s2) hn) ((s3.trans s4).trans sr)
  have ecol1 := s1 _ _ ecol
  have hxs1 := s1 _ _ hxs
  have elc' : atI xs (i : Int) = some (.ref lc) := atI_nat elc
  have hixc : ixN cs.length (i : Int) = some i := by
    unfold ixN
    rw [if_pos (by omega), if_pos (by omega)]
    rfl
  refine ⟨fun σ' H' => Same H H' ∧ ∃ (zs : List V) (pss : List Prs), H' c = some (.lst zs) ∧ CL NT H' zs pss ∧ pss.length = bs.length ∧ ((t / 4 % 6 = 2 ∧ ∀ o' k, ¬ RowOk bs o' (pss, k)) ∨ (t / 4 % 6 ≠ 2 ∧ zs = cs ∧ pss = w_.1)) ∧ σ' = [some (.ref r0), some (.ref cl), some (.ref ol), some (.int t), some (.int i), some (.ref c), some (.int (t / 4 % 6))], ?_, ?_⟩
  · refine ⟨_, rfl, rfl, _, rfl, ite2 (fun g => ?_) (fun g => ⟨s1, cs, w_.1, ecs, hC1, ok.len, .inr ⟨(fun h => g (decide_eq_true (congrArg V.int h))), rfl, rfl⟩, rfl⟩)⟩
    have wy2 : t / 4 % 6 = 2 := V.int.inj (of_decide_eq_true g)
    refine ⟨_, rfl, _, rfl, cl, _, _, _, rfl, rfl, SqL.of hxs1, elc', lc, _, _, _, rfl, rfl, SqL.of ecol1, rfl, _, _, rfl, rfl, _, rfl, _, rfl, cl, _, _, _, rfl, rfl, SqL.of hxs1, elc', lc, _, _, _, rfl, rfl, SqL.of ecol1, rfl, small2, fun t1 ht1 => ?_⟩
    have s2 := same_new ht1 (.tup [.int (b.1 - 1), .int b.1])
    have e2 : upd H1 t1 (.tup [.int (b.1 - 1), .int b.1]) t1 = some (.tup [.int (b.1 - 1), .int b.1]) := upd_same
    generalize upd H1 t1 (.tup [.int (b.1 - 1), .int b.1]) = H2 at s2 e2 ⊢
    refine ⟨(by show 1 ≤ sizeLine; decide), fun l1 hl1 => ?_⟩
    have s3 := same_new hl1 (.lst [.ref t1])
    have e3 : upd H2 l1 (.lst [.ref t1]) l1 = some (.lst [.ref t1]) := upd_same
    have e2 := s3 _ _ e2
    generalize upd H2 l1 (.lst [.ref t1]) = H3 at s3 e3 e2 ⊢
    have sA := s2.trans s3
    have ecs3 := sA _ _ ecs
    have hn : SpA NT (upd H3 c (.lst (cs.set i (.ref l1)))) l1 [(b.1 - 1, b.1)] := by
      have nl : l1 ≠ c := fun z => by rw [z, s2 _ _ ecs] at hl1; cases hl1
      exact ⟨trivial, _, (upd_ne nl).trans e3, PL.snoc (xs := []) (ps := []) .nil ((upd_ne (ne_of e2 ecs3 (by intro z; cases z))).trans e2)⟩
    have sC : Same H (upd H3 c (.lst (cs.set i (.ref l1)))) := (s1.trans sA).upd hc0
    refine ⟨_, rfl, _, rfl, c, _, _, _, rfl, rfl, ecs3, hixc, sC, _, w_.1.set i [(b.1 - 1, b.1)], upd_same, RefL.set (CL.same hcl sC) hn, by rw [List.length_set]; exact ok.len, .inl ⟨wy2, fun o' k => RowOk.no (j := i) (b := b) (p := (b.1 - 1, b.1)) (List.getElem?_set_self (by rw [ok.len]; exact hi)) eb (by simp) (fun h => by have := h.1; show False; have : b.1 ≤ b.1 - 1 := this; omega)⟩, rfl⟩
  rintro σ2 H2 ⟨s2, zs, pss, ez, hC2, hl2, hb2, rfl⟩
  refine ⟨fun σ' H' => Same H H' ∧ ∃ (zs : List V) (pss : List Prs), H' c = some (.lst zs) ∧ CL NT H' zs pss ∧ pss.length = bs.length ∧ (t / 4 % 6 = 2 ∨ t / 4 % 6 = 3 → ∀ o' k, ¬ RowOk bs o' (pss, k)) ∧ σ' = [some (.ref r0), some (.ref cl), some (.ref ol), some (.int t), some (.int i), some (.ref c), some (.int (t / 4 % 6))], ?_, ?_⟩
  · refine ⟨_, rfl, rfl, _, rfl, ite2 (fun g => ?_) (fun g => ⟨s2, zs, pss, ez, hC2, hl2, fun h => ?_, rfl⟩)⟩
    rotate_left
    · rcases h with h | h
      · rcases hb2 with ⟨_, hb2⟩ | ⟨hn, _⟩
        · exact hb2
        · exact absurd h hn
      · exact absurd (decide_eq_true (congrArg V.int h)) g
    have wy3 : t / 4 % 6 = 3 := V.int.inj (of_decide_eq_true g)
    rcases hb2 with ⟨h, _⟩ | ⟨_, rfl, rfl⟩
    · omega
    have els' : atI zs (i : Int) = some (.ref ls) := atI_nat els
    have el2 := s2 _ _ el0
    have ecol2 := s2 _ _ ecol
    have hxs2 := s2 _ _ hxs
    refine ⟨_, rfl, _, rfl, c, _, _, _, rfl, rfl, SqL.of ez, els', _, rfl, _, rfl, cl, _, _, _, rfl, rfl, SqL.of hxs2, elc', lc, _, _, _, rfl, rfl, SqL.of ecol2, rfl, _, _, rfl, rfl, _, rfl, _, rfl, cl, _, _, _, rfl, rfl, SqL.of hxs2, elc', lc, _, _, _, rfl, rfl, SqL.of ecol2, rfl, _, _, rfl, rfl, small2, fun t1 ht1 => ?_⟩
    have s3 := same_new ht1 (.tup [.int (b.2 + 2), .int (b.2 + 3)])
    have e3 : upd H2 t1 (.tup [.int (b.2 + 2), .int (b.2 + 3)]) t1 = some (.tup [.int (b.2 + 2), .int (b.2 + 3)]) := upd_same
    generalize upd H2 t1 (.tup [.int (b.2 + 2), .int (b.2 + 3)]) = H3 at s3 e3 ⊢
    refine ⟨(by show 1 ≤ sizeLine; decide), fun l1 hl1 => ?_⟩
    have s4 := same_new hl1 (.lst [.ref t1])
    have e4 : upd H3 l1 (.lst [.ref t1]) l1 = some (.lst [.ref t1]) := upd_same
    have e3 := s4 _ _ e3
    generalize upd H3 l1 (.lst [.ref t1]) = H4 at s4 e4 e3 ⊢
    have sA := s3.trans s4
    have hpy : ys.length ≤ 4 := by rw [hpl.length]; exact h4p ps (List.mem_of_getElem? eps)
    refine ⟨ls, l1, _, _, rfl, rfl, sA _ _ el2, e4, Nat.le_of_lt (small1000 (by show ys.length + 1 ≤ 1000; omega)), fun l2 hl2 => ?_⟩
    have s5 := same_new hl2 (.lst (ys ++ [.ref t1]))
    have e5 : upd H4 l2 (.lst (ys ++ [.ref t1])) l2 = some (.lst (ys ++ [.ref t1])) := upd_same
    have e3 := s5 _ _ e3
    have nl : l2 ≠ c := fun z => by rw [z, sA _ _ ez] at hl2; cases hl2
    generalize upd H4 l2 (.lst (ys ++ [.ref t1])) = H5 at s5 e5 e3 ⊢
    have sB := sA.trans s5
    have ez5 := sB _ _ ez
    have st : SameT H (upd H5 c (.lst (zs.set i (.ref l2)))) := ((s2.trans sB).upd hc0).tups
    have hn : SpA NT (upd H5 c (.lst (zs.set i (.ref l2)))) l2 (ps ++ [(b.2 + 2, b.2 + 3)]) := ⟨trivial, _, (upd_ne nl).trans e5, PL.snoc (hpl.mono st) ((upd_ne (ne_of e3 ez5 (by intro z; cases z))).trans e3)⟩
    have sC : Same H (upd H5 c (.lst (zs.set i (.ref l2)))) := (s2.trans sB).upd hc0
    refine ⟨_, rfl, _, rfl, c, _, _, _, rfl, rfl, ez5, hixc, sC, _, w_.1.set i (ps ++ [(b.2 + 2, b.2 + 3)]), upd_same, RefL.set (CL.same hcl sC) hn, by rw [List.length_set]; exact ok.len, fun _ o' k => RowOk.no (j := i) (b := b) (p := (b.2 + 2, b.2 + 3)) (List.getElem?_set_self (by rw [ok.len]; exact hi)) eb (by simp) (fun h => by have h9 : b.2 + 3 ≤ b.2 := h.2; omega), rfl⟩
  rintro σ3 H3 ⟨s3, zs3, pss3, ez3, hC3, hl3, hb3, rfl⟩
  have eo3 := s3 _ _ eo
  have q9 := Int.emod_nonneg (t / 24) (show (9 : Int) ≠ 0 by decide)
  have q8 := Int.emod_lt_of_pos (t / 24) (show (0 : Int) < 9 by decide)
  refine ⟨_, rfl, rfl, _, rfl, ite2 (fun g => ?_) (fun g4 => ?_)⟩
  · refine ⟨_, rfl, _, rfl, ol, _, _, _, rfl, rfl, SqL.of eo3, rfl, _, _, rfl, rfl, _, rfl, _, _, rfl, rfl, ⟨by decide, by decide⟩, _, _, rfl, rfl, (by show (0 : Int) < 9; decide), _, _, rfl, rfl, small2, fun r hr' => ?_⟩
    have sr := same_new hr' (.tup [.ref c, .int (o.1 - 1 - t / 24 % 9)])
    exact q r (pss3, o.1 - 1 - t / 24 % 9) _ (s3.trans sr) ⟨c, _, upd_same, trivial, sr _ _ ez3, CL.same hC3 sr⟩ (fun h => by have := h.lo; show False; have : o.1 ≤ o.1 - 1 - t / 24 % 9 := this; omega) (bnd_of rok.bd (by show o.1 - 100 ≤ o.1 - 1 - t / 24 % 9; omega) (by show o.1 - 1 - t / 24 % 9 ≤ o.2 + 100; have := rok.le; omega)) (by show pss3.length ≤ 5; omega)
  refine ⟨_, rfl, rfl, _, rfl, ite2 (fun g => ?_) (fun g5 => ?_)⟩
  · refine ⟨_, rfl, _, rfl, ol, _, _, _, rfl, rfl, SqL.of eo3, rfl, _, _, rfl, rfl, _, rfl, _, _, rfl, rfl, ⟨by decide, by decide⟩, _, _, rfl, rfl, (by show (0 : Int) < 9; decide), _, _, rfl, rfl, small2, fun r hr' => ?_⟩
    have sr := same_new hr' (.tup [.ref c, .int (o.2 + 1 + t / 24 % 9)])
    exact q r (pss3, o.2 + 1 + t / 24 % 9) _ (s3.trans sr) ⟨c, _, upd_same, trivial, sr _ _ ez3, CL.same hC3 sr⟩ (fun h => by have := h.hi; show False; have : o.2 + 1 + t / 24 % 9 ≤ o.2 := this; omega) (bnd_of rok.bd (by show o.1 - 100 ≤ o.2 + 1 + t / 24 % 9; have := rok.le; omega) (by show o.2 + 1 + t / 24 % 9 ≤ o.2 + 100; omega)) (by show pss3.length ≤ 5; omega)
  refine ⟨_, rfl, _, rfl, r0, _, _, _, rfl, rfl, SqT.of (s3 _ _ er), rfl, small2, fun r hr' => ?_⟩
  have sr := same_new hr' (.tup [.ref c, .int w_.2])
  refine q r (pss3, w_.2) _ (s3.trans sr) ⟨c, _, upd_same, trivial, sr _ _ ez3, CL.same hC3 sr⟩ (hb3 ?_ o w_.2) bw (by show pss3.length ≤ 5; omega)
  have n0 : t / 4 % 6 ≠ 0 := fun h => g0 (decide_eq_true (congrArg V.int h))
  have n1' : t / 4 % 6 ≠ 1 := fun h => g1 (decide_eq_true (congrArg V.int h))
  have n4' : t / 4 % 6 ≠ 4 := fun h => g4 (decide_eq_true (congrArg V.int h))
  have n5' : t / 4 % 6 ≠ 5 := fun h => g5 (decide_eq_true (congrArg V.int h))
  omega
theorem ok_Way___init___First (F : Fun K "__init__" "Way.__init__" s_Way___init___First f fd) (bl : Bl K mg cTableError cBadName cTooMany cBadWay cBadRow cWay cFirst cOnly cLike cLow cHigh cSum cDomain cNumbers cWords cTable)  : FnOk P w K mg base CX0 1 f fd ["self", "called"] (sp_Way___init___First K cTableError cBadName cTooMany cBadWay cBadRow cWay cFirst cOnly cLike cLow cHigh cSum cDomain cNumbers cWords cTable) := by
  refine F.ok sc_Way___init___First (fun vs H Q E h => ?_) (fun cdv A outer s H vs Q E hr h => ?_)
  · obtain ⟨x, dx, z, rfl, hx, q⟩ := h
    rfl
  obtain ⟨x, dx, z, rfl, hx, q⟩ := h
  refine ⟨_, (pss_one (ps_fld (pv 0) (pv 1) rfl)), ?_⟩
  exact ⟨_, rfl, _, rfl, x, _, dx, _, rfl, hx, bl.k_First, bl.na_First_called, (by show 0 < 1000; decide), q⟩
theorem ok_Way___init___Only (F : Fun K "__init__" "Way.__init__" s_Way___init___Only f fd) (bl : Bl K mg cTableError cBadName cTooMany cBadWay cBadRow cWay cFirst cOnly cLike cLow cHigh cSum cDomain cNumbers cWords cTable)  : FnOk P w K mg base CX0 1 f fd ["self", "called"] (sp_Way___init___Only K cTableError cBadName cTooMany cBadWay cBadRow cWay cFirst cOnly cLike cLow cHigh cSum cDomain cNumbers cWords cTable) := by
  refine F.ok sc_Way___init___Only (fun vs H Q E h => ?_) (fun cdv A outer s H vs Q E hr h => ?_)
  · obtain ⟨x, dx, z, rfl, hx, q⟩ := h
    rfl
  obtain ⟨x, dx, z, rfl, hx, q⟩ := h
  refine ⟨_, (pss_one (ps_fld (pv 0) (pv 1) rfl)), ?_⟩
  exact ⟨_, rfl, _, rfl, x, _, dx, _, rfl, hx, bl.k_Only, bl.na_Only_called, (by show 0 < 1000; decide), q⟩
theorem ok_Way___init___Like (F : Fun K "__init__" "Way.__init__" s_Way___init___Like f fd) (bl : Bl K mg cTableError cBadName cTooMany cBadWay cBadRow cWay cFirst cOnly cLike cLow cHigh cSum cDomain cNumbers cWords cTable)  : FnOk P w K mg base CX0 1 f fd ["self", "called"] (sp_Way___init___Like K cTableError cBadName cTooMany cBadWay cBadRow cWay cFirst cOnly cLike cLow cHigh cSum cDomain cNumbers cWords cTable) := by
  refine F.ok sc_Way___init___Like (fun vs H Q E h => ?_) (fun cdv A outer s H vs Q E hr h => ?_)
  · obtain ⟨x, dx, z, rfl, hx, q⟩ := h
    rfl
  obtain ⟨x, dx, z, rfl, hx, q⟩ := h
  refine ⟨_, (pss_one (ps_fld (pv 0) (pv 1) rfl)), ?_⟩
  exact ⟨_, rfl, _, rfl, x, _, dx, _, rfl, hx, bl.k_Like, bl.na_Like_called, (by show 0 < 1000; decide), q⟩
theorem ok_Way___init___Low (F : Fun K "__init__" "Way.__init__" s_Way___init___Low f fd) (bl : Bl K mg cTableError cBadName cTooMany cBadWay cBadRow cWay cFirst cOnly cLike cLow cHigh cSum cDomain cNumbers cWords cTable)  : FnOk P w K mg base CX0 1 f fd ["self", "called"] (sp_Way___init___Low K cTableError cBadName cTooMany cBadWay cBadRow cWay cFirst cOnly cLike cLow cHigh cSum cDomain cNumbers cWords cTable) := by
  refine F.ok sc_Way___init___Low (fun vs H Q E h => ?_) (fun cdv A outer s H vs Q E hr h => ?_)
  · obtain ⟨x, dx, z, rfl, hx, q⟩ := h
    rfl
  obtain ⟨x, dx, z, rfl, hx, q⟩ := h
  refine ⟨_, (pss_one (ps_fld (pv 0) (pv 1) rfl)), ?_⟩
  exact ⟨_, rfl, _, rfl, x, _, dx, _, rfl, hx, bl.k_Low, bl.na_Low_called, (by show 0 < 1000; decide), q⟩
theorem ok_Way___init___High (F : Fun K "__init__" "Way.__init__" s_Way___init___High f fd) (bl : Bl K mg cTableError cBadName cTooMany cBadWay cBadRow cWay cFirst cOnly cLike cLow cHigh cSum cDomain cNumbers cWords cTable)  : FnOk P w K mg base CX0 1 f fd ["self", "called"] (sp_Way___init___High K cTableError cBadName cTooMany cBadWay cBadRow cWay cFirst cOnly cLike cLow cHigh cSum cDomain cNumbers cWords cTable) := by
  refine F.ok sc_Way___init___High (fun vs H Q E h => ?_) (fun cdv A outer s H vs Q E hr h => ?_)
  · obtain ⟨x, dx, z, rfl, hx, q⟩ := h
    rfl
  obtain ⟨x, dx, z, rfl, hx, q⟩ := h
  refine ⟨_, (pss_one (ps_fld (pv 0) (pv 1) rfl)), ?_⟩
  exact ⟨_, rfl, _, rfl, x, _, dx, _, rfl, hx, bl.k_High, bl.na_High_called, (by show 0 < 1000; decide), q⟩
theorem ok_Way___init___Sum (F : Fun K "__init__" "Way.__init__" s_Way___init___Sum f fd) (bl : Bl K mg cTableError cBadName cTooMany cBadWay cBadRow cWay cFirst cOnly cLike cLow cHigh cSum cDomain cNumbers cWords cTable)  : FnOk P w K mg base CX0 1 f fd ["self", "called"] (sp_Way___init___Sum K cTableError cBadName cTooMany cBadWay cBadRow cWay cFirst cOnly cLike cLow cHigh cSum cDomain cNumbers cWords cTable) := by
  refine F.ok sc_Way___init___Sum (fun vs H Q E h => ?_) (fun cdv A outer s H vs Q E hr h => ?_)
  · obtain ⟨x, dx, z, rfl, hx, q⟩ := h
    rfl
  obtain ⟨x, dx, z, rfl, hx, q⟩ := h
  refine ⟨_, (pss_one (ps_fld (pv 0) (pv 1) rfl)), ?_⟩
  exact ⟨_, rfl, _, rfl, x, _, dx, _, rfl, hx, bl.k_Sum, bl.na_Sum_called, (by show 0 < 1000; decide), q⟩
theorem ok_Domain___init___Numbers (F : Fun K "__init__" "Domain.__init__" s_Domain___init___Numbers f fd) (bl : Bl K mg cTableError cBadName cTooMany cBadWay cBadRow cWay cFirst cOnly cLike cLow cHigh cSum cDomain cNumbers cWords cTable)  : FnOk P w K mg base CX0 1 f fd ["self", "low", "high"] (sp_Domain___init___Numbers K cTableError cBadName cTooMany cBadWay cBadRow cWay cFirst cOnly cLike cLow cHigh cSum cDomain cNumbers cWords cTable) := by
  refine F.ok sc_Domain___init___Numbers (fun vs H Q E h => ?_) (fun cdv A outer s H vs Q E hr h => ?_)
  · obtain ⟨x, dx, lo, hi, rfl, hx, q⟩ := h
    rfl
  obtain ⟨x, dx, lo, hi, rfl, hx, q⟩ := h
  refine ⟨_, (pss_cons (ps_fld (pv 0) (pv 1) rfl)
     (pss_one (ps_fld (pv 0) (pv 2) rfl))), ?_⟩
  refine ⟨_, rfl, _, rfl, x, _, dx, _, rfl, hx, bl.k_Numbers, bl.na_Numbers_low, (by show 0 < 1000; decide), _, rfl, _, rfl, x, _, dx, _, rfl, upd_same, bl.k_Numbers, bl.na_Numbers_high, (by show 1 < 1000; decide), ?_⟩
  show Q .non (upd (upd H x (.ins cNumbers dx [("low", .int lo)])) x (.ins cNumbers dx (putF "high" (.int hi) [("low", .int lo)])))
  rw [put2]
  exact q
theorem ok_Domain___init___Words (F : Fun K "__init__" "Domain.__init__" s_Domain___init___Words f fd) (bl : Bl K mg cTableError cBadName cTooMany cBadWay cBadRow cWay cFirst cOnly cLike cLow cHigh cSum cDomain cNumbers cWords cTable)  : FnOk P w K mg base CX0 1 f fd ["self", "low", "high"] (sp_Domain___init___Words K cTableError cBadName cTooMany cBadWay cBadRow cWay cFirst cOnly cLike cLow cHigh cSum cDomain cNumbers cWords cTable) := by
  refine F.ok sc_Domain___init___Words (fun vs H Q E h => ?_) (fun cdv A outer s H vs Q E hr h => ?_)
  · obtain ⟨x, dx, lo, hi, rfl, hx, q⟩ := h
    rfl
  obtain ⟨x, dx, lo, hi, rfl, hx, q⟩ := h
  refine ⟨_, (pss_cons (ps_fld (pv 0) (pv 1) rfl)
     (pss_one (ps_fld (pv 0) (pv 2) rfl))), ?_⟩
  refine ⟨_, rfl, _, rfl, x, _, dx, _, rfl, hx, bl.k_Words, bl.na_Words_low, (by show 0 < 1000; decide), _, rfl, _, rfl, x, _, dx, _, rfl, upd_same, bl.k_Words, bl.na_Words_high, (by show 1 < 1000; decide), ?_⟩
  show Q .non (upd (upd H x (.ins cWords dx [("low", .int lo)])) x (.ins cWords dx (putF "high" (.int hi) [("low", .int lo)])))
  rw [put2]
  exact q
theorem ok_is_word (F : Fun K "is_word" "is_word" s_is_word f fd) (bl : Bl K mg cTableError cBadName cTooMany cBadWay cBadRow cWay cFirst cOnly cLike cLow cHigh cSum cDomain cNumbers cWords cTable) (c_all_among : Callee P w K mg base 1 "all_among" ["text", "signs"] (sp_all_among K cTableError cBadName cTooMany cBadWay cBadRow cWay cFirst cOnly cLike cLow cHigh cSum cDomain cNumbers cWords cTable)) : FnOk P w K mg base CX0 2 f fd ["text"] (sp_is_word K cTableError cBadName cTooMany cBadWay cBadRow cWay cFirst cOnly cLike cLow cHigh cSum cDomain cNumbers cWords cTable) := by
  refine F.ok sc_is_word (fun vs H Q E h => ?_) (fun cdv A outer s H vs Q E hr h => ?_)
  · obtain ⟨z, rfl, hz, q⟩ := h
    rfl
  obtain ⟨z, rfl, hz, q⟩ := h
  refine ⟨_, (pss_one (ps_ret (pe_and (pe_chain op_le op_le pe_int (pe_callB call_len_str rfl bl.len_ PySem.boot_len (pa_cons (pv 0) pa_nil)) (pe_gl rfl bl.MOST_SIGNS_)) (pe_and (pe_cmpR op_ne (pv 0) pe_str (nomark _)) (pe_one (pe_fn c_all_among hr rfl (pa_cons (pv 0) (pa_cons (pe_gl rfl bl.SMALL_LETTERS_) pa_nil)))))))), ?_⟩
  refine ⟨_, rfl, _, rfl, big hz, _, _, rfl, rfl, _, rfl, ?_⟩
  refine ite2 (fun g1 => ?_) (fun g1 => ?_)
  · refine ⟨_, _, rfl, rfl, _, rfl, ?_⟩
    refine ite2 (fun g2 => ?_) (fun g2 => ?_)
    · refine ⟨_, rfl, rfl, _, rfl, ?_⟩
      refine ite2 (fun g3 => ?_) (fun g3 => ?_)
      · refine ⟨_, rfl, z, lets, rfl, ?_⟩
        have e : isw z = allIn z lets := by unfold isw; rw [g1, g2, g3]; rfl
        rw [e] at q; exact q
      · have e : isw z = false := by unfold isw; rw [Bool.eq_false_iff.mpr g3, Bool.false_and, Bool.and_false, Bool.and_false]
        rw [e] at q; exact q
    · have e : isw z = false := by unfold isw; rw [Bool.eq_false_iff.mpr g2, Bool.false_and, Bool.and_false]
      rw [e] at q; exact q
  · have e : isw z = false := by unfold isw; rw [Bool.eq_false_iff.mpr g1, Bool.false_and]
    rw [e] at q; exact ⟨_, rfl, iteF q⟩
theorem ok_law_range (F : Fun K "_law_range" "_law_range" s_law_range f fd) (bl : Bl K mg cTableError cBadName cTooMany cBadWay cBadRow cWay cFirst cOnly cLike cLow cHigh cSum cDomain cNumbers cWords cTable) (c__law_mixed : Callee P w K mg base 1 "_law_mixed" ["cell", "k"] (sp_law_mixed K cTableError cBadName cTooMany cBadWay cBadRow cWay cFirst cOnly cLike cLow cHigh cSum cDomain cNumbers cWords cTable)) (c__law_word : Callee P w K mg base 1 "_law_word" ["cell", "k"] (sp_law_word K cTableError cBadName cTooMany cBadWay cBadRow cWay cFirst cOnly cLike cLow cHigh cSum cDomain cNumbers cWords cTable)) : FnOk P w K mg base CX0 2 f fd ["cell"] (sp_law_range K cTableError cBadName cTooMany cBadWay cBadRow cWay cFirst cOnly cLike cLow cHigh cSum cDomain cNumbers cWords cTable) := by
  refine F.ok sc_law_range (fun vs H Q E h => ?_) (fun cdv A outer s H vs Q E hr h => ?_)
  · obtain ⟨c, rfl, q⟩ := h
    rfl
  obtain ⟨c, rfl, q⟩ := h
  refine ⟨_, (pss_cut (ps_set (i := 1) sc_law_range.nd rfl (Or.inr rfl) (pe_fn c__law_mixed hr rfl (pa_cons (pv 0) (pa_cons pe_int pa_nil))))
     (pss_cons (ps_if (pt_cmpR op_eq (pe_op op_mod (pv 1) pe_int) pe_int (nomark _))
     (pss_cut (ps_comp (i := 2) sc_law_range.nd rfl (Or.inl rfl) (pi_range1 rfl bl.range_ (pa_cons (pe_op op_add pe_int (pe_op op_mod (pe_op op_fdiv (pv 1) pe_int) pe_int)) pa_nil)) (cmpOk_free (N := ["k", "m"]) (fr := [1]) (cl := [("m", s.heap.objs.size + 1)]) rfl rfl (by decide +kernel) (by decide +kernel) rfl (by decide +kernel) rfl rfl rfl (List.forall_mem_cons.mpr ⟨rfl, List.forall_mem_nil _⟩) rfl) rfl (fun _ _ _ _ => pif_nil) (fun _ _ _ _ => (pe_fn c__law_word hr rfl (pa_cons (pe_op op_fdiv (pv 1) pe_int) (pa_cons (pv 0) pa_nil)))))
     (pss_one (ps_ret (pe_lst (pa_cons pe_int (pa_cons (pe_op op_sub (pe_callB call_len_seq rfl bl.len_ PySem.boot_len (pa_cons (pv 2) pa_nil)) pe_int) (pa_cons (pv 2) pa_nil)))))))
     pss_nil)
     (pss_cut (ps_set (i := 3) sc_law_range.nd rfl (Or.inl rfl) (pe_ix ix_list (pe_lst (pa_cons pe_int (pa_cons pe_int (pa_cons pe_int (pa_cons pe_int (pa_cons (pe_op op_add pe_int (pe_op op_mod (pv 1) (pe_op op_pow pe_int pe_int))) (pa_cons (pe_op op_add pe_int (pe_op op_mod (pe_op op_fdiv (pv 1) pe_int) (pe_op op_pow pe_int pe_int))) pa_nil))))))) (pe_op op_mod (pe_op op_fdiv (pv 1) pe_int) pe_int) (fun _ _ => rfl)))
     (pss_cut (ps_set (i := 4) sc_law_range.nd rfl (Or.inl rfl) (pe_op op_sub (pe_op op_mod (pe_op op_fdiv (pv 1) pe_int) (pe_op op_mul pe_int (pe_op op_pow pe_int pe_int))) (pe_op op_pow pe_int pe_int)))
     (pss_cut (ps_if (pt_cmpR op_eq (pe_op op_mod (pv 1) pe_int) pe_int (nomark _))
     (pss_one (ps_set (i := 4) sc_law_range.nd rfl (Or.inl rfl) (pe_op op_sub pe_int (pe_op op_mod (pe_op op_fdiv (pv 1) pe_int) (pv 3)))))
     pss_nil)
     (pss_one (ps_ret (pe_lst (pa_cons (pv 4) (pa_cons (pe_op op_sub (pe_op op_add (pv 4) (pv 3)) pe_int) (pa_cons (pe_lst pa_nil) pa_nil))))))))))), ?_⟩
  refine ⟨fun σ' H' => H' = H ∧ ∃ m : Int, σ' = [some (.int c), some (.int m), none, none, none], ?_, ?_⟩
  · exact ⟨_, rfl, c, 1, rfl, by decide, by decide, fun r => ⟨rfl, r, rfl⟩⟩
  rintro σ1 H1 ⟨rfl, m, rfl⟩
  refine ⟨_, rfl, _, _, rfl, rfl, (by show (0 : Int) < 4; decide), rfl, _, rfl, ?_⟩
  refine ite2 (fun _ => ?_) (fun _ => ?_)
  · have n0 := Int.emod_nonneg (m / 7) (show (40 : Int) ≠ 0 by decide)
    have n1 := Int.emod_lt_of_pos (m / 7) (show (0 : Int) < 40 by decide)
    refine ⟨fun σ' H' => Same H1 H' ∧ ∃ (D : Addr) (n : Nat), H1 D = none ∧ 1 ≤ n ∧ n ≤ 40 ∧ H' D = some (.lst ((wds (m / 4) n).map V.str)) ∧ σ' = [some (.int c), some (.int m), some (.ref D), none, none], ?_, ?_⟩
    · refine ⟨_, rfl, _, _, rfl, rfl, ⟨by decide, by decide⟩, _, _, rfl, rfl, (by show (0 : Int) < 40; decide), _, _, rfl, rfl, _, rfl, (by show -(2 ^ 62) ≤ 1 + m / 7 % 40; omega), (by show 1 + m / 7 % 40 < 2 ^ 62; omega), comp_range (fun D i zs H' => Same H1 H' ∧ H' D = some (.lst zs) ∧ zs = (wds (m / 4) i).map V.str) (fun D hD => ⟨same_new hD _, upd_same, rfl⟩) (fun D i zs H' hD hi h => ?_) (fun D zs H' hD h => ?_)⟩
      · obtain ⟨sm, eD, rfl⟩ := h
        have hl : ((wds (m / 4) i).map V.str).length = i := by unfold wds; simp
        refine ⟨_, rfl, _, _, rfl, rfl, ⟨by decide, by decide⟩, _, rfl, _, _, rfl, CYes.mk hi eD (small1000 (by rw [hl]; omega)) ⟨sm.upd hD, upd_same, ?_⟩⟩
        rw [wds_succ, List.map_append, Int.zero_add]
        rfl
      · obtain ⟨sm, eD, rfl⟩ := h
        exact ⟨sm, D, (1 + m / 7 % 40).toNat, hD, by omega, by omega, eD, rfl⟩
    rintro σ2 H2 ⟨s2, D, n, hD, g1, g2, eD, rfl⟩
    have hl : (((wds (m / 4) n).map V.str).length : Int) = n := by unfold wds; simp
    refine ⟨_, rfl, D, _, rfl, .inl (SqL.of eD), _, _, rfl, rfl, _, rfl, (by show 3 ≤ sizeLine; decide), fun l hl2 => q l (0, hiW (wds (m / 4) n)) _ (s2.trans (same_new hl2 _)) ⟨D, wds (m / 4) n, s2.free hl2, hD, ?_, same_new hl2 _ _ _ eD, ⟨?_, fun _ => ⟨wds_good g1 g2, rfl⟩, ?_⟩⟩⟩
    · rw [upd_same]
      have : hiW (wds (m / 4) n) = (((wds (m / 4) n).map V.str).length : Int) - 1 := by unfold hiW; rw [List.length_map]
      rw [this]
    · show (0 : Int) ≤ hiW (wds (m / 4) n)
      unfold hiW
      have : (wds (m / 4) n).length = n := by unfold wds; simp
      rw [this]; omega
    · show -(3 * ((10 ^ 59 : Nat) : Int)) ≤ 0 ∧ hiW (wds (m / 4) n) ≤ 3 * ((10 ^ 59 : Nat) : Int)
      unfold hiW
      have e9 : (wds (m / 4) n).length = n := by unfold wds; simp
      have c9 : 1000 ≤ (10 ^ 59 : Nat) := by decide
      rw [e9]
      generalize (10 ^ 59 : Nat) = T at c9 ⊢
      omega
  refine ⟨fun σ' H' => Same H1 H' ∧ ∃ sz : Int, 0 < sz ∧ sz ≤ ((10 ^ 59 : Nat) : Int) + 200 ∧ σ' = [some (.int c), some (.int m), none, some (.int sz), none], ?_, ?_⟩
  · refine ⟨_, rfl, _, _, rfl, rfl, ⟨by decide, by decide, by decide⟩, _, _, rfl, rfl, p10 _, _, _, rfl, rfl, _, rfl, _, _, rfl, rfl, ⟨by decide, by decide⟩, _, _, rfl, rfl, ⟨by decide, by decide, by decide⟩, _, _, rfl, rfl, p10 _, _, _, rfl, rfl, (by show 6 ≤ sizeLine; decide), fun p hp => ?_⟩
    have h0 := Int.emod_nonneg (m / 4) (show (6 : Int) ≠ 0 by decide)
    have h1 := Int.emod_lt_of_pos (m / 4) (show (0 : Int) < 6 by decide)
    have a1 := Int.emod_nonneg m (Int.ne_of_gt (p10 (30 : Int).toNat))
    have a2 := Int.emod_nonneg (m / 5) (Int.ne_of_gt (p10 (59 : Int).toNat))
    have a3 : m % 10 ^ (30 : Int).toNat < ((10 ^ 30 : Nat) : Int) := by have h := Int.emod_lt_of_pos m (p10 (30 : Int).toNat); rw [← E30]; exact h
    have a4 : m / 5 % 10 ^ (59 : Int).toNat < ((10 ^ 59 : Nat) : Int) := by have h := Int.emod_lt_of_pos (m / 5) (p10 (59 : Int).toNat); rw [← E59]; exact h
    have c9 : ((10 ^ 30 : Nat) : Int) ≤ ((10 ^ 59 : Nat) : Int) := by decide
    have c8 : (1000 : Int) ≤ ((10 ^ 59 : Nat) : Int) := by decide
    obtain ⟨sz, hsz, hs0, hs1⟩ : ∃ x : Int, atI [V.int 1, .int 2, .int 5, .int 100, .int (1 + m % 10 ^ (30 : Int).toNat), .int (1 + m / 5 % 10 ^ (59 : Int).toNat)] (m / 4 % 6) = some (.int x) ∧ 0 < x ∧ x ≤ ((10 ^ 59 : Nat) : Int) + 200 := by
      generalize m / 4 % 6 = k at h0 h1 ⊢
      generalize m % 10 ^ (30 : Int).toNat = b1 at a1 a3 ⊢
      generalize m / 5 % 10 ^ (59 : Int).toNat = b2 at a2 a4 ⊢
      generalize ((10 ^ 30 : Nat) : Int) = S at a3 c9
      generalize ((10 ^ 59 : Nat) : Int) = T at a4 c8 c9 ⊢
      have : k = 0 ∨ k = 1 ∨ k = 2 ∨ k = 3 ∨ k = 4 ∨ k = 5 := by omega
      rcases this with rfl | rfl | rfl | rfl | rfl | rfl
      · exact ⟨1, rfl, by decide, by omega⟩
      · exact ⟨2, rfl, by decide, by omega⟩
      · exact ⟨5, rfl, by decide, by omega⟩
      · exact ⟨100, rfl, by decide, by omega⟩
      · exact ⟨_, rfl, by omega, by omega⟩
      · exact ⟨_, rfl, by omega, by omega⟩
    exact ⟨_, rfl, _, _, rfl, rfl, ⟨by decide, by decide⟩, _, _, rfl, rfl, (by show (0 : Int) < 6; decide), p, _, _, _, rfl, rfl, SqL.of upd_same, hsz, same_new hp _, sz, hs0, hs1, rfl⟩
  rintro σ2 H2 ⟨s2, sz, hs0, hs1, rfl⟩
  have p59b : (0 : Int) < 2 * 10 ^ (59 : Int).toNat := by have := p10 (59 : Int).toNat; omega
  refine ⟨fun σ' H' => H' = H2 ∧ ∃ lo : Int, -(((10 ^ 59 : Nat) : Int) + 200) ≤ lo ∧ lo ≤ ((10 ^ 59 : Nat) : Int) ∧ σ' = [some (.int c), some (.int m), none, some (.int sz), some (.int lo)], ?_, ?_⟩
  · have y0 := Int.emod_nonneg (m / 3) (Int.ne_of_gt p59b)
    have y1 := Int.emod_lt_of_pos (m / 3) p59b
    refine ⟨_, rfl, _, _, rfl, rfl, ⟨by decide, by decide⟩, _, _, rfl, rfl, ⟨by decide, by decide, by decide⟩, _, _, rfl, rfl, .inl ⟨by decide, by decide⟩, _, _, rfl, rfl, p59b, _, _, rfl, rfl, ⟨by decide, by decide, by decide⟩, _, _, rfl, rfl, rfl, _, ?_, ?_, rfl⟩
    · rw [E59] at y0 y1 ⊢
      generalize ((10 ^ 59 : Nat) : Int) = T at y0 y1 ⊢
      omega
    · rw [E59] at y0 y1 ⊢
      generalize ((10 ^ 59 : Nat) : Int) = T at y0 y1 ⊢
      omega
  rintro σ3 H3 ⟨rfl, lo0, g3, g4, rfl⟩
  refine ⟨fun σ' H' => H' = H3 ∧ ∃ lo : Int, -(((10 ^ 59 : Nat) : Int) + 200) ≤ lo ∧ lo ≤ ((10 ^ 59 : Nat) : Int) ∧ σ' = [some (.int c), some (.int m), none, some (.int sz), some (.int lo)], ?_, ?_⟩
  · refine ⟨_, rfl, _, _, rfl, rfl, (by show (0 : Int) < 4; decide), rfl, _, rfl, ?_⟩
    refine ite2 (fun _ => ?_) (fun _ => ⟨rfl, _, g3, g4, rfl⟩)
    have y0 := Int.emod_nonneg (m / 3) (Int.ne_of_gt hs0)
    have y1 := Int.emod_lt_of_pos (m / 3) hs0
    have c8 : (1000 : Int) ≤ ((10 ^ 59 : Nat) : Int) := by decide
    refine ⟨_, rfl, _, _, rfl, rfl, ⟨by decide, by decide⟩, _, rfl, _, _, rfl, rfl, hs0, _, _, rfl, rfl, rfl, _, ?_, ?_, rfl⟩
    · generalize ((10 ^ 59 : Nat) : Int) = T at c8 hs1 ⊢
      omega
    · generalize ((10 ^ 59 : Nat) : Int) = T at c8 hs1 ⊢
      omega
  clear g3 g4 lo0
  rintro σ4 H4 ⟨rfl, lo, g3, g4, rfl⟩
  refine ⟨_, rfl, _, rfl, _, rfl, _, _, rfl, rfl, _, _, rfl, rfl, (by show 0 ≤ sizeLine; decide), fun w_ hw => ?_⟩
  have hw2 : H1 w_ = none := s2.free hw
  have t1 := s2.trans (same_new hw (.lst []))
  have ew : upd H4 w_ (.lst []) w_ = some (.lst []) := upd_same
  generalize upd H4 w_ (.lst []) = H5 at t1 ew ⊢
  refine ⟨(by show 3 ≤ sizeLine; decide), fun l hl => q l (lo, lo + sz - 1) _ (t1.trans (same_new hl _)) ⟨w_, [], t1.free hl, hw2, upd_same, same_new hl _ _ _ ew, ⟨by show lo ≤ lo + sz - 1; omega, fun h => absurd rfl h, ?_⟩⟩⟩
  have c8 : (1000 : Int) ≤ ((10 ^ 59 : Nat) : Int) := by decide
  show -(3 * ((10 ^ 59 : Nat) : Int)) ≤ lo ∧ lo + sz - 1 ≤ 3 * ((10 ^ 59 : Nat) : Int)
  generalize ((10 ^ 59 : Nat) : Int) = T at c8 g3 g4 hs1 ⊢
  omega
theorem ok_law_row (F : Fun K "_law_row" "_law_row" s_law_row f fd) (bl : Bl K mg cTableError cBadName cTooMany cBadWay cBadRow cWay cFirst cOnly cLike cLow cHigh cSum cDomain cNumbers cWords cTable) (c__law_mixed : Callee P w K mg base 1 "_law_mixed" ["cell", "k"] (sp_law_mixed K cTableError cBadName cTooMany cBadWay cBadRow cWay cFirst cOnly cLike cLow cHigh cSum cDomain cNumbers cWords cTable)) (c__law_spans : Callee P w K mg base 1 "_law_spans" ["m", "low", "high"] (sp_law_spans K cTableError cBadName cTooMany cBadWay cBadRow cWay cFirst cOnly cLike cLow cHigh cSum cDomain cNumbers cWords cTable)) : FnOk P w K mg base CX0 2 f fd ["cell", "columns", "low", "high", "calm"] (sp_law_row K cTableError cBadName cTooMany cBadWay cBadRow cWay cFirst cOnly cLike cLow cHigh cSum cDomain cNumbers cWords cTable) := by
  refine F.ok sc_law_row (fun vs H Q E h => ?_) (fun cdv A outer s H vs Q E hr h => ?_)
  · obtain ⟨c, cl, xs, bs, o, calm, rfl, hC, hcl, h4, hle, q⟩ := h
    rfl
  obtain ⟨c, cl, xs, bs, o, calm, rfl, hC, hcl, h4, hle, q⟩ := h
  refine ⟨_, (pss_cut (ps_comp (i := 5) sc_law_row.nd rfl (Or.inl rfl) (pi_range1 rfl bl.range_ (pa_cons (pe_callB call_len_seq rfl bl.len_ PySem.boot_len (pa_cons (pv 1) pa_nil)) pa_nil)) (cmpOk_free (N := ["j", "cell", "columns"]) (fr := [0, 1]) (cl := [("columns", s.heap.objs.size + 1 + 1), ("cell", s.heap.objs.size + 1)]) rfl rfl (by decide +kernel) (by decide +kernel) rfl (by decide +kernel) rfl rfl rfl (List.forall_mem_cons.mpr ⟨rfl, List.forall_mem_cons.mpr ⟨rfl, List.forall_mem_nil _⟩⟩) rfl) rfl (fun _ _ _ _ => pif_nil) (fun _ _ _ _ => (pe_fn c__law_spans hr rfl (pa_cons (pe_fn c__law_mixed hr rfl (pa_cons (pv 1) (pa_cons (pe_op op_add pe_int (pv 0)) pa_nil))) (pa_cons (pe_ix (ix_listK (K := K) rfl) (pe_ix (ix_listK (K := K) rfl) (pv 2) (pv 0) (fun _ _ => rfl)) pe_int (fun _ _ => rfl)) (pa_cons (pe_ix (ix_listK (K := K) rfl) (pe_ix (ix_listK (K := K) rfl) (pv 2) (pv 0) (fun _ _ => rfl)) pe_int (fun _ _ => rfl)) pa_nil))))))
     (pss_cut (ps_set (i := 6) sc_law_row.nd rfl (Or.inl rfl) (pe_fn c__law_mixed hr rfl (pa_cons (pv 0) (pa_cons pe_int pa_nil))))
     (pss_cut (ps_set (i := 7) sc_law_row.nd rfl (Or.inl rfl) (pe_op op_add (pv 2) (pe_op op_mod (pe_op op_fdiv (pv 6) pe_int) (pe_op op_add (pe_op op_sub (pv 3) (pv 2)) pe_int))))
     (pss_cut (ps_if (PW.pt (pw_and (pt_cmpR op_eq (pv 4) pe_int (nomark _)) (pw_and1 (pt_cmpR op_gt (pe_op op_mod (pv 6) pe_int) pe_int (nomark _)))))
     (pss_one (ps_set (i := 7) sc_law_row.nd rfl (Or.inl rfl) (pv 2)))
     pss_nil)
     (pss_cut (ps_if (pt_cmpR op_eq (pv 4) pe_int (nomark _))
     (pss_one (ps_set (i := 7) sc_law_row.nd rfl (Or.inl rfl) (pe_callB (call_max2 rfl) rfl bl.max_ PyProof.Rows.boot_max (pa_cons (pv 2) (pa_cons (pe_callB (call_min2 rfl) rfl bl.min_ PyProof.Rows.boot_min (pa_cons (pv 3) (pa_cons (pe_op op_sub (pe_op op_mod (pv 6) pe_int) pe_int) pa_nil))) pa_nil)))))
     pss_nil)
     (pss_one (ps_ret (pe_tup (pa_cons (pv 5) (pa_cons (pv 7) pa_nil)))))))))), ?_⟩
  have hxl : xs.length = bs.length := hcl.1
  refine ⟨fun σ' H' => Same H H' ∧ ∃ (D : Addr) (zs : List V) (pss : List Prs), H D = none ∧ H' D = some (.lst zs) ∧ CL (fun a => H a = none) H' zs pss ∧ pss.length = bs.length ∧ (∀ (j : Nat) (ps : Prs) (b : Int × Int), pss[j]? = some ps → bs[j]? = some b → ∀ p ∈ ps, b.1 ≤ p.1 ∧ p.2 ≤ b.2) ∧ (∀ ps ∈ pss, ps.length ≤ 4) ∧ σ' = [some (.int c), some (.ref cl), some (.int o.1), some (.int o.2), some (.int calm), some (.ref D), none, none], ?_, ?_⟩
  · refine ⟨_, rfl, cl, _, rfl, .inl (SqL.of hC), _, rfl, (by show -(2 ^ 62) ≤ ((xs.length : Nat) : Int); omega), (by show ((xs.length : Nat) : Int) < 2 ^ 62; omega), comp_range (fun D i zs H' => Same H H' ∧ H' D = some (.lst zs) ∧ ∃ pss : List Prs, CL (Fr H D) H' zs pss ∧ pss.length = i ∧ (∀ (j : Nat) (ps : Prs) (b : Int × Int), pss[j]? = some ps → bs[j]? = some b → ∀ p ∈ ps, b.1 ≤ p.1 ∧ p.2 ≤ b.2) ∧ ∀ ps ∈ pss, ps.length ≤ 4) (fun D hD => ⟨same_new hD _, upd_same, [], RefL.nil, rfl, (fun j ps b e => by simp at e), (fun ps h => by cases h)⟩) (fun D i zs H' hD hi h => ?_) (fun D zs H' hD h => ?_)⟩
    · obtain ⟨sm, eD, pss, hz, hl, hb, h4p⟩ := h
      have hi2 : i < bs.length := by first | omega | (rw [← hxl]; omega)
      obtain ⟨b, eb⟩ : ∃ b, bs[i]? = some b := ⟨_, List.getElem?_eq_getElem hi2⟩
      obtain ⟨l, el, w_, ws, _, _, e1, e2, ok⟩ := hcl.2 i b eb
      have e1' := sm _ _ e1
      refine ⟨_, rfl, _, rfl, _, _, rfl, rfl, c, _, rfl, (by show 0 ≤ 2 + (0 + (i : Int)); omega), (by show 2 + (0 + (i : Int)) ≤ 100; omega), fun r => ?_⟩
      refine ⟨_, rfl, _, rfl, cl, _, _, _, rfl, rfl, SqL.of (sm _ _ hC), getI el, l, _, _, _, rfl, rfl, SqL.of e1', rfl, _, rfl, _, rfl, cl, _, _, _, rfl, rfl, SqL.of (sm _ _ hC), getI el, l, _, _, _, rfl, rfl, SqL.of e1', rfl, r, b, rfl, ok.le, fun l2 ps H2 s2 hsp hin hp4 => ?_⟩
      have n2 : H' l2 = none := hsp.1
      have eD2 := s2 _ _ eD
      have nD : l2 ≠ D := fun z => by rw [z, eD] at n2; cases n2
      have hlz : zs.length = i := by rw [hz.1, hl]
      refine CYes.mk hi eD2 (small1000 (by omega)) ⟨(sm.trans s2).upd hD, upd_same, pss ++ [ps], CL.updN (RefL.snoc (hz.same s2) ⟨⟨sm.free n2, nD⟩, hsp.2⟩) Fr.out eD2, by rw [List.length_append, List.length_singleton, hl], fun j ps' b' e e' => ?_, (fun ps' h' => (List.mem_append.mp h').elim (h4p ps') (fun z => by rw [show ps' = ps by simpa using z]; exact hp4))⟩
      by_cases hj : j < pss.length
      · rw [List.getElem?_append_left hj] at e
        exact hb j ps' b' e e'
      · have hj2 : j = pss.length := by
          have := (List.getElem?_eq_some_iff.mp e).1
          simp at this; omega
        subst hj2
        simp at e
        subst e
        rw [hl, eb] at e'
        cases e'
        exact hin
    · obtain ⟨sm, eD, pss, hz, hl, hb, h4p⟩ := h
      exact ⟨sm, D, zs, pss, hD, eD, hz.wk fun a h => h.1, by first | omega | (rw [hl]; omega), hb, h4p, rfl⟩
  rintro σ1 H1 ⟨s1, D, zs, pss, hD, eD, hz, hl, hb, h4p, rfl⟩
  refine ⟨fun σ' H' => H' = H1 ∧ ∃ m : Int, σ' = [some (.int c), some (.ref cl), some (.int o.1), some (.int o.2), some (.int calm), some (.ref D), some (.int m), none], ?_, ?_⟩
  · exact ⟨_, rfl, c, 9, rfl, by decide, by decide, fun r => ⟨rfl, r, rfl⟩⟩
  rintro σ2 H2 ⟨rfl, m, rfl⟩
  refine ⟨fun σ' H' => H' = H2 ∧ ∃ k : Int, o.1 ≤ k ∧ k ≤ o.2 ∧ σ' = [some (.int c), some (.ref cl), some (.int o.1), some (.int o.2), some (.int calm), some (.ref D), some (.int m), some (.int k)], ?_, ?_⟩
  · have hp : (0 : Int) < o.2 - o.1 + 1 := by omega
    have h0 := Int.emod_nonneg (m / 4) (Int.ne_of_gt hp)
    have h1 := Int.emod_lt_of_pos (m / 4) hp
    exact ⟨_, rfl, _, rfl, _, _, rfl, rfl, ⟨by decide, by decide⟩, _, rfl, _, rfl, _, _, rfl, rfl, _, _, rfl, rfl, _, _, rfl, rfl, hp, _, _, rfl, rfl, rfl, _, by omega, by omega, rfl⟩
  rintro σ3 H3 ⟨rfl, k0, k1, k2, rfl⟩
  refine ⟨fun σ' H' => H' = H3 ∧ ∃ k : Int, o.1 ≤ k ∧ k ≤ o.2 ∧ σ' = [some (.int c), some (.ref cl), some (.int o.1), some (.int o.2), some (.int calm), some (.ref D), some (.int m), some (.int k)], ?_, ?_⟩
  · refine ⟨_, rfl, rfl, _, rfl, ?_⟩
    refine ite2 (fun _ => ?_) (fun _ => iteF ⟨rfl, k0, k1, k2, rfl⟩)
    refine ⟨_, rfl, _, _, rfl, rfl, (by show (0 : Int) < 4; decide), _, _, rfl, rfl, _, rfl, ?_⟩
    exact ite2 (fun _ => ⟨_, rfl, rfl, _, Int.le_refl _, hle, rfl⟩) (fun _ => ⟨rfl, k0, k1, k2, rfl⟩)
  clear k1 k2
  rintro σ4 H4 ⟨rfl, k1, k2, k3, rfl⟩
  refine ⟨fun σ' H' => H' = H4 ∧ ∃ k : Int, o.1 ≤ k ∧ k ≤ o.2 ∧ σ' = [some (.int c), some (.ref cl), some (.int o.1), some (.int o.2), some (.int calm), some (.ref D), some (.int m), some (.int k)], ?_, ?_⟩
  · refine ⟨_, rfl, rfl, _, rfl, ?_⟩
    refine ite2 (fun _ => ?_) (fun _ => ⟨rfl, k1, k2, k3, rfl⟩)
    refine ⟨_, rfl, _, rfl, _, rfl, _, _, rfl, rfl, (by show (0 : Int) < 7; decide), _, _, rfl, rfl, _, _, rfl, _, _, rfl, rfl, _, ?_, ?_, rfl⟩
    · split <;> omega
    · split <;> (split <;> omega)
  rintro σ5 H5 ⟨rfl, k, k4, k5, rfl⟩
  exact ⟨_, rfl, _, rfl, small2, fun r hr' => q r (pss, k) _ (s1.trans (same_new hr' _)) ⟨D, zs, upd_same, hD, same_new hr' _ _ _ eD, hz.same (same_new hr' _)⟩ ⟨hl, hb, k4, k5⟩ h4p⟩
theorem ok_First___init___First (F : Fun K "__init__" "First.__init__" s_First___init___First f fd) (bl : Bl K mg cTableError cBadName cTooMany cBadWay cBadRow cWay cFirst cOnly cLike cLow cHigh cSum cDomain cNumbers cWords cTable) (b_Way___init___First : BCallee CX0 P w K mg base 1 "Way" "__init__" ["self", "called"] (sp_Way___init___First K cTableError cBadName cTooMany cBadWay cBadRow cWay cFirst cOnly cLike cLow cHigh cSum cDomain cNumbers cWords cTable)) : FnOk P w K mg base CX0 2 f fd ["self"] (sp_First___init___First K cTableError cBadName cTooMany cBadWay cBadRow cWay cFirst cOnly cLike cLow cHigh cSum cDomain cNumbers cWords cTable) := by
  refine F.ok sc_First___init___First (fun vs H Q E h => ?_) (fun cdv A outer s H vs Q E hr h => ?_)
  · obtain ⟨x, dx, rfl, hx, q⟩ := h
    rfl
  obtain ⟨x, dx, rfl, hx, q⟩ := h
  refine ⟨_, (pss_one (ps_expr (pe_base b_Way___init___First pass0 hr rfl (pa_cons (pv 0) (pa_cons pe_str pa_nil))))), ?_⟩
  exact ⟨_, rfl, x, dx, _, rfl, hx, q⟩
theorem ok_Only___init___Only (F : Fun K "__init__" "Only.__init__" s_Only___init___Only f fd) (bl : Bl K mg cTableError cBadName cTooMany cBadWay cBadRow cWay cFirst cOnly cLike cLow cHigh cSum cDomain cNumbers cWords cTable) (b_Way___init___Only : BCallee CX0 P w K mg base 1 "Way" "__init__" ["self", "called"] (sp_Way___init___Only K cTableError cBadName cTooMany cBadWay cBadRow cWay cFirst cOnly cLike cLow cHigh cSum cDomain cNumbers cWords cTable)) : FnOk P w K mg base CX0 2 f fd ["self"] (sp_Only___init___Only K cTableError cBadName cTooMany cBadWay cBadRow cWay cFirst cOnly cLike cLow cHigh cSum cDomain cNumbers cWords cTable) := by
  refine F.ok sc_Only___init___Only (fun vs H Q E h => ?_) (fun cdv A outer s H vs Q E hr h => ?_)
  · obtain ⟨x, dx, rfl, hx, q⟩ := h
    rfl
  obtain ⟨x, dx, rfl, hx, q⟩ := h
  refine ⟨_, (pss_one (ps_expr (pe_base b_Way___init___Only pass0 hr rfl (pa_cons (pv 0) (pa_cons pe_str pa_nil))))), ?_⟩
  exact ⟨_, rfl, x, dx, _, rfl, hx, q⟩
theorem ok_Like___init___Like (F : Fun K "__init__" "Like.__init__" s_Like___init___Like f fd) (bl : Bl K mg cTableError cBadName cTooMany cBadWay cBadRow cWay cFirst cOnly cLike cLow cHigh cSum cDomain cNumbers cWords cTable) (b_Way___init___Like : BCallee CX0 P w K mg base 1 "Way" "__init__" ["self", "called"] (sp_Way___init___Like K cTableError cBadName cTooMany cBadWay cBadRow cWay cFirst cOnly cLike cLow cHigh cSum cDomain cNumbers cWords cTable)) : FnOk P w K mg base CX0 2 f fd ["self"] (sp_Like___init___Like K cTableError cBadName cTooMany cBadWay cBadRow cWay cFirst cOnly cLike cLow cHigh cSum cDomain cNumbers cWords cTable) := by
  refine F.ok sc_Like___init___Like (fun vs H Q E h => ?_) (fun cdv A outer s H vs Q E hr h => ?_)
  · obtain ⟨x, dx, rfl, hx, q⟩ := h
    rfl
  obtain ⟨x, dx, rfl, hx, q⟩ := h
  refine ⟨_, (pss_one (ps_expr (pe_base b_Way___init___Like pass0 hr rfl (pa_cons (pv 0) (pa_cons pe_str pa_nil))))), ?_⟩
  exact ⟨_, rfl, x, dx, _, rfl, hx, q⟩
theorem ok_Low___init___Low (F : Fun K "__init__" "Low.__init__" s_Low___init___Low f fd) (bl : Bl K mg cTableError cBadName cTooMany cBadWay cBadRow cWay cFirst cOnly cLike cLow cHigh cSum cDomain cNumbers cWords cTable) (b_Way___init___Low : BCallee CX0 P w K mg base 1 "Way" "__init__" ["self", "called"] (sp_Way___init___Low K cTableError cBadName cTooMany cBadWay cBadRow cWay cFirst cOnly cLike cLow cHigh cSum cDomain cNumbers cWords cTable)) : FnOk P w K mg base CX0 2 f fd ["self"] (sp_Low___init___Low K cTableError cBadName cTooMany cBadWay cBadRow cWay cFirst cOnly cLike cLow cHigh cSum cDomain cNumbers cWords cTable) := by
  refine F.ok sc_Low___init___Low (fun vs H Q E h => ?_) (fun cdv A outer s H vs Q E hr h => ?_)
  · obtain ⟨x, dx, rfl, hx, q⟩ := h
    rfl
  obtain ⟨x, dx, rfl, hx, q⟩ := h
  refine ⟨_, (pss_one (ps_expr (pe_base b_Way___init___Low pass0 hr rfl (pa_cons (pv 0) (pa_cons pe_str pa_nil))))), ?_⟩
  exact ⟨_, rfl, x, dx, _, rfl, hx, q⟩
theorem ok_High___init___High (F : Fun K "__init__" "High.__init__" s_High___init___High f fd) (bl : Bl K mg cTableError cBadName cTooMany cBadWay cBadRow cWay cFirst cOnly cLike cLow cHigh cSum cDomain cNumbers cWords cTable) (b_Way___init___High : BCallee CX0 P w K mg base 1 "Way" "__init__" ["self", "called"] (sp_Way___init___High K cTableError cBadName cTooMany cBadWay cBadRow cWay cFirst cOnly cLike cLow cHigh cSum cDomain cNumbers cWords cTable)) : FnOk P w K mg base CX0 2 f fd ["self"] (sp_High___init___High K cTableError cBadName cTooMany cBadWay cBadRow cWay cFirst cOnly cLike cLow cHigh cSum cDomain cNumbers cWords cTable) := by
  refine F.ok sc_High___init___High (fun vs H Q E h => ?_) (fun cdv A outer s H vs Q E hr h => ?_)
  · obtain ⟨x, dx, rfl, hx, q⟩ := h
    rfl
  obtain ⟨x, dx, rfl, hx, q⟩ := h
  refine ⟨_, (pss_one (ps_expr (pe_base b_Way___init___High pass0 hr rfl (pa_cons (pv 0) (pa_cons pe_str pa_nil))))), ?_⟩
  exact ⟨_, rfl, x, dx, _, rfl, hx, q⟩
theorem ok_Sum___init___Sum (F : Fun K "__init__" "Sum.__init__" s_Sum___init___Sum f fd) (bl : Bl K mg cTableError cBadName cTooMany cBadWay cBadRow cWay cFirst cOnly cLike cLow cHigh cSum cDomain cNumbers cWords cTable) (b_Way___init___Sum : BCallee CX0 P w K mg base 1 "Way" "__init__" ["self", "called"] (sp_Way___init___Sum K cTableError cBadName cTooMany cBadWay cBadRow cWay cFirst cOnly cLike cLow cHigh cSum cDomain cNumbers cWords cTable)) : FnOk P w K mg base CX0 2 f fd ["self"] (sp_Sum___init___Sum K cTableError cBadName cTooMany cBadWay cBadRow cWay cFirst cOnly cLike cLow cHigh cSum cDomain cNumbers cWords cTable) := by
  refine F.ok sc_Sum___init___Sum (fun vs H Q E h => ?_) (fun cdv A outer s H vs Q E hr h => ?_)
  · obtain ⟨x, dx, rfl, hx, q⟩ := h
    rfl
  obtain ⟨x, dx, rfl, hx, q⟩ := h
  refine ⟨_, (pss_one (ps_expr (pe_base b_Way___init___Sum pass0 hr rfl (pa_cons (pv 0) (pa_cons pe_str pa_nil))))), ?_⟩
  exact ⟨_, rfl, x, dx, _, rfl, hx, q⟩
theorem ok_Domain_has_code_Numbers (F : Fun K "has_code" "Domain.has_code" s_Domain_has_code_Numbers f fd) (bl : Bl K mg cTableError cBadName cTooMany cBadWay cBadRow cWay cFirst cOnly cLike cLow cHigh cSum cDomain cNumbers cWords cTable) (c_is_whole : Callee P w K mg base 1 "is_whole" ["value"] (sp_is_whole K cTableError cBadName cTooMany cBadWay cBadRow cWay cFirst cOnly cLike cLow cHigh cSum cDomain cNumbers cWords cTable)) : FnOk P w K mg base CX0 2 f fd ["self", "value"] (sp_Domain_has_code_Numbers K cTableError cBadName cTooMany cBadWay cBadRow cWay cFirst cOnly cLike cLow cHigh cSum cDomain cNumbers cWords cTable) := by
  refine F.ok sc_Domain_has_code_Numbers (fun vs H Q E h => ?_) (fun cdv A outer s H vs Q E hr h => ?_)
  · obtain ⟨a, b, i, rfl, ⟨dx, fs, ha, hl, hh, _⟩, q⟩ := h
    rfl
  obtain ⟨a, b, i, rfl, ⟨dx, fs, ha, hl, hh, _⟩, q⟩ := h
  refine ⟨_, (pss_one (ps_ret (pe_and (pe_fn c_is_whole hr rfl (pa_cons (pv 1) pa_nil)) (pe_one (pe_chain op_le op_le (pe_fld (pv 0) rfl) (pv 1) (pe_fld (pv 0) rfl)))))), ?_⟩
  refine ⟨_, rfl, i, rfl, _, rfl, iteT ?_⟩
  refine ⟨_, rfl, a, _, _, _, _, rfl, ha, bl.k_Numbers, bl.na_Numbers_low, hl, _, rfl, _, _, rfl, rfl, _, rfl, ?_⟩
  by_cases h1 : b.1 ≤ i
  · refine iteTS h1 ⟨_, rfl, a, _, _, _, _, rfl, ha, bl.k_Numbers, bl.na_Numbers_high, hh, _, _, rfl, rfl, ?_⟩
    rw [decide_eq_true h1, Bool.true_and] at q
    exact q
  · refine ite2 (fun g => absurd (of_decide_eq_true g) h1) (fun _ => ?_)
    rw [decide_eq_false h1, Bool.false_and] at q
    first | exact q | (rw [decide_eq_false h1]; exact q)
theorem ok_Domain_has_code_Words (F : Fun K "has_code" "Domain.has_code" s_Domain_has_code_Words f fd) (bl : Bl K mg cTableError cBadName cTooMany cBadWay cBadRow cWay cFirst cOnly cLike cLow cHigh cSum cDomain cNumbers cWords cTable) (c_is_whole : Callee P w K mg base 1 "is_whole" ["value"] (sp_is_whole K cTableError cBadName cTooMany cBadWay cBadRow cWay cFirst cOnly cLike cLow cHigh cSum cDomain cNumbers cWords cTable)) : FnOk P w K mg base CX0 2 f fd ["self", "value"] (sp_Domain_has_code_Words K cTableError cBadName cTooMany cBadWay cBadRow cWay cFirst cOnly cLike cLow cHigh cSum cDomain cNumbers cWords cTable) := by
  refine F.ok sc_Domain_has_code_Words (fun vs H Q E h => ?_) (fun cdv A outer s H vs Q E hr h => ?_)
  · obtain ⟨a, b, i, rfl, ⟨dx, fs, ha, hl, hh, _⟩, q⟩ := h
    rfl
  obtain ⟨a, b, i, rfl, ⟨dx, fs, ha, hl, hh, _⟩, q⟩ := h
  refine ⟨_, (pss_one (ps_ret (pe_and (pe_fn c_is_whole hr rfl (pa_cons (pv 1) pa_nil)) (pe_one (pe_chain op_le op_le (pe_fld (pv 0) rfl) (pv 1) (pe_fld (pv 0) rfl)))))), ?_⟩
  refine ⟨_, rfl, i, rfl, _, rfl, iteT ?_⟩
  refine ⟨_, rfl, a, _, _, _, _, rfl, ha, bl.k_Words, bl.na_Words_low, hl, _, rfl, _, _, rfl, rfl, _, rfl, ?_⟩
  by_cases h1 : b.1 ≤ i
  · refine iteTS h1 ⟨_, rfl, a, _, _, _, _, rfl, ha, bl.k_Words, bl.na_Words_high, hh, _, _, rfl, rfl, ?_⟩
    rw [decide_eq_true h1, Bool.true_and] at q
    exact q
  · refine ite2 (fun g => absurd (of_decide_eq_true g) h1) (fun _ => ?_)
    rw [decide_eq_false h1, Bool.false_and] at q
    first | exact q | (rw [decide_eq_false h1]; exact q)
theorem ok_Numbers___init___Numbers (F : Fun K "__init__" "Numbers.__init__" s_Numbers___init___Numbers f fd) (bl : Bl K mg cTableError cBadName cTooMany cBadWay cBadRow cWay cFirst cOnly cLike cLow cHigh cSum cDomain cNumbers cWords cTable) (b_Domain___init___Numbers : BCallee CX0 P w K mg base 1 "Domain" "__init__" ["self", "low", "high"] (sp_Domain___init___Numbers K cTableError cBadName cTooMany cBadWay cBadRow cWay cFirst cOnly cLike cLow cHigh cSum cDomain cNumbers cWords cTable)) : FnOk P w K mg base CX0 2 f fd ["self", "low", "high"] (sp_Numbers___init___Numbers K cTableError cBadName cTooMany cBadWay cBadRow cWay cFirst cOnly cLike cLow cHigh cSum cDomain cNumbers cWords cTable) := by
  refine F.ok sc_Numbers___init___Numbers (fun vs H Q E h => ?_) (fun cdv A outer s H vs Q E hr h => ?_)
  · obtain ⟨x, dx, lo, hi, rfl, hx, hle, q⟩ := h
    rfl
  obtain ⟨x, dx, lo, hi, rfl, hx, hle, q⟩ := h
  refine ⟨_, (pss_cons (ps_if (pt_cmpR op_gt (pv 1) (pv 2) (nomark _))
     (pss_one ps_never)
     pss_nil)
     (pss_one (ps_expr (pe_base b_Domain___init___Numbers pass0 hr rfl (pa_cons (pv 0) (pa_cons (pv 1) (pa_cons (pv 2) pa_nil))))))), ?_⟩
  exact ⟨_, rfl, _, rfl, _, _, rfl, rfl, _, rfl, iteFS (by omega) ⟨_, rfl, _, rfl, _, rfl, x, dx, lo, hi, rfl, hx, q⟩⟩
theorem ok_refuse_names (F : Fun K "refuse_names" "refuse_names" s_refuse_names f fd) (bl : Bl K mg cTableError cBadName cTooMany cBadWay cBadRow cWay cFirst cOnly cLike cLow cHigh cSum cDomain cNumbers cWords cTable) (c_is_word : Callee P w K mg base 2 "is_word" ["text"] (sp_is_word K cTableError cBadName cTooMany cBadWay cBadRow cWay cFirst cOnly cLike cLow cHigh cSum cDomain cNumbers cWords cTable)) : FnOk P w K mg base (CX1 P w) 3 f fd ["names"] (sp_refuse_names K cTableError cBadName cTooMany cBadWay cBadRow cWay cFirst cOnly cLike cLow cHigh cSum cDomain cNumbers cWords cTable) := by
  refine F.okE sc_refuse_names (fun vs H Q E h => ?_) (fun cdv A outer s H vs Q E hr h => ?_)
  · obtain ⟨p, zs, rfl, hS, hsm, hl, q, qE⟩ := h
    rfl
  obtain ⟨p, zs, rfl, hS, hsm, hl, q, qE⟩ := h
  refine ⟨_, (pss_cut (ps_for (passes_XE rfl rfl rfl) rfl (pi_list (pv 0)) (pg_name (i := 1) sc_refuse_names.nd rfl (Or.inl rfl))
     (pss_one (ps_if (pt_not (pt_val (pe_fn c_is_word hr rfl (pa_cons (pv 1) pa_nil))))
     (pss_one (ps_raiseE bl.x_BadName hr.hd rfl bl.BadName_ (pa_cons (pe_fr (pv 1)) pa_nil)))
     pss_nil)))
     (pss_one (ps_if (pt_cmpR op_lt (pe_callB call_len_setO rfl bl.len_ PySem.boot_len (pa_cons (pe_callTy (call_set_strs rfl) rfl bl.set_ PyProof.Rows.boot_set (pa_cons (pv 0) pa_nil)) pa_nil)) (pe_callB call_len_seq rfl bl.len_ PySem.boot_len (pa_cons (pv 0) pa_nil)) (nomark _))
     (pss_one (ps_raiseE bl.x_BadName hr.hd rfl bl.BadName_ (pa_cons pe_str pa_nil)))
     pss_nil))), ?_⟩
  have hlen : (zs.map V.str).length = zs.length := List.length_map _
  refine ⟨fun σ' H' => H' = H ∧ (∃ c1 : Option V, σ' = [some (.ref p), c1]) ∧ ∀ z ∈ zs, isw z = true, ?_, ?_⟩
  · refine ⟨_, rfl, p, rfl, ⟨_, hS⟩, for_list (xs := zs.map V.str) (fun i σ H' => (∃ c1 : Option V, σ = [some (.ref p), c1]) ∧ H' = H ∧ ∀ z ∈ zs.take i, isw z = true) ⟨⟨_, rfl⟩, rfl, (fun z hz => by simp at hz)⟩ (fun i σ H' _ h => by rw [h.2.1]; exact hS) (fun i y σ H' e h => ?_) (fun σ H' h => ?_)⟩
    · obtain ⟨⟨c1, rfl⟩, e0, ha⟩ := h
      rw [e0]
      obtain ⟨z, rfl, ez⟩ := get_strs e
      have hz := hsm z (List.mem_of_getElem? ez)
      have hz1 := hz.len
      refine ⟨_, rfl, z, rfl, by omega, _, rfl, ?_⟩
      cases hw : isw z with
      | true => exact iteF ⟨⟨_, rfl⟩, rfl, take_all ez ha hw⟩
      | false => exact iteT ⟨_, rfl, z, rfl, by omega, hz.low, (by decide +kernel), fun z2 => ⟨(by show 1 ≤ sizeLine; decide), qE (fun g => by rw [g.1 z (List.mem_of_getElem? ez)] at hw; cases hw) H (Same.refl H)⟩⟩
    · obtain ⟨⟨c1, rfl⟩, e0, ha⟩ := h
      rw [hlen, List.take_length] at ha
      exact ⟨e0, ⟨_, rfl⟩, ha⟩
  rintro σ2 H2 ⟨e2, ⟨c1, rfl⟩, hall⟩
  rw [e2]
  refine ⟨_, rfl, p, zs, rfl, hS, by omega, fun l hl2 => ⟨l, zs, rfl, upd_same, by omega, _, rfl, p, _, rfl, .inl ((same_new hl2 _).seq hS), _, _, rfl, rfl, _, rfl, ?_⟩⟩
  have s1 := same_new hl2 (SetO P w l zs)
  have cf := cntK_full zs zs.length (Nat.le_refl _)
  rw [List.take_length] at cf
  refine ite2 (fun g => ?_) (fun g => ?_)
  · have g' := dec_t g
    rw [hlen] at g'
    exact ⟨(by show 1 ≤ sizeLine; decide), qE (fun gd => by have := cf.mpr gd.2; omega) _ s1⟩
  · have g' := dec_f g
    rw [hlen] at g'
    exact q ⟨hall, cf.mp (by have := cntK_le zs zs.length; omega)⟩ _ s1
theorem ok_refuse_row (F : Fun K "refuse_row" "refuse_row" s_refuse_row f fd) (bl : Bl K mg cTableError cBadName cTooMany cBadWay cBadRow cWay cFirst cOnly cLike cLow cHigh cSum cDomain cNumbers cWords cTable) (m_Domain_has_code_Numbers : MCallee CX0 P w K mg base 2 cNumbers "has_code" ["self", "value"] (sp_Domain_has_code_Numbers K cTableError cBadName cTooMany cBadWay cBadRow cWay cFirst cOnly cLike cLow cHigh cSum cDomain cNumbers cWords cTable)) (m_Domain_has_code_Words : MCallee CX0 P w K mg base 2 cWords "has_code" ["self", "value"] (sp_Domain_has_code_Words K cTableError cBadName cTooMany cBadWay cBadRow cWay cFirst cOnly cLike cLow cHigh cSum cDomain cNumbers cWords cTable)) : FnOk P w K mg base (CX1 P w) 3 f fd ["domains", "outcome", "cells", "code"] (sp_refuse_row K cTableError cBadName cTooMany cBadWay cBadRow cWay cFirst cOnly cLike cLow cHigh cSum cDomain cNumbers cWords cTable) := by
  refine F.okE sc_refuse_row (fun vs H Q E h => ?_) (fun cdv A outer s H vs Q E hr h => ?_)
  · obtain ⟨dl, ou, cl, dv, xs, bs, o, w_, rfl, hD, hdv, hO, hC, hcl, hbn, q, qE⟩ := h
    rfl
  obtain ⟨dl, ou, cl, dv, xs, bs, o, w_, rfl, hD, hdv, hO, hC, hcl, hbn, q, qE⟩ := h
  refine ⟨_, (pss_cons (ps_if (pt_cmpR op_ne (pe_callB call_len_seq rfl bl.len_ PySem.boot_len (pa_cons (pv 2) pa_nil)) (pe_callB call_len_seq rfl bl.len_ PySem.boot_len (pa_cons (pv 0) pa_nil)) (nomark _))
     (pss_one (ps_raiseE bl.x_BadRow hr.hd rfl bl.BadRow_ (pa_cons pe_str pa_nil)))
     pss_nil)
     (pss_cut (ps_for (passes_XE rfl rfl rfl) rfl (pi_zip rfl bl.zip_ (pa_cons (pv 0) (pa_cons (pv 2) pa_nil))) (pg_tup rfl (pgs_cons (pg_name (i := 4) sc_refuse_row.nd rfl (Or.inl rfl)) (pgs_cons (pg_name (i := 5) sc_refuse_row.nd rfl (Or.inl rfl)) pgs_nil)))
     (pss_one (ps_for (passes_XE rfl rfl rfl) rfl (pi_list (pv 5)) (pg_tup rfl (pgs_cons (pg_name (i := 6) sc_refuse_row.nd rfl (Or.inl rfl)) (pgs_cons (pg_name (i := 7) sc_refuse_row.nd rfl (Or.inl rfl)) pgs_nil)))
     (pss_one (ps_if (PW.pt (pw_or (pt_cmpR op_lt (pv 6) (pe_fld (pv 4) rfl) (nomark _)) (pw_or1 (pt_cmpR op_gt (pv 7) (pe_fld (pv 4) rfl) (nomark _)))))
     (pss_one (ps_raiseE bl.x_BadRow hr.hd rfl bl.BadRow_ (pa_cons pe_str pa_nil)))
     pss_nil)))))
     (pss_one (ps_if (pt_not (pt_val (pe_mtP (polc m_Domain_has_code_Numbers bl.k_Numbers (polc m_Domain_has_code_Words bl.k_Words poln)) pass0 hr (pv 1) (pa_cons (pv 3) pa_nil))))
     (pss_one (ps_raiseE bl.x_BadRow hr.hd rfl bl.BadRow_ (pa_cons (pe_frv (pv 3)) pa_nil)))
     pss_nil)))), ?_⟩
  have hdf : ∀ (C : Addr), (C = cNumbers ∨ C = cWords) → Cls K C ∧ NoAttr K C (Str.ofString "low") ∧ NoAttr K C (Str.ofString "high") := fun C h => by
    rcases h with rfl | rfl
    · exact ⟨bl.k_Numbers, bl.na_Numbers_low, bl.na_Numbers_high⟩
    · exact ⟨bl.k_Words, bl.na_Words_low, bl.na_Words_high⟩
  refine ⟨_, rfl, cl, _, rfl, .inl (SqL.of hC), _, rfl, dl, _, rfl, .inl (hD), rfl, _, rfl, ?_⟩
  by_cases hlen : xs.length = dv.length
  rotate_left
  · refine ite2 (fun _ => ⟨(by show 1 ≤ sizeLine; decide), qE (fun g => hlen (by rw [hcl.1, g.len, hdv.1])) H (Same.refl H)⟩) (fun g => absurd ?_ g)
    rw [decide_eq_false (fun e => hlen (by injection e with e; omega))]
    rfl
  refine iteNS (by rw [hlen]) ?_
  refine ⟨fun σ' H' => Same H H' ∧ (∃ c4 c5 c6 c7 : Option V, σ' = [some (.ref dl), some (.ref ou), some (.ref cl), some (.int w_.2), c4, c5, c6, c7]) ∧ ∀ (j : Nat) (ps : Prs) (b : Int × Int), w_.1[j]? = some ps → bs[j]? = some b → ∀ p ∈ ps, b.1 ≤ p.1 ∧ p.2 ≤ b.2, ?_, ?_⟩
  · refine ⟨_, rfl, _, rfl, dl, cl, rfl, ⟨_, hD⟩, ⟨_, SqL.of hC⟩, for_zip (xs := dv) (ys := xs) (fun i σ H' => Same H H' ∧ (∃ c4 c5 c6 c7 : Option V, σ = [some (.ref dl), some (.ref ou), some (.ref cl), some (.int w_.2), c4, c5, c6, c7]) ∧ ∀ (j : Nat) (ps : Prs) (b : Int × Int), j < i → w_.1[j]? = some ps → bs[j]? = some b → ∀ p ∈ ps, b.1 ≤ p.1 ∧ p.2 ≤ b.2) ⟨Same.refl _, ⟨_, _, _, _, rfl⟩, (fun j _ _ h => absurd h (Nat.not_lt_zero j))⟩ (fun i σ H' h => ⟨h.1.seq hD, SqL.of (h.1 _ _ hC)⟩) (fun i x y σ H' T ex ey h hT => ?_) (fun σ H' h => ?_)⟩
    · obtain ⟨sm, ⟨c4, c5, c6, c7, rfl⟩, hin⟩ := h
      have s2 := sm.trans (same_new hT (.tup [x, y]))
      have eT : upd H' T (.tup [x, y]) T = some (.tup [x, y]) := upd_same
      generalize upd H' T (.tup [x, y]) = H2 at s2 eT ⊢
      obtain ⟨a, b, rfl, eb, hb⟩ := hdv.get ex
      obtain ⟨l, ps, rfl, ep, hl⟩ := RefL.get hcl ey
      obtain ⟨C, hC', dx, fs, ha, f1, f2, _⟩ := hb.same s2
      obtain ⟨k1, k2, k3⟩ := hdf C hC'
      obtain ⟨_, ys, el, hp⟩ := hl.same s2
      have hbad : ∀ p ∈ ps, ¬ (b.1 ≤ p.1 ∧ p.2 ≤ b.2) → ¬ RowOk bs o w_ := fun p hp hn g => hn (g.inn i ps b ep eb p hp)
      refine ⟨T, _, rfl, SqT.of eT, rfl, _, _, rfl, _, _, rfl, rfl, ?_⟩
      refine ⟨_, rfl, l, rfl, ⟨_, SqL.of el⟩, for_list (xs := ys) (fun j σ H' => H' = H2 ∧ (∃ c6 c7 : Option V, σ = [some (.ref dl), some (.ref ou), some (.ref cl), some (.int w_.2), some (.ref a), some (.ref l), c6, c7]) ∧ ∀ p ∈ ps.take j, b.1 ≤ p.1 ∧ p.2 ≤ b.2) ⟨rfl, ⟨_, _, rfl⟩, (fun p hp => by simp at hp)⟩ (fun j σ H' _ h => by rw [h.1]; exact SqL.of el) (fun j y σ H' e h => ?_) (fun σ H' h => ?_)⟩
      · obtain ⟨e0, ⟨c6, c7, rfl⟩, hj⟩ := h
        rw [e0]
        obtain ⟨p, r, e1, rfl, hr'⟩ := hp.get e
        have hm : p ∈ ps := List.mem_of_getElem? e1
        refine ⟨r, _, rfl, SqT.of hr', rfl, _, _, rfl, _, _, rfl, rfl, ?_⟩
        refine ⟨_, rfl, _, rfl, a, _, _, _, _, rfl, ha, k1, k2, f1, _, _, rfl, rfl, _, rfl, ?_⟩
        by_cases i1 : p.1 < b.1
        · exact iteTS i1 (iteT ⟨(by show 1 ≤ sizeLine; decide), qE (hbad p hm fun g => by omega) _ s2⟩)
        refine iteFS i1 ⟨_, rfl, _, rfl, a, _, _, _, _, rfl, ha, k1, k3, f2, _, _, rfl, rfl, _, rfl, ?_⟩
        by_cases i2 : b.2 < p.2
        · exact iteTS i2 ⟨(by show 1 ≤ sizeLine; decide), qE (hbad p hm fun g => by omega) _ s2⟩
        exact iteFS i2 ⟨rfl, ⟨_, _, rfl⟩, take_all e1 hj ⟨by omega, by omega⟩⟩
      · obtain ⟨e0, ⟨c6, c7, rfl⟩, hj⟩ := h
        rw [e0]
        have hpl : ys.length = ps.length := hp.length
        rw [hpl, List.take_length] at hj
        refine ⟨s2, ⟨_, _, _, _, rfl⟩, fun j ps' b' hji e1 e2 => ?_⟩
        by_cases hlt : j < i
        · exact hin j ps' b' hlt e1 e2
        · have : j = i := by omega
          subst this
          rw [ep] at e1; rw [eb] at e2
          cases e1; cases e2
          exact hj
    · obtain ⟨sm, hσ, hin⟩ := h
      refine ⟨sm, hσ, fun j ps b e1 e2 => hin j ps b ?_ e1 e2⟩
      have h1 := (List.getElem?_eq_some_iff.mp e2).1
      have h2 := (List.getElem?_eq_some_iff.mp e1).1
      have h3 := hdv.1
      have h4 := hcl.1
      omega
  rintro σ3 H3 ⟨s3, ⟨c4, c5, c6, c7, rfl⟩, hin⟩
  obtain ⟨C, hC', hd⟩ := hO.same s3
  obtain ⟨dx, fs, ha, f1, f2, f3⟩ := id hd
  have hl2 : w_.1.length = bs.length := by rw [← hcl.1, hlen, hdv.1]
  have fin : ∀ b : Bool, b = (decide (o.1 ≤ w_.2) && decide (w_.2 ≤ o.2)) → (b = true → Q .non H3) ∧ (b = false → E (.ref cBadRow) none H3) := fun b e => by
    subst e
    refine ⟨fun h => ?_, fun h => ?_⟩
    · simp only [Bool.and_eq_true, decide_eq_true_eq] at h
      exact q ⟨hl2, hin, h.1, h.2⟩ _ s3
    · refine qE (fun g => ?_) _ s3
      rw [decide_eq_true g.lo, decide_eq_true g.hi] at h
      cases h
  rcases hC' with rfl | rfl
  · refine ⟨_, rfl, ou, _, dx, fs, rfl, .head _, ha, f3, _, rfl, ou, o, w_.2, rfl, hd, _, rfl, ?_⟩
    cases hb : (decide (o.1 ≤ w_.2) && decide (w_.2 ≤ o.2)) with
    | true => exact iteF ((fin _ hb.symm).1 rfl)
    | false => exact iteT ⟨_, rfl, .int hbn, (by decide +kernel), fun z2 => ⟨(by show 1 ≤ sizeLine; decide), (fin _ hb.symm).2 rfl⟩⟩
  · refine ⟨_, rfl, ou, _, dx, fs, rfl, .tail _ (.head _), ha, f3, _, rfl, ou, o, w_.2, rfl, hd, _, rfl, ?_⟩
    cases hb : (decide (o.1 ≤ w_.2) && decide (w_.2 ≤ o.2)) with
    | true => exact iteF ((fin _ hb.symm).1 rfl)
    | false => exact iteT ⟨_, rfl, .int hbn, (by decide +kernel), fun z2 => ⟨(by show 1 ≤ sizeLine; decide), (fin _ hb.symm).2 rfl⟩⟩
theorem ok_Words___init___Words (F : Fun K "__init__" "Words.__init__" s_Words___init___Words f fd) (bl : Bl K mg cTableError cBadName cTooMany cBadWay cBadRow cWay cFirst cOnly cLike cLow cHigh cSum cDomain cNumbers cWords cTable) (b_Domain___init___Words : BCallee CX0 P w K mg base 2 "Domain" "__init__" ["self", "low", "high"] (sp_Domain___init___Words K cTableError cBadName cTooMany cBadWay cBadRow cWay cFirst cOnly cLike cLow cHigh cSum cDomain cNumbers cWords cTable)) (c_is_word : Callee P w K mg base 2 "is_word" ["text"] (sp_is_word K cTableError cBadName cTooMany cBadWay cBadRow cWay cFirst cOnly cLike cLow cHigh cSum cDomain cNumbers cWords cTable)) : FnOk P w K mg base CX0 3 f fd ["self", "words"] (sp_Words___init___Words K cTableError cBadName cTooMany cBadWay cBadRow cWay cFirst cOnly cLike cLow cHigh cSum cDomain cNumbers cWords cTable) := by
  refine F.ok sc_Words___init___Words (fun vs H Q E h => ?_) (fun cdv A outer s H vs Q E hr h => ?_)
  · obtain ⟨x, dx, p, zs, rfl, hx, hP, hg, q⟩ := h
    rfl
  obtain ⟨x, dx, p, zs, rfl, hx, hP, hg, q⟩ := h
  refine ⟨_, (pss_cons (ps_if (pt_not (pt_chain op_le op_le pe_int (pe_callB call_len_seq rfl bl.len_ PySem.boot_len (pa_cons (pv 1) pa_nil)) (pe_gl rfl bl.MOST_WORDS_)))
     (pss_one ps_never)
     pss_nil)
     (pss_cut (ps_for PassesOwn.never rfl (pi_list (pv 1)) (pg_name (i := 2) sc_Words___init___Words.nd rfl (Or.inl rfl))
     (pss_one (ps_if (pt_not (pt_val (pe_fn c_is_word hr rfl (pa_cons (pv 2) pa_nil))))
     (pss_one ps_never)
     pss_nil)))
     (pss_cons (ps_if (pt_cmpR op_lt (pe_callB call_len_setO rfl bl.len_ PySem.boot_len (pa_cons (pe_callTy (call_set_strs rfl) rfl bl.set_ PyProof.Rows.boot_set (pa_cons (pv 1) pa_nil)) pa_nil)) (pe_callB call_len_seq rfl bl.len_ PySem.boot_len (pa_cons (pv 1) pa_nil)) (nomark _))
     (pss_one ps_never)
     pss_nil)
     (pss_cons (ps_expr (pe_base b_Domain___init___Words pass0 hr rfl (pa_cons (pv 0) (pa_cons pe_int (pa_cons (pe_op op_sub (pe_callB call_len_seq rfl bl.len_ PySem.boot_len (pa_cons (pv 1) pa_nil)) pe_int) pa_nil)))))
     (pss_one (ps_fld (pv 0) (pe_callTy call_list_of rfl bl.list_ PyProof.Rows.boot_list (pa_cons (pv 1) pa_nil)) rfl)))))), ?_⟩
  have hS : SqL K H p (zs.map V.str) := SqL.of hP
  have hpx : p ≠ x := ne_of hP hx (by intro z; cases z)
  have hlen : (zs.map V.str).length = zs.length := List.length_map _
  have h1 := hg.some_
  have h40 := hg.few
  refine ⟨_, rfl, p, _, rfl, .inl hS, _, _, rfl, rfl, _, rfl, iteTS (by rw [hlen]; omega) ?_⟩
  refine ⟨_, _, rfl, rfl, _, rfl, ?_⟩
  rw [decide_eq_true (show (((zs.map V.str).length : Nat) : Int) ≤ 40 by rw [hlen]; omega)]
  refine iteF ?_
  refine ⟨fun σ' H' => H' = H ∧ ∃ c2 : Option V, σ' = [some (.ref x), some (.ref p), c2], ?_, ?_⟩
  · refine ⟨_, rfl, p, rfl, ⟨_, hS⟩, for_list (xs := zs.map V.str) (fun i σ H' => H' = H ∧ ∃ c2 : Option V, σ = [some (.ref x), some (.ref p), c2]) ⟨rfl, _, rfl⟩ (fun i σ H' _ h => by rw [h.1]; exact hS) (fun i y σ H' e h => ?_) (fun σ H' h => h)⟩
    obtain ⟨e0, c2, rfl⟩ := h
    rw [e0]
    obtain ⟨z, rfl, ez⟩ := get_strs e
    have hw := hg.words z (List.mem_of_getElem? ez)
    have hz : z.length ≤ 1000 := by
      have hw2 := hw
      unfold isw at hw2
      simp only [Bool.and_eq_true, decide_eq_true_eq] at hw2
      omega
    refine ⟨_, rfl, z, rfl, hz, _, rfl, ?_⟩
    rw [hw]
    exact iteF ⟨rfl, _, rfl⟩
  rintro σ2 H2 ⟨e2, c2, rfl⟩
  rw [e2]
  refine ⟨_, rfl, p, zs, rfl, hS, by omega, fun l hl => ⟨l, zs, rfl, upd_same, by omega, _, rfl, p, _, rfl, .inl ((same_new hl _).seq hS), _, _, rfl, rfl, _, rfl, ?_⟩⟩
  have s1 := same_new hl (SetO P w l zs)
  have cf := cntK_full zs zs.length (Nat.le_refl _)
  rw [List.take_length] at cf
  refine iteFS (by rw [hlen, cf.mpr hg.once]; omega) ?_
  have hx1 := s1 _ _ hx
  have hP1 := s1 _ _ hP
  refine ⟨_, rfl, _, rfl, p, _, rfl, .inl (SqL.of hP1), _, _, rfl, rfl, x, dx, 0, _, rfl, hx1, ?_⟩
  have e1 : mkd cWords (upd H l (SetO P w l zs)) x dx 0 ((((zs.map V.str).length : Nat) : Int) - 1) x = some (.ins cWords dx [("low", .int 0), ("high", .int ((((zs.map V.str).length : Nat) : Int) - 1))]) := upd_same
  have e2 : mkd cWords (upd H l (SetO P w l zs)) x dx 0 ((((zs.map V.str).length : Nat) : Int) - 1) p = some (.lst (zs.map V.str)) := by unfold mkd; rw [upd_ne hpx, upd_ne hpx]; exact hP1
  have e3 : ∀ b o, b ≠ x → H b = some o → mkd cWords (upd H l (SetO P w l zs)) x dx 0 ((((zs.map V.str).length : Nat) : Int) - 1) b = some o := fun b o hb h => by unfold mkd; rw [upd_ne hb, upd_ne hb]; exact s1 b o h
  have eh : (((zs.map V.str).length : Nat) : Int) - 1 = hiW zs := by rw [hlen]; rfl
  refine ⟨_, rfl, p, _, rfl, .inl (SqL.of e2), fun l2 hl2 => ⟨_, rfl, x, _, dx, _, rfl, ret_r1 e1 hl2, bl.k_Words, bl.na_Words_words, (by show 2 < 1000; decide), ?_⟩⟩
  show Q .non (upd (upd (mkd cWords (upd H l (SetO P w l zs)) x dx 0 ((((zs.map V.str).length : Nat) : Int) - 1)) l2 (.lst (zs.map V.str))) x (.ins cWords dx (putF (Str.ofString "words") (.ref l2) [(Str.ofString "low", .int 0), (Str.ofString "high", .int ((((zs.map V.str).length : Nat) : Int) - 1))])))
  rw [put3]
  have hl3 : mkd cWords (upd H l (SetO P w l zs)) x dx 0 ((((zs.map V.str).length : Nat) : Int) - 1) l2 = none := hl2
  clear hl2
  generalize mkd cWords (upd H l (SetO P w l zs)) x dx 0 ((((zs.map V.str).length : Nat) : Int) - 1) = H2 at e1 e2 e3 hl3 ⊢
  rw [eh]
  exact q _ l2 (fun b o hb h => (upd_ne hb).trans (ret_r1 (e3 b o hb h) hl3)) upd_same
theorem ok_way_by (F : Fun K "way_by" "way_by" s_way_by f fd) (bl : Bl K mg cTableError cBadName cTooMany cBadWay cBadRow cWay cFirst cOnly cLike cLow cHigh cSum cDomain cNumbers cWords cTable) (k_First : MkCallee CX0 P w K mg base 2 "First" cFirst ["self"] (sp_First___init___First K cTableError cBadName cTooMany cBadWay cBadRow cWay cFirst cOnly cLike cLow cHigh cSum cDomain cNumbers cWords cTable)) (k_Only : MkCallee CX0 P w K mg base 2 "Only" cOnly ["self"] (sp_Only___init___Only K cTableError cBadName cTooMany cBadWay cBadRow cWay cFirst cOnly cLike cLow cHigh cSum cDomain cNumbers cWords cTable)) (k_Like : MkCallee CX0 P w K mg base 2 "Like" cLike ["self"] (sp_Like___init___Like K cTableError cBadName cTooMany cBadWay cBadRow cWay cFirst cOnly cLike cLow cHigh cSum cDomain cNumbers cWords cTable)) (k_Low : MkCallee CX0 P w K mg base 2 "Low" cLow ["self"] (sp_Low___init___Low K cTableError cBadName cTooMany cBadWay cBadRow cWay cFirst cOnly cLike cLow cHigh cSum cDomain cNumbers cWords cTable)) (k_High : MkCallee CX0 P w K mg base 2 "High" cHigh ["self"] (sp_High___init___High K cTableError cBadName cTooMany cBadWay cBadRow cWay cFirst cOnly cLike cLow cHigh cSum cDomain cNumbers cWords cTable)) (k_Sum : MkCallee CX0 P w K mg base 2 "Sum" cSum ["self"] (sp_Sum___init___Sum K cTableError cBadName cTooMany cBadWay cBadRow cWay cFirst cOnly cLike cLow cHigh cSum cDomain cNumbers cWords cTable)) : FnOk P w K mg base (CX1 P w) 4 f fd ["name"] (sp_way_by K cTableError cBadName cTooMany cBadWay cBadRow cWay cFirst cOnly cLike cLow cHigh cSum cDomain cNumbers cWords cTable) := by
  refine F.okE sc_way_by (fun vs H Q E h => ?_) (fun cdv A outer s H vs Q E hr h => ?_)
  · obtain ⟨z, rfl, hz, q, qE⟩ := h
    rfl
  obtain ⟨z, rfl, hz, q, qE⟩ := h
  refine ⟨_, (pss_cons (ps_for (passes_XE rfl rfl rfl) rfl (pi_list (pe_lst (pa_cons (pe_mk0 k_First pass0 hr rfl) (pa_cons (pe_mk0 k_Only pass0 hr rfl) (pa_cons (pe_mk0 k_Like pass0 hr rfl) (pa_cons (pe_mk0 k_Low pass0 hr rfl) (pa_cons (pe_mk0 k_High pass0 hr rfl) (pa_cons (pe_mk0 k_Sum pass0 hr rfl) pa_nil)))))))) (pg_name (i := 1) sc_way_by.nd rfl (Or.inl rfl))
     (pss_one (ps_if (pt_cmpR op_eq (pe_fld (pv 1) rfl) (pv 0) (nomark _))
     (pss_one (ps_ret (pv 1)))
     pss_nil)))
     (pss_one (ps_raiseE bl.x_BadWay hr.hd rfl bl.BadWay_ (pa_cons (pe_fr (pv 0)) pa_nil)))), ?_⟩
  refine fun w0 d0 hw hdw hnw => ⟨w0, d0, rfl, upd_same, rfl, ?_⟩
  have t0 : Same H (upd (upd (upd H d0 (.own w0)) w0 (.ins cFirst d0 [])) w0 (.ins cFirst d0 [("called", .str (Str.ofString "first"))])) := ((same_new hdw _).upd hw).upd hw
  have y0 : WyN cFirst (upd (upd (upd H d0 (.own w0)) w0 (.ins cFirst d0 [])) w0 (.ins cFirst d0 [("called", .str (Str.ofString "first"))])) w0 (Str.ofString "first") := ⟨d0, upd_same⟩
  generalize upd (upd (upd H d0 (.own w0)) w0 (.ins cFirst d0 [])) w0 (.ins cFirst d0 [("called", .str (Str.ofString "first"))]) = H0 at t0 y0 ⊢
  clear hw hdw hnw
  refine fun w1 d1 hw hdw hnw => ⟨w1, d1, rfl, upd_same, rfl, ?_⟩
  have t1 : Same H0 (upd (upd (upd H0 d1 (.own w1)) w1 (.ins cOnly d1 [])) w1 (.ins cOnly d1 [("called", .str (Str.ofString "only"))])) := ((same_new hdw _).upd hw).upd hw
  have y1 : WyN cOnly (upd (upd (upd H0 d1 (.own w1)) w1 (.ins cOnly d1 [])) w1 (.ins cOnly d1 [("called", .str (Str.ofString "only"))])) w1 (Str.ofString "only") := ⟨d1, upd_same⟩
  generalize upd (upd (upd H0 d1 (.own w1)) w1 (.ins cOnly d1 [])) w1 (.ins cOnly d1 [("called", .str (Str.ofString "only"))]) = H1 at t1 y1 ⊢
  clear hw hdw hnw
  have y0 := y0.same t1
  refine fun w2 d2 hw hdw hnw => ⟨w2, d2, rfl, upd_same, rfl, ?_⟩
  have t2 : Same H1 (upd (upd (upd H1 d2 (.own w2)) w2 (.ins cLike d2 [])) w2 (.ins cLike d2 [("called", .str (Str.ofString "like"))])) := ((same_new hdw _).upd hw).upd hw
  have y2 : WyN cLike (upd (upd (upd H1 d2 (.own w2)) w2 (.ins cLike d2 [])) w2 (.ins cLike d2 [("called", .str (Str.ofString "like"))])) w2 (Str.ofString "like") := ⟨d2, upd_same⟩
  generalize upd (upd (upd H1 d2 (.own w2)) w2 (.ins cLike d2 [])) w2 (.ins cLike d2 [("called", .str (Str.ofString "like"))]) = H2 at t2 y2 ⊢
  clear hw hdw hnw
  have y0 := y0.same t2
  have y1 := y1.same t2
  refine fun w3 d3 hw hdw hnw => ⟨w3, d3, rfl, upd_same, rfl, ?_⟩
  have t3 : Same H2 (upd (upd (upd H2 d3 (.own w3)) w3 (.ins cLow d3 [])) w3 (.ins cLow d3 [("called", .str (Str.ofString "low"))])) := ((same_new hdw _).upd hw).upd hw
  have y3 : WyN cLow (upd (upd (upd H2 d3 (.own w3)) w3 (.ins cLow d3 [])) w3 (.ins cLow d3 [("called", .str (Str.ofString "low"))])) w3 (Str.ofString "low") := ⟨d3, upd_same⟩
  generalize upd (upd (upd H2 d3 (.own w3)) w3 (.ins cLow d3 [])) w3 (.ins cLow d3 [("called", .str (Str.ofString "low"))]) = H3 at t3 y3 ⊢
  clear hw hdw hnw
  have y0 := y0.same t3
  have y1 := y1.same t3
  have y2 := y2.same t3
  refine fun w4 d4 hw hdw hnw => ⟨w4, d4, rfl, upd_same, rfl, ?_⟩
  have t4 : Same H3 (upd (upd (upd H3 d4 (.own w4)) w4 (.ins cHigh d4 [])) w4 (.ins cHigh d4 [("called", .str (Str.ofString "high"))])) := ((same_new hdw _).upd hw).upd hw
  have y4 : WyN cHigh (upd (upd (upd H3 d4 (.own w4)) w4 (.ins cHigh d4 [])) w4 (.ins cHigh d4 [("called", .str (Str.ofString "high"))])) w4 (Str.ofString "high") := ⟨d4, upd_same⟩
  generalize upd (upd (upd H3 d4 (.own w4)) w4 (.ins cHigh d4 [])) w4 (.ins cHigh d4 [("called", .str (Str.ofString "high"))]) = H4 at t4 y4 ⊢
  clear hw hdw hnw
  have y0 := y0.same t4
  have y1 := y1.same t4
  have y2 := y2.same t4
  have y3 := y3.same t4
  refine fun w5 d5 hw hdw hnw => ⟨w5, d5, rfl, upd_same, rfl, ?_⟩
  have t5 : Same H4 (upd (upd (upd H4 d5 (.own w5)) w5 (.ins cSum d5 [])) w5 (.ins cSum d5 [("called", .str (Str.ofString "sum"))])) := ((same_new hdw _).upd hw).upd hw
  have y5 : WyN cSum (upd (upd (upd H4 d5 (.own w5)) w5 (.ins cSum d5 [])) w5 (.ins cSum d5 [("called", .str (Str.ofString "sum"))])) w5 (Str.ofString "sum") := ⟨d5, upd_same⟩
  generalize upd (upd (upd H4 d5 (.own w5)) w5 (.ins cSum d5 [])) w5 (.ins cSum d5 [("called", .str (Str.ofString "sum"))]) = H5 at t5 y5 ⊢
  clear hw hdw hnw
  have y0 := y0.same t5
  have y1 := y1.same t5
  have y2 := y2.same t5
  have y3 := y3.same t5
  have y4 := y4.same t5
  have s5 : Same H H5 := ((((t0.trans t1).trans t2).trans t3).trans t4).trans t5
  refine ⟨(by show 6 ≤ sizeLine; decide), fun l hl => ?_⟩
  have sl : Same H5 (upd H5 l (.lst [V.ref w0, .ref w1, .ref w2, .ref w3, .ref w4, .ref w5])) := same_new hl _
  have el : upd H5 l (.lst [V.ref w0, .ref w1, .ref w2, .ref w3, .ref w4, .ref w5]) l = some (.lst [V.ref w0, .ref w1, .ref w2, .ref w3, .ref w4, .ref w5]) := upd_same
  generalize upd H5 l (.lst [V.ref w0, .ref w1, .ref w2, .ref w3, .ref w4, .ref w5]) = H6 at sl el ⊢
  have y0 := y0.same sl
  have y1 := y1.same sl
  have y2 := y2.same sl
  have y3 := y3.same sl
  have y4 := y4.same sl
  have y5 := y5.same sl
  have sA := s5.trans sl
  have key : ∀ (i : Nat) (x : V), [V.ref w0, .ref w1, .ref w2, .ref w3, .ref w4, .ref w5][i]? = some x → ∃ (a C : Addr) (y : Str), x = .ref a ∧ (cl6 cFirst cOnly cLike cLow cHigh cSum)[i]? = some C ∧ six[i]? = some y ∧ WyN C H6 a y ∧ Cls K C ∧ NoAttr K C (Str.ofString "called") := fun i x e => by
    match i, e with
    | 0, e => cases e; exact ⟨w0, cFirst, _, rfl, rfl, rfl, y0, bl.k_First, bl.na_First_called⟩
    | 1, e => cases e; exact ⟨w1, cOnly, _, rfl, rfl, rfl, y1, bl.k_Only, bl.na_Only_called⟩
    | 2, e => cases e; exact ⟨w2, cLike, _, rfl, rfl, rfl, y2, bl.k_Like, bl.na_Like_called⟩
    | 3, e => cases e; exact ⟨w3, cLow, _, rfl, rfl, rfl, y3, bl.k_Low, bl.na_Low_called⟩
    | 4, e => cases e; exact ⟨w4, cHigh, _, rfl, rfl, rfl, y4, bl.k_High, bl.na_High_called⟩
    | 5, e => cases e; exact ⟨w5, cSum, _, rfl, rfl, rfl, y5, bl.k_Sum, bl.na_Sum_called⟩
    | n + 6, e => simp at e
  refine ⟨l, rfl, ⟨_, SqL.of el⟩, for_list (xs := [V.ref w0, .ref w1, .ref w2, .ref w3, .ref w4, .ref w5]) (fun i σ H' => (∃ c1 : Option V, σ = [some (.str z), c1]) ∧ H' = H6 ∧ ∀ j : Nat, j < i → six[j]? ≠ some z) ⟨⟨_, rfl⟩, rfl, (fun j h => absurd h (Nat.not_lt_zero j))⟩ (fun i σ H' _ h => by rw [h.2.1]; exact SqL.of el) (fun i x σ H' e h => ?_) (fun σ H' h => ?_)⟩
  · obtain ⟨⟨c1, rfl⟩, e0, hno⟩ := h
    rw [e0]
    obtain ⟨a, C, y, rfl, eC, ey, ⟨dx, ha⟩, hc, hn⟩ := key i x e
    refine ⟨_, rfl, a, _, _, _, _, rfl, ha, hc, hn, rfl, _, rfl, rfl, _, rfl, ?_⟩
    refine ite2 (fun g => ?_) (fun g => ?_)
    · have g' : V.str y = V.str z := dec_t g
      injection g' with g'
      subst g'
      exact ⟨_, rfl, q i ey a C H6 sA eC ⟨dx, ha⟩⟩
    · refine ⟨⟨_, rfl⟩, rfl, fun j hj => ?_⟩
      by_cases hji : j < i
      · exact hno j hji
      · have : j = i := by omega
        subst this
        rw [ey]
        intro q2
        exact (dec_f g) (by injection q2 with q2; rw [q2])
  · obtain ⟨⟨c1, rfl⟩, e0, hno⟩ := h
    rw [e0]
    refine ⟨_, rfl, z, rfl, hz.len, hz.low, (by decide +kernel), fun z2 => ⟨(by show 1 ≤ sizeLine; decide), qE (fun hm => ?_) H6 sA⟩⟩
    obtain ⟨j, hj, ej⟩ := List.getElem_of_mem hm
    exact hno j hj (by rw [List.getElem?_eq_getElem hj, ej])
theorem ok_refuse_way (F : Fun K "refuse_way" "refuse_way" s_refuse_way f fd) (bl : Bl K mg cTableError cBadName cTooMany cBadWay cBadRow cWay cFirst cOnly cLike cLow cHigh cSum cDomain cNumbers cWords cTable) (c_way_by : CalleeX P w K mg base 4 "way_by" ["name"] (sp_way_by K cTableError cBadName cTooMany cBadWay cBadRow cWay cFirst cOnly cLike cLow cHigh cSum cDomain cNumbers cWords cTable)) : FnOk P w K mg base (CX1 P w) 5 f fd ["way", "outcome"] (sp_refuse_way K cTableError cBadName cTooMany cBadWay cBadRow cWay cFirst cOnly cLike cLow cHigh cSum cDomain cNumbers cWords cTable) := by
  refine F.okE sc_refuse_way (fun vs H Q E h => ?_) (fun cdv A outer s H vs Q E hr h => ?_)
  · obtain ⟨z, ou, b, rfl, hz, hO, q, qE⟩ := h
    rfl
  obtain ⟨z, ou, b, rfl, hz, hO, q, qE⟩ := h
  refine ⟨_, (pss_one (ps_if (PW.pt (pw_and (pt_cmpR op_eq (pe_fld (pe_fnE c_way_by passE hr rfl (pa_cons (pv 0) pa_nil)) rfl) pe_str (nomark _)) (pw_and1 (pt_val (pe_callB call_isiG rfl bl.isinstance_ PyProof.Rows.boot_isinstance (pa_cons (pv 1) (pa_cons (pe_glob (v := .ref cWords) rfl bl.Words_ rfl) pa_nil)))))))
     (pss_one (ps_raiseE bl.x_BadWay hr.hd rfl bl.BadWay_ (pa_cons pe_str pa_nil)))
     pss_nil)), ?_⟩
  refine ⟨_, rfl, z, rfl, hz, fun i ei x C H' s' eC hw => ?_, fun hn H' s' => qE (fun g => hn g.1) H' s'⟩
  have hF : Cls K C ∧ NoAttr K C (Str.ofString "called") := by
    match i, eC with
    | 0, eC => cases eC; exact ⟨bl.k_First, bl.na_First_called⟩
    | 1, eC => cases eC; exact ⟨bl.k_Only, bl.na_Only_called⟩
    | 2, eC => cases eC; exact ⟨bl.k_Like, bl.na_Like_called⟩
    | 3, eC => cases eC; exact ⟨bl.k_Low, bl.na_Low_called⟩
    | 4, eC => cases eC; exact ⟨bl.k_High, bl.na_High_called⟩
    | 5, eC => cases eC; exact ⟨bl.k_Sum, bl.na_Sum_called⟩
    | n + 6, eC => simp [cl6] at eC
  obtain ⟨dx, hx⟩ := hw
  have mem : z ∈ six := List.mem_of_getElem? ei
  refine ⟨x, _, _, _, _, rfl, hx, hF.1, hF.2, rfl, rfl, _, rfl, ?_⟩
  by_cases hs : z = Str.ofString "sum"
  · obtain ⟨dy, fs, ho⟩ := hO.same s'
    cases b with
    | false => exact iteTS (by rw [hs]) ⟨_, rfl, _, _, _, _, false, rfl, .ref _, bl.t_Numbers.ty ho, bl.f_nw, _, rfl, iteF (q ⟨mem, fun g => by cases g.2⟩ _ s')⟩
    | true => exact iteTS (by rw [hs]) ⟨_, rfl, _, _, _, _, true, rfl, .ref _, bl.t_Words.ty ho, bl.f_ww, _, rfl, iteT ⟨(by show 1 ≤ sizeLine; decide), qE (fun g => g.2 ⟨hs, rfl⟩) _ s'⟩⟩
  · exact iteFS (fun e => by injection e with e; exact hs e) (iteF (q ⟨mem, fun g => hs g.1⟩ _ s'))
theorem ok_law_domain (F : Fun K "_law_domain" "_law_domain" s_law_domain f fd) (bl : Bl K mg cTableError cBadName cTooMany cBadWay cBadRow cWay cFirst cOnly cLike cLow cHigh cSum cDomain cNumbers cWords cTable) (k_Numbers : MkCallee CX0 P w K mg base 3 "Numbers" cNumbers ["self", "low", "high"] (sp_Numbers___init___Numbers K cTableError cBadName cTooMany cBadWay cBadRow cWay cFirst cOnly cLike cLow cHigh cSum cDomain cNumbers cWords cTable)) (k_Words : MkCallee CX0 P w K mg base 3 "Words" cWords ["self", "words"] (sp_Words___init___Words K cTableError cBadName cTooMany cBadWay cBadRow cWay cFirst cOnly cLike cLow cHigh cSum cDomain cNumbers cWords cTable)) : FnOk P w K mg base CX0 5 f fd ["told"] (sp_law_domain K cTableError cBadName cTooMany cBadWay cBadRow cWay cFirst cOnly cLike cLow cHigh cSum cDomain cNumbers cWords cTable) := by
  refine F.ok sc_law_domain (fun vs H Q E h => ?_) (fun cdv A outer s H vs Q E hr h => ?_)
  · obtain ⟨l, b, zs, rfl, ⟨w_, _, _, hl, hw, ok⟩, q⟩ := h
    rfl
  obtain ⟨l, b, zs, rfl, ⟨w_, _, _, hl, hw, ok⟩, q⟩ := h
  refine ⟨_, (pss_cons (ps_if (pt_cmpR op_gt (pe_callB call_len_seq rfl bl.len_ PySem.boot_len (pa_cons (pe_ix ix_list (pv 0) pe_int (fun _ _ => rfl)) pa_nil)) pe_int (nomark _))
     (pss_one (ps_ret (pe_mk k_Words pass0 hr rfl (pa_cons (pe_callTy call_list_of rfl bl.list_ PyProof.Rows.boot_list (pa_cons (pe_ix ix_list (pv 0) pe_int (fun _ _ => rfl)) pa_nil)) pa_nil))))
     pss_nil)
     (pss_one (ps_ret (pe_mk k_Numbers pass0 hr rfl (pa_cons (pe_ix ix_list (pv 0) pe_int (fun _ _ => rfl)) (pa_cons (pe_ix ix_list (pv 0) pe_int (fun _ _ => rfl)) pa_nil)))))), ?_⟩
  refine ⟨_, rfl, l, _, _, _, rfl, rfl, SqL.of hl, rfl, w_, _, rfl, .inl (SqL.of hw), _, _, rfl, rfl, _, rfl, ?_⟩
  cases zs with
  | nil =>
    refine iteFS (by simp) ?_
    refine ⟨_, rfl, l, _, _, _, rfl, rfl, SqL.of hl, rfl, _, rfl, l, _, _, _, rfl, rfl, SqL.of hl, rfl, fun x dx hx hdx hne => ⟨x, dx, b.1, b.2, rfl, upd_same, ok.le, rfl, ?_⟩⟩
    refine q x _ ?_ ⟨cNumbers, .inl rfl, dx, _, upd_same, rfl, rfl, rfl⟩ ⟨dx, _, upd_same⟩
    unfold mkd
    exact (((same_new hdx _).upd hx).upd hx).upd hx
  | cons z zs =>
    obtain ⟨g, eb⟩ := ok.ws (by simp)
    refine iteTS (by simp) ?_
    refine ⟨_, rfl, l, _, _, _, rfl, rfl, SqL.of hl, rfl, w_, _, rfl, .inl (SqL.of hw), fun l2 hl2 x dx hx hdx hne => ?_⟩
    have s2 := same_new hl2 (.lst ((z :: zs).map V.str))
    have el : upd H l2 (.lst ((z :: zs).map V.str)) l2 = some (.lst ((z :: zs).map V.str)) := upd_same
    have hx2 : upd H l2 (.lst ((z :: zs).map V.str)) x = none := hx
    have hdx2 : upd H l2 (.lst ((z :: zs).map V.str)) dx = none := hdx
    have s3 : Same (upd H l2 (.lst ((z :: zs).map V.str))) (upd (upd (upd H l2 (.lst ((z :: zs).map V.str))) dx (.own x)) x (.ins cWords dx [])) := (same_new hdx2 _).upd hx2
    refine ⟨x, dx, l2, z :: zs, rfl, upd_same, s3 _ _ el, g, fun H4 l4 k1 k2 => ⟨rfl, q x H4 (fun c o e => k1 c o (ne_of_none (s2 _ _ e) hx2) (s3 _ _ (s2 _ _ e))) ?_ ⟨dx, _, k2⟩⟩⟩
    rw [eb]
    exact ⟨cWords, .inr rfl, dx, _, k2, rfl, rfl, rfl⟩
theorem ok_law_faulty (F : Fun K "_law_faulty" "_law_faulty" s_law_faulty f fd) (bl : Bl K mg cTableError cBadName cTooMany cBadWay cBadRow cWay cFirst cOnly cLike cLow cHigh cSum cDomain cNumbers cWords cTable) (c__law_word : Callee P w K mg base 5 "_law_word" ["cell", "k"] (sp_law_word K cTableError cBadName cTooMany cBadWay cBadRow cWay cFirst cOnly cLike cLow cHigh cSum cDomain cNumbers cWords cTable)) (c__law_domain : Callee P w K mg base 5 "_law_domain" ["told"] (sp_law_domain K cTableError cBadName cTooMany cBadWay cBadRow cWay cFirst cOnly cLike cLow cHigh cSum cDomain cNumbers cWords cTable)) (c__law_bad_names : Callee P w K mg base 5 "_law_bad_names" ["name", "names", "turn"] (sp_law_bad_names K cTableError cBadName cTooMany cBadWay cBadRow cWay cFirst cOnly cLike cLow cHigh cSum cDomain cNumbers cWords cTable)) (c__law_row : Callee P w K mg base 5 "_law_row" ["cell", "columns", "low", "high", "calm"] (sp_law_row K cTableError cBadName cTooMany cBadWay cBadRow cWay cFirst cOnly cLike cLow cHigh cSum cDomain cNumbers cWords cTable)) : FnOk P w K mg base CX0 6 f fd ["columns", "rows", "out", "faults", "turn", "head"] (sp_law_faulty K cTableError cBadName cTooMany cBadWay cBadRow cWay cFirst cOnly cLike cLow cHigh cSum cDomain cNumbers cWords cTable) := by
  refine F.ok sc_law_faulty (fun vs H Q E h => ?_) (fun cdv A outer s H vs Q E hr h => ?_)
  · obtain ⟨cl, rl, ol, xs, rx, bs, o, zo, rws, ff, t, hd, rfl, hxs, hco, n1, n4, hcz, hrl, hR, h70, hbd, hbad, hgood, q⟩ := h
    rfl
  obtain ⟨cl, rl, ol, xs, rx, bs, o, zo, rws, ff, t, hd, rfl, hxs, hco, n1, n4, hcz, hrl, hR, h70, hbd, hbad, hgood, q⟩ := h
  refine ⟨_, (pss_cons (ps_set (i := 6) sc_law_faulty.nd rfl (Or.inl rfl) pe_str)
     (pss_cut (ps_set (i := 7) sc_law_faulty.nd rfl (Or.inl rfl) (pe_ix ix_list (pe_lst (pa_cons pe_str (pa_cons pe_str (pa_cons pe_str (pa_cons pe_str (pa_cons pe_str pa_nil)))))) (pe_op op_mod (pv 4) pe_int) (fun _ _ => rfl)))
     (pss_cut (ps_if (pt_cmpR op_eq (pe_op op_mod (pe_op op_fdiv (pv 3) pe_int) pe_int) pe_int (nomark _))
     (pss_one (ps_set (i := 6) sc_law_faulty.nd rfl (Or.inl rfl) pe_str))
     pss_nil)
     (pss_cut (ps_if (pt_cmpR op_eq (pe_op op_mod (pe_op op_fdiv (pv 3) pe_int) pe_int) pe_int (nomark _))
     (pss_cons (ps_set (i := 7) sc_law_faulty.nd rfl (Or.inl rfl) (pe_ix ix_list (pe_lst (pa_cons pe_str (pa_cons pe_str (pa_cons pe_str (pa_cons pe_str (pa_cons pe_str pa_nil)))))) (pe_op op_mod (pv 4) pe_int) (fun _ _ => rfl)))
     (pss_cons (ps_if (PW.pt (pw_and (pt_cmpR op_eq (pe_op op_mod (pv 4) pe_int) pe_int (nomark _)) (pw_and1 (pt_cmpR op_gt (pe_callB call_len_seq rfl bl.len_ PySem.boot_len (pa_cons (pe_ix ix_list (pv 2) pe_int (fun _ _ => rfl)) pa_nil)) pe_int (nomark _)))))
     (pss_one (ps_set (i := 7) sc_law_faulty.nd rfl (Or.inl rfl) pe_str))
     pss_nil)
     (pss_one (ps_set (i := 6) sc_law_faulty.nd rfl (Or.inl rfl) pe_str))))
     pss_nil)
     (pss_cut (ps_comp (i := 8) sc_law_faulty.nd rfl (Or.inl rfl) (pi_range1 rfl bl.range_ (pa_cons (pe_callB call_len_seq rfl bl.len_ PySem.boot_len (pa_cons (pv 0) pa_nil)) pa_nil)) (cmpOk_free (N := ["j", "head"]) (fr := [5]) (cl := [("head", s.heap.objs.size + 1 + 1)]) rfl rfl (by decide +kernel) (by decide +kernel) rfl (by decide +kernel) rfl rfl rfl (List.forall_mem_cons.mpr ⟨rfl, List.forall_mem_nil _⟩) rfl) rfl (fun _ _ _ _ => pif_nil) (fun _ _ _ _ => (pe_fn c__law_word hr rfl (pa_cons (pe_op op_fdiv (pv 1) pe_int) (pa_cons (pe_op op_add pe_int (pv 0)) pa_nil)))))
     (pss_cut (ps_comp (i := 9) sc_law_faulty.nd rfl (Or.inl rfl) (pi_list (pv 0)) (cmpOk_plain rfl (by decide +kernel) (by decide +kernel) (by decide +kernel) rfl) rfl (fun _ _ _ _ => pif_nil) (fun _ _ _ _ => (pe_fn c__law_domain hr rfl (pa_cons (pv 0) pa_nil))))
     (pss_cut (ps_if (pt_cmpR op_eq (pe_op op_mod (pe_op op_fdiv (pv 3) pe_int) pe_int) pe_int (nomark _))
     (pss_cons (ps_set (i := 6) sc_law_faulty.nd rfl (Or.inl rfl) pe_str)
     (pss_one (ps_if (pt_cmpR op_eq (pe_op op_mod (pv 4) pe_int) pe_int (nomark _))
     (pss_one (ps_set (i := 1) sc_law_faulty.nd rfl (Or.inl rfl) (pe_slice sl_list (pe_op op_cat (pv 1) (pe_op op_rep (pe_lst (pa_cons (pe_fn c__law_row hr rfl (pa_cons (pv 4) (pa_cons (pv 0) (pa_cons (pe_ix ix_list (pv 2) pe_int (fun _ _ => rfl)) (pa_cons (pe_ix ix_list (pv 2) pe_int (fun _ _ => rfl)) (pa_cons pe_int pa_nil)))))) pa_nil)) pe_int)) po_none (po_some pe_int))))
     (pss_one (ps_if (pt_cmpR op_eq (pe_op op_mod (pv 4) pe_int) pe_int (nomark _))
     (pss_cons (ps_set (i := 8) sc_law_faulty.nd rfl (Or.inl rfl) (pe_lst pa_nil))
     (pss_one (ps_set (i := 9) sc_law_faulty.nd rfl (Or.inl rfl) (pe_lst pa_nil))))
     (pss_cons (ps_comp (i := 8) sc_law_faulty.nd rfl (Or.inl rfl) (pi_range1 rfl bl.range_ (pa_cons pe_int pa_nil)) (cmpOk_free (N := ["j", "head"]) (fr := [5]) (cl := [("head", s.heap.objs.size + 1 + 1)]) rfl rfl (by decide +kernel) (by decide +kernel) rfl (by decide +kernel) rfl rfl rfl (List.forall_mem_cons.mpr ⟨rfl, List.forall_mem_nil _⟩) rfl) rfl (fun _ _ _ _ => pif_nil) (fun _ _ _ _ => (pe_fn c__law_word hr rfl (pa_cons (pe_op op_fdiv (pv 1) pe_int) (pa_cons (pe_op op_add pe_int (pv 0)) pa_nil)))))
     (pss_one (ps_comp (i := 9) sc_law_faulty.nd rfl (Or.inl rfl) (pi_range1 rfl bl.range_ (pa_cons pe_int pa_nil)) (cmpOk_free (N := ["j", "columns"]) (fr := [0]) (cl := [("columns", s.heap.objs.size + 1)]) rfl rfl (by decide +kernel) (by decide +kernel) rfl (by decide +kernel) rfl rfl rfl (List.forall_mem_cons.mpr ⟨rfl, List.forall_mem_nil _⟩) rfl) rfl (fun _ _ _ _ => pif_nil) (fun _ _ _ _ => (pe_fn c__law_domain hr rfl (pa_cons (pe_ix (ix_listK (K := K) rfl) (pv 1) pe_int (fun _ _ => rfl)) pa_nil)))))))))))
     pss_nil)
     (pss_cut (ps_set (i := 10) sc_law_faulty.nd rfl (Or.inl rfl) (pe_op op_cat (pe_lst (pa_cons (pe_fn c__law_word hr rfl (pa_cons (pe_op op_fdiv (pv 5) pe_int) (pa_cons pe_int pa_nil))) pa_nil)) (pv 8)))
     (pss_cut (ps_if (pt_cmpR op_eq (pe_op op_mod (pv 3) pe_int) pe_int (nomark _))
     (pss_cons (ps_set (i := 10) sc_law_faulty.nd rfl (Or.inl rfl) (pe_fn c__law_bad_names hr rfl (pa_cons (pe_ix ix_list (pv 10) pe_int (fun _ _ => rfl)) (pa_cons (pv 8) (pa_cons (pe_op op_fdiv (pv 4) pe_int) pa_nil)))))
     (pss_one (ps_set (i := 6) sc_law_faulty.nd rfl (Or.inl rfl) pe_str)))
     pss_nil)
     (pss_one (ps_ret (pe_lst (pa_cons (pv 6) (pa_cons (pv 7) (pa_cons (pv 10) (pa_cons (pv 9) (pa_cons (pv 1) pa_nil))))))))))))))))), ?_⟩
  obtain ⟨wo, _, _, eo, ewo, rok⟩ := id hcz
  have hxl : xs.length = bs.length := hco.1
  refine ⟨fun σ' H' => Same H H' ∧ ∃ wy : Str, wy ∈ five ∧ σ' = [some (.ref cl), some (.ref rl), some (.ref ol), some (.int ff), some (.int t), some (.int hd), some (.str (out5 0)), some (.str wy), none, none, none], ?_, ?_⟩
  · obtain ⟨z, hz, ez⟩ := at_strs (zs := five) (k := t % 5) (Int.emod_nonneg _ (by decide)) (Int.emod_lt_of_pos _ (by show (0 : Int) < 5; decide))
    exact ⟨(by show 5 ≤ sizeLine; decide), fun p hp => ⟨_, rfl, _, _, rfl, rfl, (by show (0 : Int) < 5; decide), p, _, _, _, rfl, rfl, SqL.of upd_same, ez, same_new hp _, z, hz, rfl⟩⟩
  rintro σ1 H1 ⟨s1, wy, hwy, rfl⟩
  refine ⟨fun σ' H' => H' = H1 ∧ ∃ k : Nat, ((k = 4 ∧ ¬ ∀ w ∈ rws, RowOk bs o w) ∨ (k = 0 ∧ ∀ w ∈ rws, RowOk bs o w)) ∧ σ' = [some (.ref cl), some (.ref rl), some (.ref ol), some (.int ff), some (.int t), some (.int hd), some (.str (out5 k)), some (.str wy), none, none, none], ?_, ?_⟩
  · refine ⟨_, rfl, _, _, rfl, rfl, ⟨by decide, by decide⟩, _, _, rfl, rfl, (by show (0 : Int) < 2; decide), rfl, _, rfl, ite2 (fun g => ⟨rfl, 4, .inl ⟨rfl, hbad (V.int.inj (of_decide_eq_true g))⟩, rfl⟩) (fun g => ⟨rfl, 0, .inr ⟨rfl, hgood fun e => g (decide_eq_true (congrArg V.int e))⟩, rfl⟩)⟩
  rintro σ2 H2 ⟨rfl, k1, hk1, rfl⟩
  have w5 := five_ok wy hwy
  have s5 := five_sm wy hwy
  refine ⟨fun σ' H' => Same H H' ∧ ∃ (k : Nat) (wy : Str), Sm 1000 wy ∧ ((k = 3 ∧ ¬ WyOk wy (!zo.isEmpty)) ∨ (WyOk wy (!zo.isEmpty) ∧ ((k = 4 ∧ ¬ ∀ w ∈ rws, RowOk bs o w) ∨ (k = 0 ∧ ∀ w ∈ rws, RowOk bs o w)))) ∧ σ' = [some (.ref cl), some (.ref rl), some (.ref ol), some (.int ff), some (.int t), some (.int hd), some (.str (out5 k)), some (.str wy), none, none, none], ?_, ?_⟩
  · refine ⟨_, rfl, _, _, rfl, rfl, ⟨by decide, by decide⟩, _, _, rfl, rfl, (by show (0 : Int) < 2; decide), rfl, _, rfl, ite2 (fun _ => ?_) (fun _ => ⟨s1, k1, wy, s5, .inr ⟨⟨w5.1, fun h => w5.2.1 h.1⟩, hk1⟩, rfl⟩)⟩
    obtain ⟨z, hz, ez⟩ := at_strs (zs := bad5) (k := t % 5) (Int.emod_nonneg _ (by decide)) (Int.emod_lt_of_pos _ (by show (0 : Int) < 5; decide))
    have b5 := bad5_ok z hz
    refine ⟨(by show 5 ≤ sizeLine; decide), fun p hp => ⟨_, rfl, _, _, rfl, rfl, (by show (0 : Int) < 5; decide), p, _, _, _, rfl, rfl, SqL.of upd_same, ez, _, rfl, _, _, rfl, rfl, (by show (0 : Int) < 2; decide), rfl, _, rfl, ?_⟩⟩
    have s3 := s1.trans (same_new hp (.lst (bad5.map V.str)))
    have out : Same H (upd H2 p (.lst (bad5.map V.str))) ∧ ∃ (k : Nat) (wy : Str), Sm 1000 wy ∧ ((k = 3 ∧ ¬ WyOk wy (!zo.isEmpty)) ∨ (WyOk wy (!zo.isEmpty) ∧ ((k = 4 ∧ ¬ ∀ w ∈ rws, RowOk bs o w) ∨ (k = 0 ∧ ∀ w ∈ rws, RowOk bs o w)))) ∧ ([some (.ref cl), some (.ref rl), some (.ref ol), some (.int ff), some (.int t), some (.int hd), some (.str (out5 3)), some (.str z), none, none, none] : St) = [some (.ref cl), some (.ref rl), some (.ref ol), some (.int ff), some (.int t), some (.int hd), some (.str (out5 k)), some (.str wy), none, none, none] := ⟨s3, 3, z, bad5_sm z hz, .inl ⟨rfl, fun h => b5.1 h.1⟩, rfl⟩
    refine ite2 (fun _ => ?_) (fun _ => iteF out)
    refine ⟨_, rfl, ol, _, _, _, rfl, rfl, SqL.of (s3 _ _ eo), rfl, wo, _, rfl, .inl (SqL.of (s3 _ _ ewo)), _, _, rfl, rfl, _, rfl, ite2 (fun g => ?_) (fun _ => out)⟩
    have g' := dec_t g
    rw [List.length_map] at g'
    refine ⟨s3, 3, Str.ofString "sum", Sm.of _ (by decide), .inl ⟨rfl, fun h => h.2 ⟨rfl, ?_⟩⟩, rfl⟩
    cases zo with
    | nil => exact absurd g' (by decide)
    | cons _ _ => rfl
  clear hk1 w5 s5 hwy wy
  rintro σ3 H3 ⟨s3, k2, wy, hwsm, hk2, rfl⟩
  refine ⟨fun σ' H' => Same H H' ∧ ∃ na : Addr, H' na = some (.lst ((nms (hd / 4) bs.length).map V.str)) ∧ σ' = [some (.ref cl), some (.ref rl), some (.ref ol), some (.int ff), some (.int t), some (.int hd), some (.str (out5 k2)), some (.str wy), some (.ref na), none, none], ?_, ?_⟩
  · refine ⟨_, rfl, cl, _, rfl, .inl (SqL.of (s3 _ _ hxs)), _, rfl, (by show -(2 ^ 62) ≤ ((xs.length : Nat) : Int); omega), (by show ((xs.length : Nat) : Int) < 2 ^ 62; omega), comp_range (fun D i zs H' => Same H3 H' ∧ H' D = some (.lst zs) ∧ zs = (nms (hd / 4) i).map V.str) (fun D hD => ⟨same_new hD _, upd_same, rfl⟩) (fun D i zs H' hD hi h => ?_) (fun D zs H' hD h => ?_)⟩
    · obtain ⟨sm, eD, rfl⟩ := h
      have hl : ((nms (hd / 4) i).map V.str).length = i := by rw [List.length_map, nms_len]
      refine ⟨_, rfl, _, _, rfl, rfl, ⟨by decide, by decide⟩, _, rfl, _, _, rfl, rfl, _, _, rfl, CYes.mk hi eD (small1000 (by rw [hl]; omega)) ⟨sm.upd hD, upd_same, ?_⟩⟩
      rw [nms_succ, List.map_append, Int.zero_add]
      rfl
    · obtain ⟨sm, eD, rfl⟩ := h
      refine ⟨s3.trans sm, D, ?_, rfl⟩
      rw [← hxl]
      exact eD
  rintro σ4 H4 ⟨s4, na, ena, rfl⟩
  have domc : ∀ (H0 : Hp), Same H H0 → ∀ (j : Nat) (x : V), xs[j]? = some x → ∃ (l : Addr) (b : Int × Int) (zz : List Str), x = .ref l ∧ bs[j]? = some b ∧ ColZ NT H0 l b zz := fun H0 s0 j x e => by
    obtain ⟨l, b, rfl, eb, hc⟩ := RefL.get hco e
    obtain ⟨zz, hz⟩ := (hc.same s0).z
    exact ⟨l, b, zz, rfl, eb, hz⟩
  refine ⟨fun σ' H' => Same H4 H' ∧ ∃ (dl : Addr) (dv : List V), H' dl = some (.lst dv) ∧ RefL dv bs (Dom cNumbers cWords H') ∧ σ' = [some (.ref cl), some (.ref rl), some (.ref ol), some (.int ff), some (.int t), some (.int hd), some (.str (out5 k2)), some (.str wy), some (.ref na), some (.ref dl), none], ?_, ?_⟩
  · refine ⟨_, rfl, cl, rfl, ⟨_, SqL.of (s4 _ _ hxs)⟩, comp_list (xs := xs) (fun D i zs H' => Same H4 H' ∧ H' D = some (.lst zs) ∧ RefL zs (bs.take i) (Dom cNumbers cWords H')) (fun D hD => ⟨same_new hD _, upd_same, RefL.nil⟩) (fun D i zs H' hD _ h => SqL.of ((s4.trans h.1) _ _ hxs)) (fun D i x zs H' hD e h => ?_) (fun D zs H' hD h => ?_)⟩
    · obtain ⟨sm, eD, hz⟩ := h
      obtain ⟨l, b, zz, rfl, eb, hc⟩ := domc H' (s4.trans sm) i x e
      have hi : i < xs.length := (List.getElem?_eq_some_iff.mp e).1
      have hlz : zs.length ≤ 4 := by have h1 := hz.1; rw [List.length_take] at h1; omega
      refine ⟨_, rfl, l, b, zz, rfl, hc, fun a H2 s2 hdm _ => CYes.mk hi (s2 _ _ eD) (small1000 (by omega)) ⟨(sm.trans s2).upd hD, upd_same, ?_⟩⟩
      rw [take_snoc eb]
      exact RefL.mono (RefL.snoc (RefL.mono hz fun _ _ p => p.same s2) hdm) fun _ _ p => p.upd (s2 _ _ eD)
    · obtain ⟨sm, eD, hz⟩ := h
      rw [hxl, List.take_length] at hz
      exact ⟨sm, D, zs, eD, hz, rfl⟩
  rintro σ5 H5 ⟨s45, dl, dv, edl, hdv, rfl⟩
  have ena5 := s45 _ _ ena
  have s5 := s4.trans s45
  clear s45 ena s4
  refine ⟨fun σ' H' => Same H H' ∧ ∃ (na dl rl : Addr) (n : Nat) (dv rx : List V) (bs' : Prs) (rws' : List Rw) (k : Nat), H' na = some (.lst ((nms (hd / 4) n).map V.str)) ∧ H' dl = some (.lst dv) ∧ H' rl = some (.lst rx) ∧ n ≤ 5 ∧ RefL dv bs' (Dom cNumbers cWords H') ∧ bs'.length ≤ 5 ∧ RL NT H' rx rws' ∧ rx.length ≤ 300 ∧ (∀ w ∈ rws', bnd w.2 ∧ w.1.length ≤ 5) ∧ ((k = 2 ∧ ¬ CtOk n rx.length) ∨ (CtOk n rx.length ∧ k = k2 ∧ rws' = rws ∧ bs' = bs)) ∧ σ' = [some (.ref cl), some (.ref rl), some (.ref ol), some (.int ff), some (.int t), some (.int hd), some (.str (out5 k)), some (.str wy), some (.ref na), some (.ref dl), none], ?_, ?_⟩
  · refine ⟨_, rfl, _, _, rfl, rfl, ⟨by decide, by decide⟩, _, _, rfl, rfl, (by show (0 : Int) < 2; decide), rfl, _, rfl, ite2 (fun _ => ?_) (fun _ => ⟨s5, na, dl, rl, bs.length, dv, rx, bs, rws, k2, ena5, edl, s5 _ _ hrl, by omega, hdv, by omega, hR.same s5, by omega, hbd, .inr ⟨⟨n1, n4, by omega⟩, rfl, rfl, rfl⟩, rfl⟩)⟩
    refine ⟨_, rfl, _, _, rfl, rfl, (by show (0 : Int) < 3; decide), rfl, _, rfl, ite2 (fun _ => ?_) (fun _ => ?_)⟩
    · refine ⟨_, rfl, _, rfl, _, rfl, _, rfl, ol, _, _, _, rfl, rfl, SqL.of (s5 _ _ eo), rfl, _, rfl, ol, _, _, _, rfl, rfl, SqL.of (s5 _ _ eo), rfl, t, cl, xs, bs, o, 0, rfl, s5 _ _ hxs, hco.same s5, n4, rok.le, fun r w6 H6 s6 hrow okr h4r => ?_⟩
      refine ⟨(by show 1 ≤ sizeLine; decide), fun p1 hp1 => ?_⟩
      have s7 := s6.trans (same_new hp1 (.lst [.ref r]))
      have e7 : upd H6 p1 (.lst [.ref r]) p1 = some (.lst [.ref r]) := upd_same
      have hr7 := hrow.any.same (same_new hp1 (.lst [.ref r]))
      generalize upd H6 p1 (.lst [.ref r]) = H7 at s7 e7 hr7 ⊢
      refine ⟨p1, 201, _, rfl, rfl, e7, by decide, by decide, (by show 1 * 201 ≤ sizeLine; decide), fun p2 hp2 => ?_⟩
      rw [show (List.replicate (201 : Int).toNat [V.ref r]).flatten = List.replicate 201 (V.ref r) from rep_flat 201 (V.ref r)]
      have s8 := s7.trans (same_new hp2 (.lst (List.replicate 201 (V.ref r))))
      have e8 : upd H7 p2 (.lst (List.replicate 201 (V.ref r))) p2 = some (.lst (List.replicate 201 (V.ref r))) := upd_same
      have hr8 := hr7.same (same_new hp2 (.lst (List.replicate 201 (V.ref r))))
      generalize upd H7 p2 (.lst (List.replicate 201 (V.ref r))) = H8 at s8 e8 hr8 ⊢
      refine ⟨rl, p2, _, _, rfl, rfl, s8 _ _ (s5 _ _ hrl), e8, Nat.le_of_lt (small1000 (by rw [List.length_replicate]; omega)), fun p3 hp3 => ?_⟩
      have s9 := s8.trans (same_new hp3 (.lst (rx ++ List.replicate 201 (V.ref r))))
      have e9 : upd H8 p3 (.lst (rx ++ List.replicate 201 (V.ref r))) p3 = some (.lst (rx ++ List.replicate 201 (V.ref r))) := upd_same
      have hr9 := hr8.same (same_new hp3 (.lst (rx ++ List.replicate 201 (V.ref r))))
      generalize upd H8 p3 (.lst (rx ++ List.replicate 201 (V.ref r))) = H9 at s9 e9 hr9 ⊢
      refine ⟨_, rfl, p3, _, rfl, SqL.of e9, fun p4 hp4 => ?_⟩
      have hll : 201 ≤ (rx ++ List.replicate 201 (V.ref r)).length := by rw [List.length_append, List.length_replicate]; omega
      rw [show cutV (rx ++ List.replicate 201 (V.ref r)) none (some 201) = _ from cutV_to (n := 201) _ hll]
      have sT := same_new hp4 (.lst ((rx ++ List.replicate 201 (V.ref r)).take 201))
      have s10 := s5.trans (s9.trans sT)
      have hll2 : ((rx ++ List.replicate 201 (V.ref r)).take 201).length = 201 := by rw [List.length_take]; omega
      have hRL : RL NT (upd H9 p4 (.lst ((rx ++ List.replicate 201 (V.ref r)).take 201))) ((rx ++ List.replicate 201 (V.ref r)).take 201) ((rws ++ List.replicate 201 w6).take 201) := RefL.take (RefL.append (RL.same hR s10) (RefL.rep (hr9.same sT) 201)) 201
      refine ⟨s10, na, dl, p4, bs.length, dv, _, bs, _, 2, (s9.trans sT) _ _ ena5, (s9.trans sT) _ _ edl, upd_same, by omega, RefL.mono hdv fun _ _ p => p.same (s9.trans sT), by omega, hRL, by rw [hll2]; omega, fun w hw => ?_, .inl ⟨rfl, fun h => by have := h.2.2; rw [hll2] at this; omega⟩, rfl⟩
      rcases List.mem_append.mp (List.mem_of_mem_take hw) with h | h
      · exact hbd w h
      · rw [List.eq_of_mem_replicate h]
        exact ⟨bnd_of rok.bd (by have := okr.lo; omega) (by have := okr.hi; omega), by rw [okr.len]; omega⟩
    refine ⟨_, rfl, _, _, rfl, rfl, (by show (0 : Int) < 3; decide), rfl, _, rfl, ite2 (fun _ => ?_) (fun _ => ?_)⟩
    · refine ⟨(by show 0 ≤ sizeLine; decide), fun p1 hp1 => ?_⟩
      have s6 := same_new hp1 (.lst [])
      have e6 : upd H5 p1 (.lst []) p1 = some (.lst []) := upd_same
      generalize upd H5 p1 (.lst []) = H6 at s6 e6 ⊢
      refine ⟨(by show 0 ≤ sizeLine; decide), fun p2 hp2 => ?_⟩
      have s7 := same_new hp2 (.lst [])
      have s10 := (s5.trans s6).trans s7
      exact ⟨s10, p1, p2, rl, 0, [], rx, [], rws, 2, s7 _ _ e6, upd_same, s10 _ _ hrl, by omega, RefL.nil, by decide, hR.same s10, by omega, hbd, .inl ⟨rfl, fun h => absurd h.1 (by decide)⟩, rfl⟩
    · refine ⟨_, rfl, (by decide), (by decide), comp_range (fun D i zs H' => Same H5 H' ∧ H' D = some (.lst zs) ∧ zs = (nms (hd / 4) i).map V.str) (fun D hD => ⟨same_new hD _, upd_same, rfl⟩) (fun D i zs H' hD hi h => ?_) (fun D zs H' hD h => ?_)⟩
      · obtain ⟨sm, eD, rfl⟩ := h
        have hl : ((nms (hd / 4) i).map V.str).length = i := by rw [List.length_map, nms_len]
        have hi5 : i < 5 := hi
        refine ⟨_, rfl, _, _, rfl, rfl, ⟨by decide, by decide⟩, _, rfl, _, _, rfl, rfl, _, _, rfl, CYes.mk hi eD (small1000 (by rw [hl]; omega)) ⟨sm.upd hD, upd_same, ?_⟩⟩
        rw [nms_succ, List.map_append, Int.zero_add]
        rfl
      · obtain ⟨s6, e6, rfl⟩ := h
        have eD : H' D = some (.lst ((nms (hd / 4) 5).map V.str)) := e6
        obtain ⟨b, eb⟩ : ∃ b, bs[0]? = some b := ⟨_, List.getElem?_eq_getElem (by omega)⟩
        refine ⟨_, rfl, (by decide), (by decide), comp_range (fun D i zs H2 => Same H' H2 ∧ H2 D = some (.lst zs) ∧ RefL zs (List.replicate i b) (Dom cNumbers cWords H2)) (fun D hD => ⟨same_new hD _, upd_same, RefL.nil⟩) (fun D2 i zs H2 hD2 hi h => ?_) (fun D2 zs H2 hD2 h => ?_)⟩
        · obtain ⟨sm, eD2, hz⟩ := h
          obtain ⟨l, el, _⟩ := hco.2 0 b eb
          have sH := (s5.trans s6).trans sm
          obtain ⟨l', b', zz, el', eb', hc⟩ := domc H2 sH 0 _ el
          cases el'
          rw [eb] at eb'
          cases eb'
          have hi5 : i < 5 := hi
          have hlz : zs.length = i := by rw [hz.1, List.length_replicate]
          refine ⟨_, rfl, cl, _, _, _, rfl, rfl, SqL.of (sH _ _ hxs), atI_nat el, l, b, zz, rfl, hc, fun a H9 s9 hdm _ => CYes.mk hi (s9 _ _ eD2) (small1000 (by omega)) ⟨(sm.trans s9).upd hD2, upd_same, ?_⟩⟩
          rw [List.replicate_succ']
          exact RefL.mono (RefL.snoc (RefL.mono hz fun _ _ p => p.same s9) hdm) fun _ _ p => p.upd (s9 _ _ eD2)
        · obtain ⟨sm, eD2, hz⟩ := h
          have hz5 : RefL zs (List.replicate 5 b) (Dom cNumbers cWords H2) := hz
          have s10 := (s5.trans s6).trans sm
          exact ⟨s10, D, D2, rl, 5, zs, rx, _, rws, 2, sm _ _ eD, eD2, s10 _ _ hrl, by omega, hz5, by rw [List.length_replicate]; omega, hR.same s10, by omega, hbd, .inl ⟨rfl, fun h => absurd h.2.1 (by decide)⟩, rfl⟩
  clear ena5 edl hdv s5
  rintro σ6 H6 ⟨s6, na, dl, rl', n, dv, rx', bs', rws', k3, ena, edl, erl, hn5, hdv, hb5, hRL, h300, hbd', hk3, rfl⟩
  have nok := nms_ok (hd / 4) (n := n) (by omega)
  have nsm := nms_sm (hd / 4) (n := n) (by omega)
  have nlen := nms_len (hd / 4) n
  refine ⟨fun σ' H' => Same H6 H' ∧ ∃ ev : Addr, H' ev = some (.lst ((wd (hd / 4) 0 :: nms (hd / 4) n).map V.str)) ∧ σ' = [some (.ref cl), some (.ref rl'), some (.ref ol), some (.int ff), some (.int t), some (.int hd), some (.str (out5 k3)), some (.str wy), some (.ref na), some (.ref dl), some (.ref ev)], ?_, ?_⟩
  · refine ⟨_, rfl, _, _, rfl, rfl, ⟨by decide, by decide⟩, _, _, rfl, (by show 1 ≤ sizeLine; decide), fun l1 hl1 => ?_⟩
    have s7 := same_new hl1 (.lst [.str (wd (hd / 4) 0)])
    have e7 : upd H6 l1 (.lst [.str (wd (hd / 4) 0)]) l1 = some (.lst [.str (wd (hd / 4) 0)]) := upd_same
    generalize upd H6 l1 (.lst [.str (wd (hd / 4) 0)]) = H7 at s7 e7 ⊢
    exact ⟨_, rfl, l1, na, _, _, rfl, rfl, e7, s7 _ _ ena, Nat.le_of_lt (small1000 (by rw [List.length_map, nlen]; show 1 + n ≤ 1000; omega)), fun l hl => ⟨s7.trans (same_new hl _), l, upd_same, rfl⟩⟩
  rintro σ7 H7 ⟨s67, ev, eev, rfl⟩
  generalize hnm : wd (hd / 4) 0 = nm at *
  generalize hzz : nms (hd / 4) n = zs at *
  have tail : ∀ (H8 : Hp), Same H7 H8 → ∀ (ev : Addr) (nm' : Str) (zs' : List Str) (k : Nat), H8 ev = some (.lst ((nm' :: zs').map V.str)) → (∀ z ∈ nm' :: zs', Sm 600 z) → zs'.length = zs.length → ((k = 1 ∧ ¬ NmOk (nm' :: zs')) ∨ (k = k3 ∧ NmOk (nm' :: zs'))) → ∀ (l : Addr), H8 l = none → Q (.ref l) (upd H8 l (.lst [.str (out5 k), .str wy, .ref ev, .ref dl, .ref rl'])) := fun H8 s8 ev nm' zs' k e1 e2 e3 e4 l hl => by
    have sl := same_new hl (.lst [.str (out5 k), .str wy, .ref ev, .ref dl, .ref rl'])
    have s9 := (s67.trans s8).trans sl
    refine q l _ (s6.trans s9) ⟨ev, dl, rl', wy, nm', zs', dv, rx', bs', rws', k, upd_same, sl _ _ e1, s9 _ _ edl, s9 _ _ erl, hwsm, e2, by omega, RefL.mono hdv fun _ _ p => p.same s9, hb5, hRL.same s9, h300, hbd', ?_⟩
    rcases e4 with ⟨rfl, e4⟩ | ⟨rfl, e4⟩
    · exact .name e4
    rw [e3, nlen]
    rcases hk3 with ⟨rfl, hk3⟩ | ⟨hct, rfl, rfl, rfl⟩
    · exact .many e4 hk3
    rcases hk2 with ⟨rfl, hk2⟩ | ⟨hw, ⟨rfl, hk2⟩ | ⟨rfl, hk2⟩⟩
    · exact .way e4 hct hk2
    · exact .row e4 hct hw hk2
    · exact .made e4 hct hw hk2
  refine ⟨fun σ' H' => Same H7 H' ∧ ∃ (ev : Addr) (nm' : Str) (zs' : List Str) (k : Nat), H' ev = some (.lst ((nm' :: zs').map V.str)) ∧ (∀ z ∈ nm' :: zs', Sm 600 z) ∧ zs'.length = zs.length ∧ ((k = 1 ∧ ¬ NmOk (nm' :: zs')) ∨ (k = k3 ∧ NmOk (nm' :: zs'))) ∧ σ' = [some (.ref cl), some (.ref rl'), some (.ref ol), some (.int ff), some (.int t), some (.int hd), some (.str (out5 k)), some (.str wy), some (.ref na), some (.ref dl), some (.ref ev)], ?_, ?_⟩
  · refine ⟨_, rfl, _, _, rfl, rfl, (by show (0 : Int) < 2; decide), rfl, _, rfl, ite2 (fun _ => ?_) (fun _ => ⟨Same.refl _, ev, nm, zs, k3, eev, nsm, rfl, .inr ⟨rfl, nok⟩, rfl⟩)⟩
    refine ⟨_, rfl, ev, _, _, _, rfl, rfl, SqL.of eev, (atI_nat (j := 0) (show ((nm :: zs).map V.str)[0]? = some (V.str nm) from rfl)), _, rfl, _, rfl, _, _, rfl, rfl, ⟨by decide, by decide⟩, nm, na, zs, _, rfl, s67 _ _ ena, by omega, nsm, fun l ys H8 s8 e8 l8 m8 n8 => ?_⟩
    match ys, l8, e8, m8, n8 with
    | nm' :: zs', l8, e8, m8, n8 => exact ⟨s8, l, nm', zs', 1, e8, m8, by simpa using l8, .inl ⟨rfl, n8⟩, rfl⟩
  rintro σ8 H8 ⟨s8, ev', nm', zs', k, e1, e2, e3, e4, rfl⟩
  exact ⟨_, rfl, _, rfl, _, rfl, _, rfl, _, rfl, (by show 5 ≤ sizeLine; decide), fun l hl => tail H8 s8 ev' nm' zs' k e1 e2 e3 e4 l hl⟩
theorem ok_Table___init___Table (F : Fun K "__init__" "Table.__init__" s_Table___init___Table f fd) (bl : Bl K mg cTableError cBadName cTooMany cBadWay cBadRow cWay cFirst cOnly cLike cLow cHigh cSum cDomain cNumbers cWords cTable) (c_refuse_names : CalleeX P w K mg base 5 "refuse_names" ["names"] (sp_refuse_names K cTableError cBadName cTooMany cBadWay cBadRow cWay cFirst cOnly cLike cLow cHigh cSum cDomain cNumbers cWords cTable)) (c_refuse_counts : CalleeX P w K mg base 5 "refuse_counts" ["names", "rows"] (sp_refuse_counts K cTableError cBadName cTooMany cBadWay cBadRow cWay cFirst cOnly cLike cLow cHigh cSum cDomain cNumbers cWords cTable)) (c_refuse_way : CalleeX P w K mg base 5 "refuse_way" ["way", "outcome"] (sp_refuse_way K cTableError cBadName cTooMany cBadWay cBadRow cWay cFirst cOnly cLike cLow cHigh cSum cDomain cNumbers cWords cTable)) (c_refuse_row : CalleeX P w K mg base 5 "refuse_row" ["domains", "outcome", "cells", "code"] (sp_refuse_row K cTableError cBadName cTooMany cBadWay cBadRow cWay cFirst cOnly cLike cLow cHigh cSum cDomain cNumbers cWords cTable)) (c_own_row : Callee P w K mg base 5 "own_row" ["cells", "code"] (sp_own_row K cTableError cBadName cTooMany cBadWay cBadRow cWay cFirst cOnly cLike cLow cHigh cSum cDomain cNumbers cWords cTable)) : FnOk P w K mg base (CX1 P w) 6 f fd ["self", "name", "names", "domains", "outcome", "way", "rows"] (sp_Table___init___Table K cTableError cBadName cTooMany cBadWay cBadRow cWay cFirst cOnly cLike cLow cHigh cSum cDomain cNumbers cWords cTable) := by
  refine F.okE sc_Table___init___Table (fun vs H Q E h => ?_) (fun cdv A outer s H vs Q E hr h => ?_)
  · obtain ⟨x, dx, na, dl, ou, rl, nm, wy, zs, dv, rx, bs, o, rws, bw, kk, rfl, hx, hna, hsm, h50, hwsm, hbo, hdl, hdv, hou, hrl, hR, hb5, hbn, hk, q, qE⟩ := h
    rfl
  obtain ⟨x, dx, na, dl, ou, rl, nm, wy, zs, dv, rx, bs, o, rws, bw, kk, rfl, hx, hna, hsm, h50, hwsm, hbo, hdl, hdv, hou, hrl, hR, hb5, hbn, hk, q, qE⟩ := h
  refine ⟨_, (pss_cons (ps_expr (pe_fnE c_refuse_names passE hr rfl (pa_cons (pe_op op_cat (pe_lst (pa_cons (pv 1) pa_nil)) (pv 2)) pa_nil)))
     (pss_cons (ps_expr (pe_fnE c_refuse_counts passE hr rfl (pa_cons (pv 2) (pa_cons (pv 6) pa_nil))))
     (pss_cons (ps_expr (pe_fnE c_refuse_way passE hr rfl (pa_cons (pv 5) (pa_cons (pv 4) pa_nil))))
     (pss_cut (ps_for (passes_XE rfl rfl rfl) rfl (pi_list (pv 6)) (pg_tup rfl (pgs_cons (pg_name (i := 7) sc_Table___init___Table.nd rfl (Or.inl rfl)) (pgs_cons (pg_name (i := 8) sc_Table___init___Table.nd rfl (Or.inl rfl)) pgs_nil)))
     (pss_one (ps_expr (pe_fnE c_refuse_row passE hr rfl (pa_cons (pv 3) (pa_cons (pv 4) (pa_cons (pv 7) (pa_cons (pv 8) pa_nil))))))))
     (pss_cons (ps_fld (pv 0) (pv 1) rfl)
     (pss_cons (ps_fld (pv 0) (pe_callTy call_list_of rfl bl.list_ PyProof.Rows.boot_list (pa_cons (pv 2) pa_nil)) rfl)
     (pss_cons (ps_fld (pv 0) (pe_callTy call_list_of rfl bl.list_ PyProof.Rows.boot_list (pa_cons (pv 3) pa_nil)) rfl)
     (pss_cons (ps_fld (pv 0) (pv 4) rfl)
     (pss_cons (ps_fld (pv 0) (pv 5) rfl)
     (pss_one (ps_fld (pv 0) (pe_compG (pi_list (pv 6)) (cmpOkG_plain (N := ["cells", "code"]) (k := 2) rfl rfl (by decide +kernel) (by decide +kernel) (by decide +kernel)) rfl (fun _ _ _ _ => (gTupK (K := K) (n := 2) rfl rfl (pgs_cons (pg_name (i := 0) (show (["cells", "code"] : List Str).Nodup by decide +kernel) rfl (Or.inl rfl) (Or.inr rfl)) (pgs_cons (pg_name (i := 1) (show (["cells", "code"] : List Str).Nodup by decide +kernel) rfl (Or.inl rfl) (Or.inr rfl)) pgs_nil)))) (fun _ _ _ _ => pif_nil) (fun _ _ _ _ => (pe_fn c_own_row hr rfl (pa_cons (pv 0) (pa_cons (pv 1) pa_nil))))) rfl))))))))))), ?_⟩
  have hzl : (zs.map V.str).length = zs.length := List.length_map _
  refine ⟨_, rfl, (by show 1 ≤ sizeLine; decide), fun l1 hl1 => ?_⟩
  have s1 := same_new hl1 (.lst [.str nm])
  have e1 : upd H l1 (.lst [.str nm]) l1 = some (.lst [.str nm]) := upd_same
  generalize upd H l1 (.lst [.str nm]) = H1 at s1 e1 ⊢
  refine ⟨_, rfl, l1, na, _, _, rfl, rfl, e1, s1 _ _ hna, (by rw [hzl]; show 1 + zs.length ≤ sizeLine; exact big (by omega)), fun l2 hl2 => ?_⟩
  have s2 := s1.trans (same_new hl2 (.lst ([V.str nm] ++ zs.map V.str)))
  have e2 : upd H1 l2 (.lst ([V.str nm] ++ zs.map V.str)) l2 = some (.lst ((nm :: zs).map V.str)) := upd_same
  generalize upd H1 l2 (.lst ([V.str nm] ++ zs.map V.str)) = H2 at s2 e2 ⊢
  refine ⟨l2, nm :: zs, rfl, SqL.of e2, hsm, by rw [List.length_cons]; omega, fun hnm H3 t3 => ?_, fun g H3 t3 => qE _ (by rw [hk.k1 g]; rfl) _ (s2.trans t3)⟩
  have s3 := s2.trans t3
  refine ⟨_, rfl, _, rfl, na, rl, _, _, rfl, SqL.of (s3 _ _ hna), SqL.of (s3 _ _ hrl), fun hct => ?_, fun g => qE _ (by rw [hk.k2 hnm (by rw [hzl] at g; exact g)]; rfl) _ s3⟩
  rw [hzl] at hct
  have h1 := hct.1
  have h4 := hct.2.1
  have h200 := hct.2.2
  refine ⟨_, rfl, _, rfl, wy, ou, bw, rfl, hwsm, hbo.same s3, fun hwy H4 t4 => ?_, fun g H4 t4 => qE _ (by rw [hk.k3 hnm hct g]; rfl) _ (s3.trans t4)⟩
  have s4 := s3.trans t4
  refine ⟨fun σ' H' => Same H H' ∧ (∃ c7 c8 : Option V, σ' = [some (.ref x), some (.str nm), some (.ref na), some (.ref dl), some (.ref ou), some (.str wy), some (.ref rl), c7, c8]) ∧ ∀ w ∈ rws, RowOk bs o w, ?_, ?_⟩
  · refine ⟨_, rfl, rl, rfl, ⟨_, SqL.of (s4 _ _ hrl)⟩, for_list (xs := rx) (fun i σ H' => Same H H' ∧ (∃ c7 c8 : Option V, σ = [some (.ref x), some (.str nm), some (.ref na), some (.ref dl), some (.ref ou), some (.str wy), some (.ref rl), c7, c8]) ∧ ∀ w ∈ rws.take i, RowOk bs o w) ⟨s4, ⟨_, _, rfl⟩, (fun w hw => by simp at hw)⟩ (fun i σ H' _ h => SqL.of (h.1 _ _ hrl)) (fun i y σ H' e h => ?_) (fun σ H' h => ?_)⟩
    · obtain ⟨sm, ⟨c7, c8, rfl⟩, hall⟩ := h
      obtain ⟨r, w_, rfl, ew, ce, cv, g1, _, g2, g3⟩ := RefL.get (hR.same sm) e
      have hmem := List.mem_of_getElem? ew
      refine ⟨r, _, rfl, SqT.of g1, rfl, _, _, rfl, _, _, rfl, rfl, ?_⟩
      exact ⟨_, rfl, _, rfl, _, rfl, _, rfl, dl, ou, ce, dv, cv, bs, o, w_, rfl, SqL.of (sm _ _ hdl), RefL.mono hdv fun _ _ p => p.same sm, hou.same sm, g2, g3, hbn w_ hmem, fun ok H2 t2 => ⟨sm.trans t2, ⟨_, _, rfl⟩, take_all ew hall ok⟩, fun g H2 t2 => qE _ (by rw [hk.k4 hnm hct hwy fun h => g (h w_ hmem)]; rfl) _ (sm.trans t2)⟩
    · obtain ⟨sm, hσ, hall⟩ := h
      rw [hR.1, List.take_length] at hall
      exact ⟨sm, hσ, hall⟩
  rintro σ5 H5 ⟨s5, ⟨c7, c8, rfl⟩, hok⟩
  have q := q (hk.k0 hnm hct hwy hok)
  have x5 := s5 _ _ hx
  have nax : na ≠ x := ne_of hna hx (by intro z; cases z)
  have dlx : dl ≠ x := ne_of hdl hx (by intro z; cases z)
  have rlx : rl ≠ x := ne_of hrl hx (by intro z; cases z)
  have k5 : ∀ b o, b ≠ x → H b = some o → H5 b = some o := fun b o _ e => s5 b o e
  have R5 := RL.hide x5 (hR.same s5)
  -- name
  refine ⟨_, rfl, _, rfl, x, _, dx, _, rfl, x5, bl.k_Table, bl.na_Table_name, (by show 0 < 1000; decide), ?_⟩
  have k6 : ∀ b o, b ≠ x → H5 b = some o → upd H5 x (.ins cTable dx [(Str.ofString "name", .str nm)]) b = some o := fun b o hb e => (upd_ne hb).trans e
  have x6 : upd H5 x (.ins cTable dx [(Str.ofString "name", .str nm)]) x = some (.ins cTable dx [(Str.ofString "name", .str nm)]) := upd_same
  have g6 : upd H5 x (.ins cTable dx (putF (Str.ofString "name") (.str nm) [])) = upd H5 x (.ins cTable dx [(Str.ofString "name", .str nm)]) := rfl
  rw [g6]
  clear g6
  generalize upd H5 x (.ins cTable dx [(Str.ofString "name", .str nm)]) = H6 at k6 x6 ⊢
  refine ⟨_, rfl, na, _, rfl, .inl (SqL.of (k6 _ _ nax (s5 _ _ hna))), fun m1 hm1 => ⟨_, rfl, x, _, dx, _, rfl, ret_r1 x6 hm1, bl.k_Table, bl.na_Table_names, (by show 1 < 1000; decide), ?_⟩⟩
  have g7 : upd (upd H6 m1 (.lst (zs.map V.str))) x (.ins cTable dx (putF (Str.ofString "names") (V.ref m1) [(Str.ofString "name", V.str nm)])) = upd (upd H6 m1 (.lst (zs.map V.str))) x (.ins cTable dx [(Str.ofString "name", V.str nm), (Str.ofString "names", V.ref m1)]) := by rw [pf1]
  rw [g7]
  clear g7
  have k7 : ∀ b o, b ≠ x → H5 b = some o → upd (upd H6 m1 (.lst (zs.map V.str))) x (.ins cTable dx [(Str.ofString "name", V.str nm), (Str.ofString "names", V.ref m1)]) b = some o := fun b o hb e => (upd_ne hb).trans (ret_r1 (k6 b o hb e) hm1)
  have x7 : upd (upd H6 m1 (.lst (zs.map V.str))) x (.ins cTable dx [(Str.ofString "name", V.str nm), (Str.ofString "names", V.ref m1)]) x = some (.ins cTable dx [(Str.ofString "name", V.str nm), (Str.ofString "names", V.ref m1)]) := upd_same
  have m1x : m1 ≠ x := fun z => by rw [z, x6] at hm1; cases hm1
  have j7 : upd (upd H6 m1 (.lst (zs.map V.str))) x (.ins cTable dx [(Str.ofString "name", V.str nm), (Str.ofString "names", V.ref m1)]) m1 = some (.lst (zs.map V.str)) := (upd_ne m1x).trans upd_same
  generalize upd (upd H6 m1 (.lst (zs.map V.str))) x (.ins cTable dx [(Str.ofString "name", V.str nm), (Str.ofString "names", V.ref m1)]) = H7 at k7 x7 j7 ⊢
  refine ⟨_, rfl, dl, _, rfl, .inl (SqL.of (k7 _ _ dlx (s5 _ _ hdl))), fun m2 hm2 => ⟨_, rfl, x, _, dx, _, rfl, ret_r1 x7 hm2, bl.k_Table, bl.na_Table_domains, (by show 2 < 1000; decide), ?_⟩⟩
  have g8 : upd (upd H7 m2 (.lst dv)) x (.ins cTable dx (putF (Str.ofString "domains") (V.ref m2) [(Str.ofString "name", V.str nm), (Str.ofString "names", V.ref m1)])) = upd (upd H7 m2 (.lst dv)) x (.ins cTable dx [(Str.ofString "name", V.str nm), (Str.ofString "names", V.ref m1), (Str.ofString "domains", V.ref m2)]) := by rw [pf2]
  rw [g8]
  clear g8
  have k8 : ∀ b o, b ≠ x → H5 b = some o → upd (upd H7 m2 (.lst dv)) x (.ins cTable dx [(Str.ofString "name", V.str nm), (Str.ofString "names", V.ref m1), (Str.ofString "domains", V.ref m2)]) b = some o := fun b o hb e => (upd_ne hb).trans (ret_r1 (k7 b o hb e) hm2)
  have x8 : upd (upd H7 m2 (.lst dv)) x (.ins cTable dx [(Str.ofString "name", V.str nm), (Str.ofString "names", V.ref m1), (Str.ofString "domains", V.ref m2)]) x = some (.ins cTable dx [(Str.ofString "name", V.str nm), (Str.ofString "names", V.ref m1), (Str.ofString "domains", V.ref m2)]) := upd_same
  have m2x : m2 ≠ x := fun z => by rw [z, x7] at hm2; cases hm2
  have j8 : upd (upd H7 m2 (.lst dv)) x (.ins cTable dx [(Str.ofString "name", V.str nm), (Str.ofString "names", V.ref m1), (Str.ofString "domains", V.ref m2)]) m1 = some (.lst (zs.map V.str)) := (upd_ne m1x).trans (ret_r1 j7 hm2)
  have i8 : upd (upd H7 m2 (.lst dv)) x (.ins cTable dx [(Str.ofString "name", V.str nm), (Str.ofString "names", V.ref m1), (Str.ofString "domains", V.ref m2)]) m2 = some (.lst dv) := (upd_ne m2x).trans upd_same
  generalize upd (upd H7 m2 (.lst dv)) x (.ins cTable dx [(Str.ofString "name", V.str nm), (Str.ofString "names", V.ref m1), (Str.ofString "domains", V.ref m2)]) = H8 at k8 x8 j8 i8 ⊢
  refine ⟨_, rfl, _, rfl, x, _, dx, _, rfl, x8, bl.k_Table, bl.na_Table_outcome, (by show 3 < 1000; decide), ?_⟩
  have g9 : upd H8 x (.ins cTable dx (putF (Str.ofString "outcome") (V.ref ou) [(Str.ofString "name", V.str nm), (Str.ofString "names", V.ref m1), (Str.ofString "domains", V.ref m2)])) = upd H8 x (.ins cTable dx [(Str.ofString "name", V.str nm), (Str.ofString "names", V.ref m1), (Str.ofString "domains", V.ref m2), (Str.ofString "outcome", V.ref ou)]) := by rw [pf3]
  rw [g9]
  clear g9
  have k9 : ∀ b o, b ≠ x → H5 b = some o → upd H8 x (.ins cTable dx [(Str.ofString "name", V.str nm), (Str.ofString "names", V.ref m1), (Str.ofString "domains", V.ref m2), (Str.ofString "outcome", V.ref ou)]) b = some o := fun b o hb e => (upd_ne hb).trans (k8 b o hb e)
  have x9 : upd H8 x (.ins cTable dx [(Str.ofString "name", V.str nm), (Str.ofString "names", V.ref m1), (Str.ofString "domains", V.ref m2), (Str.ofString "outcome", V.ref ou)]) x = some (.ins cTable dx [(Str.ofString "name", V.str nm), (Str.ofString "names", V.ref m1), (Str.ofString "domains", V.ref m2), (Str.ofString "outcome", V.ref ou)]) := upd_same
  have j9 : upd H8 x (.ins cTable dx [(Str.ofString "name", V.str nm), (Str.ofString "names", V.ref m1), (Str.ofString "domains", V.ref m2), (Str.ofString "outcome", V.ref ou)]) m1 = some (.lst (zs.map V.str)) := (upd_ne m1x).trans j8
  have i9 : upd H8 x (.ins cTable dx [(Str.ofString "name", V.str nm), (Str.ofString "names", V.ref m1), (Str.ofString "domains", V.ref m2), (Str.ofString "outcome", V.ref ou)]) m2 = some (.lst dv) := (upd_ne m2x).trans i8
  generalize upd H8 x (.ins cTable dx [(Str.ofString "name", V.str nm), (Str.ofString "names", V.ref m1), (Str.ofString "domains", V.ref m2), (Str.ofString "outcome", V.ref ou)]) = H9 at k9 x9 j9 i9 ⊢
  refine ⟨_, rfl, _, rfl, x, _, dx, _, rfl, x9, bl.k_Table, bl.na_Table_way, (by show 4 < 1000; decide), ?_⟩
  have g10 : upd H9 x (.ins cTable dx (putF (Str.ofString "way") (V.str wy) [(Str.ofString "name", V.str nm), (Str.ofString "names", V.ref m1), (Str.ofString "domains", V.ref m2), (Str.ofString "outcome", V.ref ou)])) = upd H9 x (.ins cTable dx [(Str.ofString "name", V.str nm), (Str.ofString "names", V.ref m1), (Str.ofString "domains", V.ref m2), (Str.ofString "outcome", V.ref ou), (Str.ofString "way", V.str wy)]) := by rw [pf4]
  rw [g10]
  clear g10
  have k10 : ∀ b o, b ≠ x → H5 b = some o → upd H9 x (.ins cTable dx [(Str.ofString "name", V.str nm), (Str.ofString "names", V.ref m1), (Str.ofString "domains", V.ref m2), (Str.ofString "outcome", V.ref ou), (Str.ofString "way", V.str wy)]) b = some o := fun b o hb e => (upd_ne hb).trans (k9 b o hb e)
  have x10 : upd H9 x (.ins cTable dx [(Str.ofString "name", V.str nm), (Str.ofString "names", V.ref m1), (Str.ofString "domains", V.ref m2), (Str.ofString "outcome", V.ref ou), (Str.ofString "way", V.str wy)]) x = some (.ins cTable dx [(Str.ofString "name", V.str nm), (Str.ofString "names", V.ref m1), (Str.ofString "domains", V.ref m2), (Str.ofString "outcome", V.ref ou), (Str.ofString "way", V.str wy)]) := upd_same
  have j10 : upd H9 x (.ins cTable dx [(Str.ofString "name", V.str nm), (Str.ofString "names", V.ref m1), (Str.ofString "domains", V.ref m2), (Str.ofString "outcome", V.ref ou), (Str.ofString "way", V.str wy)]) m1 = some (.lst (zs.map V.str)) := (upd_ne m1x).trans j9
  have i10 : upd H9 x (.ins cTable dx [(Str.ofString "name", V.str nm), (Str.ofString "names", V.ref m1), (Str.ofString "domains", V.ref m2), (Str.ofString "outcome", V.ref ou), (Str.ofString "way", V.str wy)]) m2 = some (.lst dv) := (upd_ne m2x).trans i9
  generalize upd H9 x (.ins cTable dx [(Str.ofString "name", V.str nm), (Str.ofString "names", V.ref m1), (Str.ofString "domains", V.ref m2), (Str.ofString "outcome", V.ref ou), (Str.ofString "way", V.str wy)]) = H10 at k10 x10 j10 i10 ⊢
  have R10 : RL NT H10 rx rws := RL.same R5 (hide_same k10)
  have hrl10 := k10 _ _ rlx (s5 _ _ hrl)
  refine ⟨_, rfl, rl, rfl, ⟨_, SqL.of hrl10⟩, compG_list (xs := rx) (fun D i zs H' => Same H10 H' ∧ H' D = some (.lst zs) ∧ RL (Fr H10 D) H' zs (rws.take i))
    (fun D hD => ⟨same_new hD _, upd_same, RefL.nil⟩) (fun D i zs H' hD _ h => SqL.of (h.1 _ _ hrl10)) (fun D i y zs H' hD e h ts hts => ?_) (fun D zs H' hD h => ?_)⟩
  · obtain ⟨sm, eD, hz⟩ := h
    obtain ⟨r, w_, rfl, ew, ce, cv, g1, _, g2, g3⟩ := RefL.get (R10.same sm) e
    have hi : i < rx.length := (List.getElem?_eq_some_iff.mp e).1
    obtain ⟨t0, t1, rfl⟩ : ∃ t0 t1, ts = [t0, t1] := by
      match ts, hts with
      | [t0, t1], _ => exact ⟨t0, t1, rfl⟩
    refine ⟨r, _, rfl, SqT.of g1, rfl, _, _, rfl, _, _, rfl, rfl, ⟨[some (.ref ce), some (.int w_.2)], rfl, rfl⟩, ?_⟩
    refine ⟨_, rfl, _, rfl, ce, cv, w_, rfl, g2, g3, by rw [(hok w_ (List.mem_of_getElem? ew)).len]; omega, fun r2 H2 t2 hr2 hrow => ?_⟩
    have eD2 := t2 _ _ eD
    have hlz : zs.length ≤ 200 := by
      have := hz.1
      rw [List.length_take] at this
      omega
    refine CYes.mk hi eD2 (small1000 (by omega)) ⟨(sm.trans t2).upd hD, upd_same, ?_⟩
    rw [take_snoc ew]
    exact RL.updN (RefL.snoc (hz.same t2) (hrow.wk fun a h => ⟨sm.free h, fun z => by rw [z, eD] at h; cases h⟩)) Fr.out eD2
  · obtain ⟨sm, eD, hz⟩ := h
    rw [hR.1, List.take_length] at hz
    refine ⟨_, rfl, x, _, dx, _, rfl, sm _ _ x10, bl.k_Table, bl.na_Table_rows, (by show 5 < 1000; decide), ?_⟩
    have g11 : upd H' x (.ins cTable dx (putF (Str.ofString "rows") (V.ref D) [(Str.ofString "name", V.str nm), (Str.ofString "names", V.ref m1), (Str.ofString "domains", V.ref m2), (Str.ofString "outcome", V.ref ou), (Str.ofString "way", V.str wy)])) = upd H' x (.ins cTable dx [(Str.ofString "name", V.str nm), (Str.ofString "names", V.ref m1), (Str.ofString "domains", V.ref m2), (Str.ofString "outcome", V.ref ou), (Str.ofString "way", V.str wy), (Str.ofString "rows", V.ref D)]) := by rw [pf5]
    rw [g11]
    have nDx : D ≠ x := fun z => by rw [z, x10] at hD; cases hD
    refine q _ _ D zs (fun b o hb e => (upd_ne hb).trans (sm _ _ (k10 b o hb (s5 _ _ e)))) upd_same rfl rfl rfl rfl ⟨m1, m2, rfl, rfl, (upd_ne m1x).trans (sm _ _ j10), (upd_ne m2x).trans (sm _ _ i10)⟩ ((upd_ne nDx).trans eD) ?_
    exact RL.same (RL.hide (sm _ _ x10) hz.any) (hide_same fun b o hb e => (upd_ne hb).trans e)
theorem ok_with_rows (F : Fun K "with_rows" "with_rows" s_with_rows f fd) (bl : Bl K mg cTableError cBadName cTooMany cBadWay cBadRow cWay cFirst cOnly cLike cLow cHigh cSum cDomain cNumbers cWords cTable) (k_Table : MkCallee (CX1 P w) P w K mg base 6 "Table" cTable ["self", "name", "names", "domains", "outcome", "way", "rows"] (sp_Table___init___Table K cTableError cBadName cTooMany cBadWay cBadRow cWay cFirst cOnly cLike cLow cHigh cSum cDomain cNumbers cWords cTable)) : FnOk P w K mg base (CX1 P w) 8 f fd ["table", "rows"] (sp_with_rows K cTableError cBadName cTooMany cBadWay cBadRow cWay cFirst cOnly cLike cLow cHigh cSum cDomain cNumbers cWords cTable) := by
  refine F.okE sc_with_rows (fun vs H Q E h => ?_) (fun cdv A outer s H vs Q E hr h => ?_)
  · obtain ⟨t, rl, ou, nm, wy, zs, dv, rx, bs, o, rws, bw, kk, rfl, ⟨dt, na, dl, ft, ht, f1, f2, f3, f4, f5, hna, hdl⟩, hsm, h50, hwsm, hbo, hdv, hou, hrl, hR, hb5, hbn, hk, q, qE⟩ := h
    rfl
  obtain ⟨t, rl, ou, nm, wy, zs, dv, rx, bs, o, rws, bw, kk, rfl, ⟨dt, na, dl, ft, ht, f1, f2, f3, f4, f5, hna, hdl⟩, hsm, h50, hwsm, hbo, hdv, hou, hrl, hR, hb5, hbn, hk, q, qE⟩ := h
  refine ⟨_, (pss_one (ps_ret (pe_mkE k_Table passE hr rfl (pa_cons (pe_fld (pv 0) rfl) (pa_cons (pe_fld (pv 0) rfl) (pa_cons (pe_fld (pv 0) rfl) (pa_cons (pe_fld (pv 0) rfl) (pa_cons (pe_fld (pv 0) rfl) (pa_cons (pv 1) pa_nil))))))))), ?_⟩
  refine ⟨_, rfl, t, _, _, _, _, rfl, ht, bl.k_Table, bl.na_Table_name, f1, _, rfl, t, _, _, _, _, rfl, ht, bl.k_Table, bl.na_Table_names, f4, _, rfl, t, _, _, _, _, rfl, ht, bl.k_Table, bl.na_Table_domains, f5, _, rfl, t, _, _, _, _, rfl, ht, bl.k_Table, bl.na_Table_outcome, f3, _, rfl, t, _, _, _, _, rfl, ht, bl.k_Table, bl.na_Table_way, f2, _, rfl, fun x dx hx hdx hne => ?_⟩
  have s10 : Same H (upd (upd H dx (.own x)) x (.ins cTable dx [])) := (same_new hdx _).upd hx
  refine ⟨x, dx, na, dl, ou, rl, _, _, zs, dv, rx, bs, o, rws, bw, kk, rfl, upd_same, s10 _ _ hna, hsm, h50, hwsm, hbo.same s10, s10 _ _ hdl, RefL.mono hdv fun _ _ p => p.same s10, hou.same s10, s10 _ _ hrl, hR.same s10, hb5, hbn, hk, fun h0 H' fs rl' xs' k1 k2 _ _ _ _ _ _ _ => ?_, fun C hC H' s' => qE C hC H' (s10.trans s')⟩
  exact ⟨rfl, q h0 x dx fs H' (fun b u e => k1 b u (ne_of_none e hx) (s10 _ _ e)) k2⟩
theorem ok_law_made (F : Fun K "_law_made" "_law_made" s_law_made f fd) (bl : Bl K mg cTableError cBadName cTooMany cBadWay cBadRow cWay cFirst cOnly cLike cLow cHigh cSum cDomain cNumbers cWords cTable) (c__law_outcome_of : Callee P w K mg base 7 "_law_outcome_of" ["made", "kinds"] (sp_law_outcome_of K cTableError cBadName cTooMany cBadWay cBadRow cWay cFirst cOnly cLike cLow cHigh cSum cDomain cNumbers cWords cTable)) (k_Table : MkCallee (CX1 P w) P w K mg base 6 "Table" cTable ["self", "name", "names", "domains", "outcome", "way", "rows"] (sp_Table___init___Table K cTableError cBadName cTooMany cBadWay cBadRow cWay cFirst cOnly cLike cLow cHigh cSum cDomain cNumbers cWords cTable)) : FnOk P w K mg base CX0 8 f fd ["name", "names", "domains", "outcome", "way", "rows"] (sp_law_made K cTableError cBadName cTooMany cBadWay cBadRow cWay cFirst cOnly cLike cLow cHigh cSum cDomain cNumbers cWords cTable) := by
  refine F.ok sc_law_made (fun vs H Q E h => ?_) (fun cdv A outer s H vs Q E hr h => ?_)
  · obtain ⟨na, dl, ou, rl, nm, wy, zs, dv, rx, bs, o, rws, bw, kk, rfl, hna, hsm, h50, hwsm, hbo, hdl, hdv, hou, hrl, hR, hb5, hbn, hk, q⟩ := h
    rfl
  obtain ⟨na, dl, ou, rl, nm, wy, zs, dv, rx, bs, o, rws, bw, kk, rfl, hna, hsm, h50, hwsm, hbo, hdl, hdv, hou, hrl, hR, hb5, hbn, hk, q⟩ := h
  refine ⟨_, (pss_cons (ps_set (i := 6) sc_law_made.nd rfl (Or.inl rfl) pe_non)
     (pss_cons (ps_set (i := 7) sc_law_made.nd rfl (Or.inl rfl) (pe_lst pa_nil))
     (pss_cut (ps_try (G := fun C => ExcLook K C) (i := 8) (psx_set (i := 6) sc_law_made.nd rfl (Or.inl rfl) (pex_mk k_Table rfl hr rfl (pa_cons (pv 0) (pa_cons (pv 1) (pa_cons (pv 2) (pa_cons (pv 3) (pa_cons (pv 4) (pa_cons (pv 5) pa_nil)))))))) rfl rfl rfl rfl bl.TableError_ sc_law_made.nd rfl rfl (fun C e oe hG hc => (pss_one (ps_set (i := 7) sc_law_made.nd rfl (Or.inl rfl) (pe_lst (pa_cons (pe_callB (call_isiX hc hG) rfl bl.isinstance_ PyProof.Rows.boot_isinstance (pa_cons (pv 8) (pa_cons (pe_bltn (v := .ty "ValueError") rfl bl.ValueError_ PyProof.Rows.Boot.ValueError rfl) pa_nil))) (pa_cons (pe_callB (call_isiX hc hG) rfl bl.isinstance_ PyProof.Rows.boot_isinstance (pa_cons (pv 8) (pa_cons (pe_glob (v := .ref cBadName) rfl bl.BadName_ rfl) pa_nil))) (pa_cons (pe_callB (call_isiX hc hG) rfl bl.isinstance_ PyProof.Rows.boot_isinstance (pa_cons (pv 8) (pa_cons (pe_glob (v := .ref cTooMany) rfl bl.TooMany_ rfl) pa_nil))) (pa_cons (pe_callB (call_isiX hc hG) rfl bl.isinstance_ PyProof.Rows.boot_isinstance (pa_cons (pv 8) (pa_cons (pe_glob (v := .ref cBadWay) rfl bl.BadWay_ rfl) pa_nil))) (pa_cons (pe_callB (call_isiX hc hG) rfl bl.isinstance_ PyProof.Rows.boot_isinstance (pa_cons (pv 8) (pa_cons (pe_glob (v := .ref cBadRow) rfl bl.BadRow_ rfl) pa_nil))) pa_nil))))))))))
     (pss_one (ps_ret (pe_fn c__law_outcome_of hr rfl (pa_cons (pv 6) (pa_cons (pv 7) pa_nil)))))))), ?_⟩
  refine ⟨(by show 0 ≤ sizeLine; decide), fun l hl => ?_⟩
  have s1 := same_new hl (.lst [])
  have el : upd H l (.lst []) l = some (.lst []) := upd_same
  generalize upd H l (.lst []) = H1 at s1 el ⊢
  refine ⟨fun σ' H' => Same H H' ∧ ∃ (mv : V) (kl : Addr), σ' = [some (.str nm), some (.ref na), some (.ref dl), some (.ref ou), some (.str wy), some (.ref rl), some mv, some (.ref kl), none] ∧ ((kk = 0 ∧ (∃ x dx fs, mv = .ref x ∧ H' x = some (.ins cTable dx fs)) ∧ H' kl = some (.lst [])) ∨ (1 ≤ kk ∧ kk ≤ 4 ∧ mv = .non ∧ H' kl = some (.lst ((kinds5 kk).map V.bl)))), ?_, ?_⟩
  · refine ⟨_, rfl, _, rfl, _, rfl, _, rfl, _, rfl, _, rfl, fun x dx hx hdx hne => ?_⟩
    have s10 : Same H1 (upd (upd H1 dx (.own x)) x (.ins cTable dx [])) := (same_new hdx _).upd hx
    have s20 := s1.trans s10
    refine ⟨x, dx, na, dl, ou, rl, _, _, zs, dv, rx, bs, o, rws, bw, kk, rfl, upd_same, s20 _ _ hna, hsm, h50, hwsm, hbo.same s20, s20 _ _ hdl, RefL.mono hdv fun _ _ p => p.same s20, hou.same s20, s20 _ _ hrl, hR.same s20, hb5, hbn, hk, fun h0 H' fs rl' xs' k1 k2 _ _ _ _ _ _ _ => ?_, fun C hC H' s' => ?_⟩
    · have s3 : Same H1 H' := fun b u e => k1 b u (ne_of_none e hx) (s10 _ _ e)
      exact ⟨rfl, s1.trans s3, _, l, rfl, .inl ⟨h0, ⟨x, dx, fs, rfl, k2⟩, s3 _ _ el⟩⟩
    · have s3 := s20.trans s'
      match kk, hC with
      | 1, hC =>
        cases hC
        refine ⟨_, rfl, bl.e_BadName, bl.l_BadName, fun e => ?_⟩
        refine ⟨_, rfl, _, true, rfl, .inr (.inl ⟨_, rfl, bl.v_BadName⟩), _, rfl, _, true, rfl, .inl ⟨_, rfl, bl.g_BadName_BadName⟩, _, rfl, _, false, rfl, .inl ⟨_, rfl, bl.g_BadName_TooMany⟩, _, rfl, _, false, rfl, .inl ⟨_, rfl, bl.g_BadName_BadWay⟩, _, rfl, _, false, rfl, .inl ⟨_, rfl, bl.g_BadName_BadRow⟩, (by show 5 ≤ sizeLine; decide), fun p hp => ?_⟩
        exact ⟨s3.trans (same_new hp _), .non, p, rfl, .inr ⟨by decide, by decide, rfl, upd_same⟩⟩
      | 2, hC =>
        cases hC
        refine ⟨_, rfl, bl.e_TooMany, bl.l_TooMany, fun e => ?_⟩
        refine ⟨_, rfl, _, true, rfl, .inr (.inl ⟨_, rfl, bl.v_TooMany⟩), _, rfl, _, false, rfl, .inl ⟨_, rfl, bl.g_TooMany_BadName⟩, _, rfl, _, true, rfl, .inl ⟨_, rfl, bl.g_TooMany_TooMany⟩, _, rfl, _, false, rfl, .inl ⟨_, rfl, bl.g_TooMany_BadWay⟩, _, rfl, _, false, rfl, .inl ⟨_, rfl, bl.g_TooMany_BadRow⟩, (by show 5 ≤ sizeLine; decide), fun p hp => ?_⟩
        exact ⟨s3.trans (same_new hp _), .non, p, rfl, .inr ⟨by decide, by decide, rfl, upd_same⟩⟩
      | 3, hC =>
        cases hC
        refine ⟨_, rfl, bl.e_BadWay, bl.l_BadWay, fun e => ?_⟩
        refine ⟨_, rfl, _, true, rfl, .inr (.inl ⟨_, rfl, bl.v_BadWay⟩), _, rfl, _, false, rfl, .inl ⟨_, rfl, bl.g_BadWay_BadName⟩, _, rfl, _, false, rfl, .inl ⟨_, rfl, bl.g_BadWay_TooMany⟩, _, rfl, _, true, rfl, .inl ⟨_, rfl, bl.g_BadWay_BadWay⟩, _, rfl, _, false, rfl, .inl ⟨_, rfl, bl.g_BadWay_BadRow⟩, (by show 5 ≤ sizeLine; decide), fun p hp => ?_⟩
        exact ⟨s3.trans (same_new hp _), .non, p, rfl, .inr ⟨by decide, by decide, rfl, upd_same⟩⟩
      | 4, hC =>
        cases hC
        refine ⟨_, rfl, bl.e_BadRow, bl.l_BadRow, fun e => ?_⟩
        refine ⟨_, rfl, _, true, rfl, .inr (.inl ⟨_, rfl, bl.v_BadRow⟩), _, rfl, _, false, rfl, .inl ⟨_, rfl, bl.g_BadRow_BadName⟩, _, rfl, _, false, rfl, .inl ⟨_, rfl, bl.g_BadRow_TooMany⟩, _, rfl, _, false, rfl, .inl ⟨_, rfl, bl.g_BadRow_BadWay⟩, _, rfl, _, true, rfl, .inl ⟨_, rfl, bl.g_BadRow_BadRow⟩, (by show 5 ≤ sizeLine; decide), fun p hp => ?_⟩
        exact ⟨s3.trans (same_new hp _), .non, p, rfl, .inr ⟨by decide, by decide, rfl, upd_same⟩⟩
  rintro σ2 H2 ⟨s2, mv, kl, rfl, hkl⟩
  exact ⟨_, rfl, _, rfl, mv, kl, kk, rfl, hkl, fun H3 s3 => q H3 (s2.trans s3)⟩
theorem ok_law_other_rows (F : Fun K "_law_other_rows" "_law_other_rows" s_law_other_rows f fd) (bl : Bl K mg cTableError cBadName cTooMany cBadWay cBadRow cWay cFirst cOnly cLike cLow cHigh cSum cDomain cNumbers cWords cTable) (c__law_outcome_of : Callee P w K mg base 8 "_law_outcome_of" ["made", "kinds"] (sp_law_outcome_of K cTableError cBadName cTooMany cBadWay cBadRow cWay cFirst cOnly cLike cLow cHigh cSum cDomain cNumbers cWords cTable)) (c_with_rows : CalleeX P w K mg base 8 "with_rows" ["table", "rows"] (sp_with_rows K cTableError cBadName cTooMany cBadWay cBadRow cWay cFirst cOnly cLike cLow cHigh cSum cDomain cNumbers cWords cTable)) : FnOk P w K mg base CX0 9 f fd ["table", "rows"] (sp_law_other_rows K cTableError cBadName cTooMany cBadWay cBadRow cWay cFirst cOnly cLike cLow cHigh cSum cDomain cNumbers cWords cTable) := by
  refine F.ok sc_law_other_rows (fun vs H Q E h => ?_) (fun cdv A outer s H vs Q E hr h => ?_)
  · obtain ⟨t, rl, ou, nm, wy, zs, dv, rx, bs, o, rws, bw, kk, rfl, hT, hsm, h50, hwsm, hbo, hdv, hou, hrl, hR, hb5, hbn, hk, q⟩ := h
    rfl
  obtain ⟨t, rl, ou, nm, wy, zs, dv, rx, bs, o, rws, bw, kk, rfl, hT, hsm, h50, hwsm, hbo, hdv, hou, hrl, hR, hb5, hbn, hk, q⟩ := h
  refine ⟨_, (pss_cons (ps_set (i := 2) sc_law_other_rows.nd rfl (Or.inl rfl) pe_non)
     (pss_cons (ps_set (i := 3) sc_law_other_rows.nd rfl (Or.inl rfl) (pe_lst pa_nil))
     (pss_cut (ps_try (G := fun C => ExcLook K C) (i := 4) (psx_set (i := 2) sc_law_other_rows.nd rfl (Or.inl rfl) (pex_fn c_with_rows hr rfl rfl (pa_cons (pv 0) (pa_cons (pv 1) pa_nil)))) rfl rfl rfl rfl bl.TableError_ sc_law_other_rows.nd rfl rfl (fun C e oe hG hc => (pss_one (ps_set (i := 3) sc_law_other_rows.nd rfl (Or.inl rfl) (pe_lst (pa_cons (pe_callB (call_isiX hc hG) rfl bl.isinstance_ PyProof.Rows.boot_isinstance (pa_cons (pv 4) (pa_cons (pe_bltn (v := .ty "ValueError") rfl bl.ValueError_ PyProof.Rows.Boot.ValueError rfl) pa_nil))) (pa_cons (pe_callB (call_isiX hc hG) rfl bl.isinstance_ PyProof.Rows.boot_isinstance (pa_cons (pv 4) (pa_cons (pe_glob (v := .ref cBadName) rfl bl.BadName_ rfl) pa_nil))) (pa_cons (pe_callB (call_isiX hc hG) rfl bl.isinstance_ PyProof.Rows.boot_isinstance (pa_cons (pv 4) (pa_cons (pe_glob (v := .ref cTooMany) rfl bl.TooMany_ rfl) pa_nil))) (pa_cons (pe_callB (call_isiX hc hG) rfl bl.isinstance_ PyProof.Rows.boot_isinstance (pa_cons (pv 4) (pa_cons (pe_glob (v := .ref cBadWay) rfl bl.BadWay_ rfl) pa_nil))) (pa_cons (pe_callB (call_isiX hc hG) rfl bl.isinstance_ PyProof.Rows.boot_isinstance (pa_cons (pv 4) (pa_cons (pe_glob (v := .ref cBadRow) rfl bl.BadRow_ rfl) pa_nil))) pa_nil))))))))))
     (pss_one (ps_ret (pe_fn c__law_outcome_of hr rfl (pa_cons (pv 2) (pa_cons (pv 3) pa_nil)))))))), ?_⟩
  refine ⟨(by show 0 ≤ sizeLine; decide), fun l hl => ?_⟩
  have s1 := same_new hl (.lst [])
  have el : upd H l (.lst []) l = some (.lst []) := upd_same
  generalize upd H l (.lst []) = H1 at s1 el ⊢
  refine ⟨fun σ' H' => Same H H' ∧ ∃ (mv : V) (kl : Addr), σ' = [some (.ref t), some (.ref rl), some mv, some (.ref kl), none] ∧ ((kk = 0 ∧ (∃ x dx fs, mv = .ref x ∧ H' x = some (.ins cTable dx fs)) ∧ H' kl = some (.lst [])) ∨ (1 ≤ kk ∧ kk ≤ 4 ∧ mv = .non ∧ H' kl = some (.lst ((kinds5 kk).map V.bl)))), ?_, ?_⟩
  · refine ⟨_, rfl, _, rfl, t, rl, ou, nm, wy, zs, dv, rx, bs, o, rws, bw, kk, rfl, hT.same s1, hsm, h50, hwsm, hbo.same s1, RefL.mono hdv fun _ _ p => p.same s1, hou.same s1, s1 _ _ hrl, hR.same s1, hb5, hbn, hk, fun h0 x dx fs H' s' k2 => ?_, fun C hC H' s' => ?_⟩
    · exact ⟨s1.trans s', _, l, rfl, .inl ⟨h0, ⟨x, dx, fs, rfl, k2⟩, s' _ _ el⟩⟩
    · have s3 := s1.trans s'
      match kk, hC with
      | 1, hC =>
        cases hC
        refine ⟨_, rfl, bl.e_BadName, bl.l_BadName, fun e => ?_⟩
        refine ⟨_, rfl, _, true, rfl, .inr (.inl ⟨_, rfl, bl.v_BadName⟩), _, rfl, _, true, rfl, .inl ⟨_, rfl, bl.g_BadName_BadName⟩, _, rfl, _, false, rfl, .inl ⟨_, rfl, bl.g_BadName_TooMany⟩, _, rfl, _, false, rfl, .inl ⟨_, rfl, bl.g_BadName_BadWay⟩, _, rfl, _, false, rfl, .inl ⟨_, rfl, bl.g_BadName_BadRow⟩, (by show 5 ≤ sizeLine; decide), fun p hp => ?_⟩
        exact ⟨s3.trans (same_new hp _), .non, p, rfl, .inr ⟨by decide, by decide, rfl, upd_same⟩⟩
      | 2, hC =>
        cases hC
        refine ⟨_, rfl, bl.e_TooMany, bl.l_TooMany, fun e => ?_⟩
        refine ⟨_, rfl, _, true, rfl, .inr (.inl ⟨_, rfl, bl.v_TooMany⟩), _, rfl, _, false, rfl, .inl ⟨_, rfl, bl.g_TooMany_BadName⟩, _, rfl, _, true, rfl, .inl ⟨_, rfl, bl.g_TooMany_TooMany⟩, _, rfl, _, false, rfl, .inl ⟨_, rfl, bl.g_TooMany_BadWay⟩, _, rfl, _, false, rfl, .inl ⟨_, rfl, bl.g_TooMany_BadRow⟩, (by show 5 ≤ sizeLine; decide), fun p hp => ?_⟩
        exact ⟨s3.trans (same_new hp _), .non, p, rfl, .inr ⟨by decide, by decide, rfl, upd_same⟩⟩
      | 3, hC =>
        cases hC
        refine ⟨_, rfl, bl.e_BadWay, bl.l_BadWay, fun e => ?_⟩
        refine ⟨_, rfl, _, true, rfl, .inr (.inl ⟨_, rfl, bl.v_BadWay⟩), _, rfl, _, false, rfl, .inl ⟨_, rfl, bl.g_BadWay_BadName⟩, _, rfl, _, false, rfl, .inl ⟨_, rfl, bl.g_BadWay_TooMany⟩, _, rfl, _, true, rfl, .inl ⟨_, rfl, bl.g_BadWay_BadWay⟩, _, rfl, _, false, rfl, .inl ⟨_, rfl, bl.g_BadWay_BadRow⟩, (by show 5 ≤ sizeLine; decide), fun p hp => ?_⟩
        exact ⟨s3.trans (same_new hp _), .non, p, rfl, .inr ⟨by decide, by decide, rfl, upd_same⟩⟩
      | 4, hC =>
        cases hC
        refine ⟨_, rfl, bl.e_BadRow, bl.l_BadRow, fun e => ?_⟩
        refine ⟨_, rfl, _, true, rfl, .inr (.inl ⟨_, rfl, bl.v_BadRow⟩), _, rfl, _, false, rfl, .inl ⟨_, rfl, bl.g_BadRow_BadName⟩, _, rfl, _, false, rfl, .inl ⟨_, rfl, bl.g_BadRow_TooMany⟩, _, rfl, _, false, rfl, .inl ⟨_, rfl, bl.g_BadRow_BadWay⟩, _, rfl, _, true, rfl, .inl ⟨_, rfl, bl.g_BadRow_BadRow⟩, (by show 5 ≤ sizeLine; decide), fun p hp => ?_⟩
        exact ⟨s3.trans (same_new hp _), .non, p, rfl, .inr ⟨by decide, by decide, rfl, upd_same⟩⟩
  rintro σ2 H2 ⟨s2, mv, kl, rfl, hkl⟩
  exact ⟨_, rfl, _, rfl, mv, kl, kk, rfl, hkl, fun H3 s3 => q H3 (s2.trans s3)⟩
theorem ok_law_refused_so (F : Fun K "_law_refused_so" "_law_refused_so" s_law_refused_so f fd) (bl : Bl K mg cTableError cBadName cTooMany cBadWay cBadRow cWay cFirst cOnly cLike cLow cHigh cSum cDomain cNumbers cWords cTable) (c__law_made : Callee P w K mg base 8 "_law_made" ["name", "names", "domains", "outcome", "way", "rows"] (sp_law_made K cTableError cBadName cTooMany cBadWay cBadRow cWay cFirst cOnly cLike cLow cHigh cSum cDomain cNumbers cWords cTable)) (c__law_own : Callee P w K mg base 8 "_law_own" ["row"] (sp_law_own K cTableError cBadName cTooMany cBadWay cBadRow cWay cFirst cOnly cLike cLow cHigh cSum cDomain cNumbers cWords cTable)) : FnOk P w K mg base CX0 9 f fd ["parts", "outcome"] (sp_law_refused_so K cTableError cBadName cTooMany cBadWay cBadRow cWay cFirst cOnly cLike cLow cHigh cSum cDomain cNumbers cWords cTable) := by
  refine F.ok sc_law_refused_so (fun vs H Q E h => ?_) (fun cdv A outer s H vs Q E hr h => ?_)
  · obtain ⟨pl, ou, o, zo, rfl, ⟨ev, dl, rl, wy, nm, zs, dv, rx, bs, rws, k, ep, eev, edl, erl, hwsm, hsm, h20, hdv, hb5, hRL, h300, hbd, hk⟩, hou, hbo, q⟩ := h
    rfl
  obtain ⟨pl, ou, o, zo, rfl, ⟨ev, dl, rl, wy, nm, zs, dv, rx, bs, rws, k, ep, eev, edl, erl, hwsm, hsm, h20, hdv, hb5, hRL, h300, hbd, hk⟩, hou, hbo, q⟩ := h
  refine ⟨_, (pss_cons (ps_set (i := 2) sc_law_refused_so.nd rfl (Or.inl rfl) (pe_lst (pa_cons (pe_callTy call_list_of rfl bl.list_ PyProof.Rows.boot_list (pa_cons (pe_slice sl_list (pe_ix ix_list (pv 0) pe_int (fun _ _ => rfl)) (po_some pe_int) po_none) pa_nil)) (pa_cons (pe_callTy call_list_of rfl bl.list_ PyProof.Rows.boot_list (pa_cons (pe_ix ix_list (pv 0) pe_int (fun _ _ => rfl)) pa_nil)) (pa_cons (pe_comp (pi_list (pe_ix ix_list (pv 0) pe_int (fun _ _ => rfl))) (cmpOk_plain rfl (by decide +kernel) (by decide +kernel) (by decide +kernel) rfl) rfl (fun _ _ _ _ => pif_nil) (fun _ _ _ _ => (pe_fn c__law_own hr rfl (pa_cons (pv 0) pa_nil)))) pa_nil)))))
     (pss_cons (ps_if (pt_cmpR op_ne (pe_fn c__law_made hr rfl (pa_cons (pe_ix ix_list (pe_ix ix_list (pv 0) pe_int (fun _ _ => rfl)) pe_int (fun _ _ => rfl)) (pa_cons (pe_ix ix_list (pv 2) pe_int (fun _ _ => rfl)) (pa_cons (pe_ix ix_list (pv 2) pe_int (fun _ _ => rfl)) (pa_cons (pv 1) (pa_cons (pe_ix ix_list (pv 0) pe_int (fun _ _ => rfl)) (pa_cons (pe_ix ix_list (pv 2) pe_int (fun _ _ => rfl)) pa_nil))))))) (pe_ix ix_list (pv 0) pe_int (fun _ _ => rfl)) (nomark _))
     (pss_one (ps_ret pe_bl))
     pss_nil)
     (pss_one (ps_ret (pe_and (pe_cmpR (op_eqL hr) (pe_ix ix_list (pv 2) pe_int (fun _ _ => rfl)) (pe_slice sl_list (pe_ix ix_list (pv 0) pe_int (fun _ _ => rfl)) (po_some pe_int) po_none) (nomark _)) (pe_and (pe_cmpR op_eq (pe_callB call_len_seq rfl bl.len_ PySem.boot_len (pa_cons (pe_ix ix_list (pv 2) pe_int (fun _ _ => rfl)) pa_nil)) (pe_callB call_len_seq rfl bl.len_ PySem.boot_len (pa_cons (pe_ix ix_list (pv 0) pe_int (fun _ _ => rfl)) pa_nil)) (nomark _)) (pe_one (pe_cmpR (op_eqDL hr) (pe_ix ix_list (pv 2) pe_int (fun _ _ => rfl)) (pe_ix ix_list (pv 0) pe_int (fun _ _ => rfl)) (nomark _))))))))), ?_⟩
  refine ⟨_, rfl, pl, _, _, _, rfl, rfl, SqL.of ep, rfl, _, rfl, ev, _, rfl, SqL.of eev, fun c1 hc1 => ?_⟩
  rw [cut_tail]
  have s1 := same_new hc1 (.lst (zs.map V.str))
  have e1 : upd H c1 (.lst (zs.map V.str)) c1 = some (.lst (zs.map V.str)) := upd_same
  generalize upd H c1 (.lst (zs.map V.str)) = H1 at s1 e1 ⊢
  refine ⟨c1, _, rfl, .inl (SqL.of e1), fun h0 hh0 => ?_⟩
  have s2 := s1.trans (same_new hh0 (.lst (zs.map V.str)))
  have e2 : upd H1 h0 (.lst (zs.map V.str)) h0 = some (.lst (zs.map V.str)) := upd_same
  generalize upd H1 h0 (.lst (zs.map V.str)) = H2 at s2 e2 ⊢
  refine ⟨_, rfl, pl, _, _, _, rfl, rfl, SqL.of (s2 _ _ ep), rfl, dl, _, rfl, .inl (SqL.of (s2 _ _ edl)), fun h1 hh1 => ?_⟩
  have t3 := same_new hh1 (.lst dv)
  have s3 := s2.trans t3
  have e3 : upd H2 h1 (.lst dv) h1 = some (.lst dv) := upd_same
  have e2 := t3 _ _ e2
  generalize upd H2 h1 (.lst dv) = H3 at s3 e3 e2 ⊢
  clear t3
  refine ⟨_, rfl, pl, _, _, _, rfl, rfl, SqL.of (s3 _ _ ep), rfl, rl, rfl, ⟨_, SqL.of (s3 _ _ erl)⟩, comp_list (xs := rx) (fun D i zs H' => Same H3 H' ∧ H' D = some (.lst zs) ∧ RL (Fr H3 D) H' zs (rws.take i)) (fun D hD => ⟨same_new hD _, upd_same, RefL.nil⟩) (fun D i zs H' hD _ h => SqL.of ((s3.trans h.1) _ _ erl)) (fun D i x zs H' hD e h => ?_) (fun D zs' H4 hD h => ?_)⟩
  · obtain ⟨sm, eD, hz⟩ := h
    obtain ⟨r, w_, rfl, ew, hrow⟩ := RefL.get (RL.same hRL (s3.trans sm)) e
    have hi : i < rx.length := (List.getElem?_eq_some_iff.mp e).1
    refine ⟨_, rfl, r, w_, rfl, hrow, (hbd w_ (List.mem_of_getElem? ew)).2, fun r2 ce ls H5 t5 _ _ _ _ _ hr2 => ?_⟩
    have eD2 := t5 _ _ eD
    have hlz : zs.length ≤ 300 := by
      have := hz.1
      rw [List.length_take] at this
      omega
    refine CYes.mk hi eD2 (small1000 (by omega)) ⟨(sm.trans t5).upd hD, upd_same, ?_⟩
    rw [take_snoc ew]
    exact RL.updN (RefL.snoc (RL.same hz t5) (hr2.wk fun a h => ⟨sm.free h, fun z => by rw [z, eD] at h; cases h⟩)) Fr.out eD2
  · obtain ⟨t4, eD, hz⟩ := h
    rw [hRL.1, List.take_length] at hz
    have s4 := s3.trans t4
    have e2 := t4 _ _ e2
    have e3 := t4 _ _ e3
    refine ⟨(by show 3 ≤ sizeLine; decide), fun hl hhl => ?_⟩
    have t5 := same_new hhl (.lst [.ref h0, .ref h1, .ref D])
    have e5 : upd H4 hl (.lst [.ref h0, .ref h1, .ref D]) hl = some (.lst [.ref h0, .ref h1, .ref D]) := upd_same
    have s5 := s4.trans t5
    have e2 := t5 _ _ e2
    have e3 := t5 _ _ e3
    have eD := t5 _ _ eD
    have hz5 : RL NT _ zs' rws := (RL.same hz t5).any
    generalize upd H4 hl (.lst [.ref h0, .ref h1, .ref D]) = H5 at s5 e2 e3 eD e5 hz5 ⊢
    have hzl : zs'.length = rx.length := by rw [hz5.1, hRL.1]
    have sp5 := SqL.of (K := K) (s5 _ _ ep)
    have sh5 := SqL.of (K := K) e5
    refine ⟨_, rfl, pl, _, _, _, rfl, rfl, sp5, rfl, ev, _, _, _, rfl, rfl, SqL.of (s5 _ _ eev), at_zero nm zs, _, rfl, hl, _, _, _, rfl, rfl, sh5, rfl, _, rfl, hl, _, _, _, rfl, rfl, sh5, rfl, _, rfl, _, rfl, pl, _, _, _, rfl, rfl, sp5, rfl, _, rfl, hl, _, _, _, rfl, rfl, sh5, rfl, ?_⟩
    refine ⟨h0, h1, ou, D, nm, wy, zs, dv, zs', bs, o, rws, !zo.isEmpty, k, rfl, e2, hsm, by omega, hwsm, hbo.same s5, e3, RefL.mono hdv fun _ _ p => p.same s5, hou.same s5, eD, hz5, hb5, (fun w hw => (hbd w hw).1), by rw [hzl]; exact hk, fun H6 t6 => ?_⟩
    have s6 := s5.trans t6
    have sp6 := SqL.of (K := K) (s6 _ _ ep)
    have sh6 := SqL.of (K := K) (t6 _ _ e5)
    refine ⟨_, rfl, pl, _, _, _, rfl, rfl, sp6, rfl, rfl, _, rfl, iteNS rfl ?_⟩
    refine ⟨_, rfl, hl, _, _, _, rfl, rfl, sh6, rfl, _, rfl, pl, _, _, _, rfl, rfl, sp6, rfl, _, rfl, ev, _, rfl, SqL.of (s6 _ _ eev), fun c9 hc9 => ?_⟩
    rw [cut_tail]
    have t7 := same_new hc9 (.lst (zs.map V.str))
    have e7 : upd H6 c9 (.lst (zs.map V.str)) c9 = some (.lst (zs.map V.str)) := upd_same
    have s7 := s6.trans t7
    have s57 := t6.trans t7
    generalize upd H6 c9 (.lst (zs.map V.str)) = H7 at t7 e7 s7 s57 ⊢
    have sp7 := SqL.of (K := K) (s7 _ _ ep)
    have sh7 := SqL.of (K := K) (s57 _ _ e5)
    refine rEqL_same (SqL.of (s57 _ _ e2)) (SqL.of e7) (fun x hx => .inl (List.all_eq_true.mp (flat_strs zs) x hx)) ⟨_, rfl, iteT ?_⟩
    refine ⟨_, rfl, hl, _, _, _, rfl, rfl, sh7, rfl, h1, _, rfl, .inl (SqL.of (s57 _ _ e3)), _, rfl, pl, _, _, _, rfl, rfl, sp7, rfl, dl, _, rfl, .inl (SqL.of (s7 _ _ edl)), rfl, _, rfl, iteTS rfl ?_⟩
    refine ⟨_, rfl, hl, _, _, _, rfl, rfl, sh7, rfl, _, rfl, pl, _, _, _, rfl, rfl, sp7, rfl, eqDL_same (SqL.of (s57 _ _ eD)) (SqL.of (s7 _ _ erl)) hzl (deq_rows (RL.same hz5 s57) (RL.same hRL s7)) (q _ s7)⟩
theorem ok_law (F : Fun K "law" "law" s_law f fd) (bl : Bl K mg cTableError cBadName cTooMany cBadWay cBadRow cWay cFirst cOnly cLike cLow cHigh cSum cDomain cNumbers cWords cTable) (c__law_cell_at : Callee P w K mg base 9 "_law_cell_at" ["script", "k"] (sp_law_cell_at K cTableError cBadName cTooMany cBadWay cBadRow cWay cFirst cOnly cLike cLow cHigh cSum cDomain cNumbers cWords cTable)) (c__law_range : Callee P w K mg base 9 "_law_range" ["cell"] (sp_law_range K cTableError cBadName cTooMany cBadWay cBadRow cWay cFirst cOnly cLike cLow cHigh cSum cDomain cNumbers cWords cTable)) (c__law_row : Callee P w K mg base 9 "_law_row" ["cell", "columns", "low", "high", "calm"] (sp_law_row K cTableError cBadName cTooMany cBadWay cBadRow cWay cFirst cOnly cLike cLow cHigh cSum cDomain cNumbers cWords cTable)) (k_Table : MkCallee (CX1 P w) P w K mg base 8 "Table" cTable ["self", "name", "names", "domains", "outcome", "way", "rows"] (sp_Table___init___Table K cTableError cBadName cTooMany cBadWay cBadRow cWay cFirst cOnly cLike cLow cHigh cSum cDomain cNumbers cWords cTable)) (c__law_mixed : Callee P w K mg base 9 "_law_mixed" ["cell", "k"] (sp_law_mixed K cTableError cBadName cTooMany cBadWay cBadRow cWay cFirst cOnly cLike cLow cHigh cSum cDomain cNumbers cWords cTable)) (c__law_refused_so : Callee P w K mg base 9 "_law_refused_so" ["parts", "outcome"] (sp_law_refused_so K cTableError cBadName cTooMany cBadWay cBadRow cWay cFirst cOnly cLike cLow cHigh cSum cDomain cNumbers cWords cTable)) (c__law_word : Callee P w K mg base 9 "_law_word" ["cell", "k"] (sp_law_word K cTableError cBadName cTooMany cBadWay cBadRow cWay cFirst cOnly cLike cLow cHigh cSum cDomain cNumbers cWords cTable)) (c__law_domain : Callee P w K mg base 9 "_law_domain" ["told"] (sp_law_domain K cTableError cBadName cTooMany cBadWay cBadRow cWay cFirst cOnly cLike cLow cHigh cSum cDomain cNumbers cWords cTable)) (c__law_other_rows : Callee P w K mg base 9 "_law_other_rows" ["table", "rows"] (sp_law_other_rows K cTableError cBadName cTooMany cBadWay cBadRow cWay cFirst cOnly cLike cLow cHigh cSum cDomain cNumbers cWords cTable)) (c__law_faulty : Callee P w K mg base 9 "_law_faulty" ["columns", "rows", "out", "faults", "turn", "head"] (sp_law_faulty K cTableError cBadName cTooMany cBadWay cBadRow cWay cFirst cOnly cLike cLow cHigh cSum cDomain cNumbers cWords cTable)) (c__law_bad_row : Callee P w K mg base 9 "_law_bad_row" ["row", "columns", "out", "turn"] (sp_law_bad_row K cTableError cBadName cTooMany cBadWay cBadRow cWay cFirst cOnly cLike cLow cHigh cSum cDomain cNumbers cWords cTable)) : FnOk P w K mg base CX0 10 f fd ["script"] (sp_law K) := by
  refine F.ok sc_law (fun vs H Q E h => ?_) (fun cdv A outer s H vs Q E hr h => ?_)
  · obtain ⟨a, ns, rfl, hS, h63, q⟩ := h
    rfl
  obtain ⟨a, ns, rfl, hS, h63, q⟩ := h
  refine ⟨_, (pss_cons (ps_set (i := 1) sc_law.nd rfl (Or.inr rfl) (pe_fn c__law_cell_at hr rfl (pa_cons (pv 0) (pa_cons pe_int pa_nil))))
     (pss_cons (ps_set (i := 2) sc_law.nd rfl (Or.inl rfl) (pe_fn c__law_cell_at hr rfl (pa_cons (pv 0) (pa_cons pe_int pa_nil))))
     (pss_cut (ps_set (i := 3) sc_law.nd rfl (Or.inl rfl) (pe_op op_mod (pe_fn c__law_cell_at hr rfl (pa_cons (pv 0) (pa_cons pe_int pa_nil))) pe_int))
     (pss_cut (ps_set (i := 4) sc_law.nd rfl (Or.inr rfl) (pe_comp (pi_range1 rfl bl.range_ (pa_cons (pe_op op_add pe_int (pe_op op_mod (pv 1) pe_int)) pa_nil)) (cmpOk_free (N := ["j", "head"]) (fr := [1]) (cl := [("head", s.heap.objs.size + 1)]) rfl rfl (by decide +kernel) (by decide +kernel) rfl (by decide +kernel) rfl rfl rfl (List.forall_mem_cons.mpr ⟨rfl, List.forall_mem_nil _⟩) rfl) rfl (fun _ _ _ _ => pif_nil) (fun _ _ _ _ => (pe_fn c__law_range hr rfl (pa_cons (pe_fn c__law_mixed hr rfl (pa_cons (pv 1) (pa_cons (pe_op op_add pe_int (pv 0)) pa_nil))) pa_nil)))))
     (pss_cut (ps_set (i := 5) sc_law.nd rfl (Or.inr rfl) (pe_fn c__law_range hr rfl (pa_cons (pe_fn c__law_mixed hr rfl (pa_cons (pv 1) (pa_cons pe_int pa_nil))) pa_nil)))
     (pss_cut (ps_comp (i := 6) sc_law.nd rfl (Or.inl rfl) (pi_list (pe_slice sl_list (pv 0) (po_some pe_int) (po_some pe_int))) (cmpOk_free (N := ["cell", "columns", "out"]) (fr := [4, 5]) (cl := [("out", s.heap.objs.size + 1 + 1 + 1), ("columns", s.heap.objs.size + 1 + 1)]) rfl rfl (by decide +kernel) (by decide +kernel) rfl (by decide +kernel) rfl rfl rfl (List.forall_mem_cons.mpr ⟨rfl, List.forall_mem_cons.mpr ⟨rfl, List.forall_mem_nil _⟩⟩) rfl) rfl (fun _ _ _ _ => pif_nil) (fun _ _ _ _ => (pe_fn c__law_row hr rfl (pa_cons (pv 0) (pa_cons (pv 1) (pa_cons (pe_ix (ix_listK (K := K) rfl) (pv 2) pe_int (fun _ _ => rfl)) (pa_cons (pe_ix (ix_listK (K := K) rfl) (pv 2) pe_int (fun _ _ => rfl)) (pa_cons pe_int pa_nil))))))))
     (pss_cut (ps_set (i := 7) sc_law.nd rfl (Or.inl rfl) (pe_fn c__law_row hr rfl (pa_cons (pv 2) (pa_cons (pv 4) (pa_cons (pe_ix ix_list (pv 5) pe_int (fun _ _ => rfl)) (pa_cons (pe_ix ix_list (pv 5) pe_int (fun _ _ => rfl)) (pa_cons pe_int pa_nil)))))))
     (pss_cut (ps_set (i := 8) sc_law.nd rfl (Or.inl rfl) (pe_callTy call_list_of rfl bl.list_ PyProof.Rows.boot_list (pa_cons (pv 6) pa_nil)))
     (pss_cons (ps_set (i := 9) sc_law.nd rfl (Or.inl rfl) pe_str)
     (pss_cut (ps_if (pt_cmpR op_eq (pe_op op_mod (pe_op op_fdiv (pv 3) pe_int) pe_int) pe_int (nomark _))
     (pss_cons (ps_set (i := 10) sc_law.nd rfl (Or.inl rfl) (pe_op op_mod (pe_op op_fdiv (pv 2) pe_int) (pe_op op_add (pe_callB call_len_seq rfl bl.len_ PySem.boot_len (pa_cons (pv 6) pa_nil)) pe_int)))
     (pss_cons (ps_set (i := 6) sc_law.nd rfl (Or.inl rfl) (pe_op op_cat (pe_op op_cat (pe_slice sl_list (pv 6) po_none (po_some (pv 10))) (pe_lst (pa_cons (pe_fn c__law_bad_row hr rfl (pa_cons (pv 7) (pa_cons (pv 4) (pa_cons (pv 5) (pa_cons (pe_op op_fdiv (pv 2) pe_int) pa_nil))))) pa_nil))) (pe_slice sl_list (pv 6) (po_some (pv 10)) po_none)))
     (pss_one (ps_set (i := 9) sc_law.nd rfl (Or.inl rfl) pe_str))))
     pss_nil)
     (pss_cons (ps_if (pt_not (pt_val (pe_fn c__law_refused_so hr rfl (pa_cons (pe_fn c__law_faulty hr rfl (pa_cons (pv 4) (pa_cons (pv 6) (pa_cons (pv 5) (pa_cons (pv 3) (pa_cons (pv 2) (pa_cons (pv 1) pa_nil))))))) (pa_cons (pe_fn c__law_domain hr rfl (pa_cons (pv 5) pa_nil)) pa_nil)))))
     (pss_one (ps_ret pe_bl))
     pss_nil)
     (pss_cut (ps_comp (i := 11) sc_law.nd rfl (Or.inl rfl) (pi_range1 rfl bl.range_ (pa_cons (pe_callB call_len_seq rfl bl.len_ PySem.boot_len (pa_cons (pv 4) pa_nil)) pa_nil)) (cmpOk_free (N := ["j", "head"]) (fr := [1]) (cl := [("head", s.heap.objs.size + 1)]) rfl rfl (by decide +kernel) (by decide +kernel) rfl (by decide +kernel) rfl rfl rfl (List.forall_mem_cons.mpr ⟨rfl, List.forall_mem_nil _⟩) rfl) rfl (fun _ _ _ _ => pif_nil) (fun _ _ _ _ => (pe_fn c__law_word hr rfl (pa_cons (pe_op op_fdiv (pv 1) pe_int) (pa_cons (pe_op op_add pe_int (pv 0)) pa_nil)))))
     (pss_cut (ps_comp (i := 12) sc_law.nd rfl (Or.inl rfl) (pi_list (pv 4)) (cmpOk_plain rfl (by decide +kernel) (by decide +kernel) (by decide +kernel) rfl) rfl (fun _ _ _ _ => pif_nil) (fun _ _ _ _ => (pe_fn c__law_domain hr rfl (pa_cons (pv 0) pa_nil))))
     (pss_cut (ps_set (i := 13) sc_law.nd rfl (Or.inl rfl) (pe_mk k_Table pass1 hr rfl (pa_cons (pe_fn c__law_word hr rfl (pa_cons (pe_op op_fdiv (pv 1) pe_int) (pa_cons pe_int pa_nil))) (pa_cons (pv 11) (pa_cons (pv 12) (pa_cons (pe_fn c__law_domain hr rfl (pa_cons (pv 5) pa_nil)) (pa_cons pe_str (pa_cons (pv 8) pa_nil))))))))
     (pss_cons (ps_if (pt_cmpR op_ne (pe_fn c__law_other_rows hr rfl (pa_cons (pv 13) (pa_cons (pv 6) pa_nil))) (pv 9) (nomark _))
     (pss_one (ps_ret pe_bl))
     pss_nil)
     (pss_cons (ps_if (pt_cmpR op_ne (pe_fn c__law_other_rows hr rfl (pa_cons (pv 13) (pa_cons (pe_slice sl_list (pe_op op_cat (pv 8) (pe_op op_rep (pe_lst (pa_cons (pv 7) pa_nil)) pe_int)) po_none (po_some pe_int)) pa_nil))) pe_str (nomark _))
     (pss_one (ps_ret pe_bl))
     pss_nil)
     (pss_one (ps_ret (pe_cmpR op_eq (pe_fn c__law_other_rows hr rfl (pa_cons (pv 13) (pa_cons (pe_slice sl_list (pe_op op_cat (pv 6) (pe_op op_rep (pe_lst (pa_cons (pv 7) pa_nil)) pe_int)) po_none (po_some pe_int)) pa_nil))) pe_str (nomark _)))))))))))))))))))), ?_⟩
  refine ⟨_, rfl, a, ns, 0, rfl, hS, Int.le_refl _, fun hd => ⟨_, rfl, a, ns, 1, rfl, hS, (by decide), fun tn => ?_⟩⟩
  refine ⟨fun σ' H' => H' = H ∧ ∃ f : Int, σ' = [some (.ref a), some (.int hd), some (.int tn), some (.int f), none, none, none, none, none, none, none, none, none, none], ?_, ?_⟩
  · exact ⟨_, rfl, a, ns, 2, rfl, hS, (by decide), fun r => ⟨_, _, rfl, rfl, (by show (0 : Int) < 16; decide), rfl, _, rfl⟩⟩
  rintro σ1 H1 ⟨rfl, ff, rfl⟩
  have h0 := Int.emod_nonneg hd (show (4 : Int) ≠ 0 by decide)
  have h1 := Int.emod_lt_of_pos hd (show (0 : Int) < 4 by decide)
  refine ⟨fun σ' H' => Same H1 H' ∧ ∃ (co : Addr) (xs : List V) (bs : Prs), H' co = some (.lst xs) ∧ Cols NT H' xs bs ∧ 1 ≤ bs.length ∧ bs.length ≤ 4 ∧ σ' = [some (.ref a), some (.int hd), some (.int tn), some (.int ff), some (.ref co), none, none, none, none, none, none, none, none, none], ?_, ?_⟩
  · refine ⟨_, rfl, _, _, rfl, rfl, (by show (0 : Int) < 4; decide), _, _, rfl, rfl, _, rfl, (by show -(2 ^ 62) ≤ 1 + hd % 4; omega), (by show 1 + hd % 4 < 2 ^ 62; omega), comp_range (fun D i zs H' => Same H1 H' ∧ H' D = some (.lst zs) ∧ ∃ bs : Prs, Cols (· ≠ D) H' zs bs ∧ bs.length = i) (fun D hD => ⟨same_new hD _, upd_same, [], RefL.nil, rfl⟩) (fun D i zs H' hD hi h => ?_) (fun D zs H' hD h => ?_)⟩
    · obtain ⟨sm, eD, bs, hz, hl⟩ := h
      refine ⟨_, rfl, _, rfl, _, _, rfl, rfl, _, _, rfl, (by show 0 ≤ 40 + (0 + (i : Int)); omega), (by show 40 + (0 + (i : Int)) ≤ 100; omega), fun r => ⟨r, rfl, fun l b H2 s2 hc => ?_⟩⟩
      have eD2 := s2 _ _ eD
      have hlz : zs.length = i := by rw [hz.1, hl]
      refine CYes.mk hi eD2 (small1000 (by omega)) ⟨(sm.trans s2).upd hD, upd_same, bs ++ [b], Cols.upd (RefL.snoc (hz.same s2) (hc.wk fun x hx z => by rw [z, eD] at hx; cases hx)), by rw [List.length_append, List.length_singleton, hl]⟩
    · obtain ⟨sm, eD, bs, hz, hl⟩ := h
      exact ⟨sm, D, zs, bs, eD, hz.any, by rw [hl]; omega, by rw [hl]; omega, rfl⟩
  rintro σ2 H2 ⟨s2, co, xs, bs, eco, hco, hb1, hb4, rfl⟩
  have hxl : xs.length = bs.length := hco.1
  refine ⟨fun σ' H' => Same H2 H' ∧ ∃ (ol : Addr) (o : Int × Int) (zo : List Str), ColZ NT H' ol o zo ∧ σ' = [some (.ref a), some (.int hd), some (.int tn), some (.int ff), some (.ref co), some (.ref ol), none, none, none, none, none, none, none, none], ?_, ?_⟩
  · refine ⟨_, rfl, _, _, rfl, by decide, by decide, fun r => ⟨r, rfl, fun l b H3 s3 hc => ?_⟩⟩
    obtain ⟨zo, hz⟩ := hc.z
    exact ⟨s3, l, b, zo, hz.any, rfl⟩
  rintro σ3 H3 ⟨t3, ol, o, zo, hcz, rfl⟩
  have s3 := s2.trans t3
  have eco3 := t3 _ _ eco
  have hco3 := hco.same t3
  obtain ⟨wo, _, _, eo, ewo, rok⟩ := id hcz
  have wb : ∀ w : Rw, RowOk bs o w → bnd w.2 ∧ w.1.length ≤ 5 := fun w ok => ⟨bnd_of rok.bd (by have := ok.lo; omega) (by have := ok.hi; omega), by rw [ok.len]; omega⟩
  refine ⟨fun σ' H' => Same H3 H' ∧ ∃ (rl : Addr) (rx : List V) (rws : List Rw), H' rl = some (.lst rx) ∧ RL NT H' rx rws ∧ rx.length ≤ 63 ∧ (∀ w ∈ rws, RowOk bs o w) ∧ σ' = [some (.ref a), some (.int hd), some (.int tn), some (.int ff), some (.ref co), some (.ref ol), some (.ref rl), none, none, none, none, none, none, none], ?_, ?_⟩
  · obtain ⟨ms, em, lm, _⟩ := cut_sub ns (some 3) (some 193)
    refine ⟨_, rfl, _, rfl, _, rfl, a, _, rfl, s3.seq hS, fun c1 hc1 => ?_⟩
    rw [em]
    have u1 := same_new hc1 (.lst (ms.map V.int))
    have e1 : upd H3 c1 (.lst (ms.map V.int)) c1 = some (.lst (ms.map V.int)) := upd_same
    generalize upd H3 c1 (.lst (ms.map V.int)) = H8 at u1 e1 ⊢
    have hlm : (ms.map V.int).length = ms.length := List.length_map _
    refine ⟨c1, rfl, ⟨_, SqL.of e1⟩, comp_list (xs := ms.map V.int) (fun D i zs H' => Same H8 H' ∧ H' D = some (.lst zs) ∧ (∃ rws : List Rw, RL (Fr H8 D) H' zs rws ∧ ∀ w ∈ rws, RowOk bs o w) ∧ zs.length = i) (fun D hD => ⟨same_new hD _, upd_same, ⟨[], RefL.nil, (fun w hw => by cases hw)⟩, rfl⟩) (fun D i zs H' hD _ hh => SqL.of (hh.1 _ _ e1)) (fun D i y zs H' hD e hh => ?_) (fun D zs H' hD hh => ?_)⟩
    · obtain ⟨sm, eD, ⟨rws, hz, hok⟩, hl⟩ := hh
      obtain ⟨c, rfl, _⟩ := mem_map_int e
      have hi := (List.getElem?_eq_some_iff.mp e).1
      have sH := u1.trans sm
      refine ⟨_, rfl, _, rfl, _, rfl, ol, _, _, _, rfl, rfl, SqL.of (sH _ _ eo), rfl, _, rfl, ol, _, _, _, rfl, rfl, SqL.of (sH _ _ eo), rfl, c, co, xs, bs, o, 0, rfl, sH _ _ eco3, hco3.same sH, hb4, rok.le, fun r w H2 t2 hrow ok _ => ?_⟩
      have eD2 := t2 _ _ eD
      refine CYes.mk hi eD2 (small1000 (by omega)) ⟨(sm.trans t2).upd hD, upd_same, ⟨rws ++ [w], RL.updN (RefL.snoc (RL.same hz t2) (hrow.wk fun a h => ⟨sm.free h, fun z => by rw [z, eD] at h; cases h⟩)) Fr.out eD2, fun w' hw' => ?_⟩, by rw [List.length_append, List.length_singleton, hl]⟩
      rcases List.mem_append.mp hw' with h | h
      · exact hok w' h
      · rw [show w' = w by simpa using h]; exact ok
    · obtain ⟨sm, eD, ⟨rws, hz, hok⟩, hl⟩ := hh
      exact ⟨u1.trans sm, D, zs, rws, eD, hz.any, by omega, hok, rfl⟩
  rintro σ4 H4 ⟨t4, rl, rx, rws, erl, hR, hr63, hok, rfl⟩
  have s4 := s3.trans t4
  have eco4 := t4 _ _ eco3
  have hco4 := hco3.same t4
  have eo4 := t4 _ _ eo
  have hcz4 := hcz.same t4
  refine ⟨fun σ' H' => Same H4 H' ∧ ∃ (mr : Addr) (mw : Rw), RowA NT H' mr mw ∧ RowOk bs o mw ∧ (∀ ps ∈ mw.1, ps.length ≤ 4) ∧ σ' = [some (.ref a), some (.int hd), some (.int tn), some (.int ff), some (.ref co), some (.ref ol), some (.ref rl), some (.ref mr), none, none, none, none, none, none], ?_, ?_⟩
  · exact ⟨_, rfl, _, rfl, _, rfl, ol, _, _, _, rfl, rfl, SqL.of eo4, rfl, _, rfl, ol, _, _, _, rfl, rfl, SqL.of eo4, rfl, tn, co, xs, bs, o, 0, rfl, eco4, hco4, hb4, rok.le, fun r w H5 t5 hrow ok h4p => ⟨t5, r, w, hrow.any, ok, h4p, rfl⟩⟩
  rintro σ5 H5 ⟨t5, mr, mw, hmr, mok, m4p, rfl⟩
  have s5 := s4.trans t5
  have erl5 := t5 _ _ erl
  refine ⟨fun σ' H' => Same H5 H' ∧ ∃ gl : Addr, H' gl = some (.lst rx) ∧ σ' = [some (.ref a), some (.int hd), some (.int tn), some (.int ff), some (.ref co), some (.ref ol), some (.ref rl), some (.ref mr), some (.ref gl), none, none, none, none, none], ?_, ?_⟩
  · exact ⟨_, rfl, rl, _, rfl, .inl (SqL.of erl5), fun gl hgl => ⟨same_new hgl _, gl, upd_same, rfl⟩⟩
  rintro σ6 H6 ⟨t6, gl, egl, rfl⟩
  have s6 := s5.trans t6
  have t46 := t5.trans t6
  have erl6 := t46 _ _ erl
  have hR6 := RL.same hR t46
  have eco6 := t46 _ _ eco4
  have hco6 := hco4.same t46
  have hcz6 := hcz4.same t46
  have hmr6 := hmr.same t6
  clear erl5 erl hR t5
  refine ⟨fun σ' H' => Same H6 H' ∧ ∃ (rl' : Addr) (rx' : List V) (rws' : List Rw) (k : Nat) (c10 : Option V), H' rl' = some (.lst rx') ∧ RL NT H' rx' rws' ∧ rx'.length ≤ 70 ∧ (∀ w ∈ rws', bnd w.2 ∧ w.1.length ≤ 5) ∧ ((ff / 8 % 2 = 1 ∧ k = 4 ∧ ¬ ∀ w ∈ rws', RowOk bs o w) ∨ (ff / 8 % 2 ≠ 1 ∧ k = 0 ∧ ∀ w ∈ rws', RowOk bs o w)) ∧ σ' = [some (.ref a), some (.int hd), some (.int tn), some (.int ff), some (.ref co), some (.ref ol), some (.ref rl'), some (.ref mr), some (.ref gl), some (.str (out5 k)), c10, none, none, none], ?_, ?_⟩
  · refine ⟨_, rfl, _, _, rfl, rfl, ⟨by decide, by decide⟩, _, _, rfl, rfl, (by show (0 : Int) < 2; decide), rfl, _, rfl, ite2 (fun g => ?_) (fun g => ⟨Same.refl _, rl, rx, rws, 0, _, erl6, hR6, by omega, fun w hw => wb w (hok w hw), .inr ⟨fun e => g (decide_eq_true (congrArg V.int e)), rfl, hok⟩, rfl⟩)⟩
    have g8 : ff / 8 % 2 = 1 := V.int.inj (of_decide_eq_true g)
    have pos : (0 : Int) < ((rx.length : Nat) : Int) + 1 := by omega
    have a0 := Int.emod_nonneg (tn / 7) (Int.ne_of_gt pos)
    have a1 := Int.emod_lt_of_pos (tn / 7) pos
    obtain ⟨i, ei⟩ : ∃ i : Nat, tn / 7 % (((rx.length : Nat) : Int) + 1) = (i : Int) := ⟨(tn / 7 % (((rx.length : Nat) : Int) + 1)).toNat, by omega⟩
    rw [ei] at a0 a1
    have hi : i ≤ rx.length := by omega
    refine ⟨_, rfl, _, _, rfl, rfl, ⟨by decide, by decide⟩, _, rfl, rl, _, rfl, .inl (SqL.of erl6), _, _, rfl, rfl, _, _, rfl, rfl, pos, ?_⟩
    refine ⟨_, rfl, _, rfl, _, rfl, rl, _, rfl, SqL.of erl6, fun c1 hc1 => ?_⟩
    rw [ei, cutV_to rx hi]
    have u1 := same_new hc1 (.lst (rx.take i))
    have f1 : upd H6 c1 (.lst (rx.take i)) c1 = some (.lst (rx.take i)) := upd_same
    generalize upd H6 c1 (.lst (rx.take i)) = H7 at u1 f1 ⊢
    refine ⟨_, rfl, _, rfl, _, rfl, _, rfl, _, _, rfl, rfl, ⟨by decide, by decide⟩, mr, co, ol, mw, xs, bs, o, _, rfl, hmr6.same u1, u1 _ _ eco6, hco6.same u1, hb1, hb4, (hcz6.same u1).a, mok, m4p, fun br bw H8 t8 hbr nok bb b5 => ?_⟩
    refine ⟨(by show 1 ≤ sizeLine; decide), fun c2 hc2 => ?_⟩
    have u2 := u1.trans (t8.trans (same_new hc2 (.lst [.ref br])))
    have f2 : upd H8 c2 (.lst [.ref br]) c2 = some (.lst [.ref br]) := upd_same
    have f1 := (t8.trans (same_new hc2 (.lst [.ref br]))) _ _ f1
    have hbr2 := hbr.same (same_new hc2 (.lst [.ref br]))
    generalize upd H8 c2 (.lst [.ref br]) = H9 at u2 f2 f1 hbr2 ⊢
    refine ⟨c1, c2, _, _, rfl, rfl, f1, f2, Nat.le_of_lt (small1000 (by rw [List.length_take]; show min i rx.length + 1 ≤ 1000; omega)), fun c3 hc3 => ?_⟩
    have u3 := u2.trans (same_new hc3 (.lst (rx.take i ++ [.ref br])))
    have f3 : upd H9 c3 (.lst (rx.take i ++ [.ref br])) c3 = some (.lst (rx.take i ++ [.ref br])) := upd_same
    have hbr3 := hbr2.same (same_new hc3 (.lst (rx.take i ++ [.ref br])))
    generalize upd H9 c3 (.lst (rx.take i ++ [.ref br])) = H10 at u3 f3 hbr3 ⊢
    refine ⟨_, rfl, _, rfl, _, rfl, rl, _, rfl, SqL.of (u3 _ _ erl6), fun c4 hc4 => ?_⟩
    rw [ei, cutV_from rx hi]
    have u4 := u3.trans (same_new hc4 (.lst (rx.drop i)))
    have f4 : upd H10 c4 (.lst (rx.drop i)) c4 = some (.lst (rx.drop i)) := upd_same
    have f3 := same_new hc4 (.lst (rx.drop i)) _ _ f3
    have hbr4 := hbr3.same (same_new hc4 (.lst (rx.drop i)))
    generalize upd H10 c4 (.lst (rx.drop i)) = H11 at u4 f4 f3 hbr4 ⊢
    refine ⟨c3, c4, _, _, rfl, rfl, f3, f4, Nat.le_of_lt (small1000 (by rw [List.length_append, List.length_take, List.length_drop]; show min i rx.length + 1 + _ ≤ 1000; omega)), fun p hp => ?_⟩
    have tp := same_new hp (.lst (rx.take i ++ [.ref br] ++ rx.drop i))
    have u5 := u4.trans tp
    refine ⟨u5, p, _, rws.take i ++ [bw] ++ rws.drop i, 4, _, upd_same, ?_, ?_, fun w hw => ?_, .inl ⟨g8, rfl, fun h => nok (h bw (by simp))⟩, rfl⟩
    · have hR11 := RL.same hR6 u5
      exact RefL.append (RefL.append (RefL.take hR11 i) (RefL.one (hbr4.same tp))) (RefL.drop hR11 i)
    · rw [List.length_append, List.length_append, List.length_take, List.length_drop, List.length_singleton]
      omega
    · rcases List.mem_append.mp hw with hw | hw
      · rcases List.mem_append.mp hw with hw | hw
        · exact wb w (hok w (List.mem_of_mem_take hw))
        · rw [show w = bw by simpa using hw]
          exact ⟨bb, b5⟩
      · exact wb w (hok w (List.mem_of_mem_drop hw))
  rintro σ7 H7 ⟨t7, rl', rx', rws', k, c10, erl', hR', h70, hbd', hk', rfl⟩
  have eco7 := t7 _ _ eco6
  have hco7 := hco6.same t7
  have hcz7 := hcz6.same t7
  refine ⟨_, rfl, _, rfl, _, rfl, _, rfl, _, rfl, _, rfl, co, rl', ol, xs, rx', bs, o, zo, rws', ff, tn, hd, rfl, eco7, hco7, hb1, hb4, hcz7, erl', hR', h70, hbd', fun e => ?_, fun e => ?_, fun pl H8 t8 hpa => ?_⟩
  · rcases hk' with ⟨_, _, h⟩ | ⟨h, _⟩
    · exact h
    · exact absurd e h
  · rcases hk' with ⟨h, _⟩ | ⟨_, _, h⟩
    · exact absurd h e
    · exact h
  refine ⟨_, rfl, ol, o, zo, rfl, hcz7.same t8, fun od H9 t9 hod hoo => ?_⟩
  refine ⟨pl, od, o, zo, rfl, hpa.same t9, hod, hoo, fun H10 t10 => ⟨_, rfl, iteF ?_⟩⟩
  have t710 := (t8.trans t9).trans t10
  have t610 := t7.trans t710
  have s10 := s6.trans t610
  have eco10 := t610 _ _ eco6
  have hco10 := hco6.same t610
  have hcz10 := hcz6.same t610
  refine ⟨fun σ' H' => Same H10 H' ∧ ∃ na : Addr, H' na = some (.lst ((nms (hd / 4) bs.length).map V.str)) ∧ σ' = [some (.ref a), some (.int hd), some (.int tn), some (.int ff), some (.ref co), some (.ref ol), some (.ref rl'), some (.ref mr), some (.ref gl), some (.str (out5 k)), c10, some (.ref na), none, none], ?_, ?_⟩
  · refine ⟨_, rfl, co, _, rfl, .inl (SqL.of eco10), _, rfl, (by show -(2 ^ 62) ≤ ((xs.length : Nat) : Int); omega), (by show ((xs.length : Nat) : Int) < 2 ^ 62; omega), comp_range (fun D i zs H' => Same H10 H' ∧ H' D = some (.lst zs) ∧ zs = (nms (hd / 4) i).map V.str) (fun D hD => ⟨same_new hD _, upd_same, rfl⟩) (fun D i zs H' hD hi h => ?_) (fun D zs H' hD h => ?_)⟩
    · obtain ⟨sm, eD, rfl⟩ := h
      have hl : ((nms (hd / 4) i).map V.str).length = i := by rw [List.length_map, nms_len]
      refine ⟨_, rfl, _, _, rfl, rfl, ⟨by decide, by decide⟩, _, rfl, _, _, rfl, rfl, _, _, rfl, CYes.mk hi eD (small1000 (by rw [hl]; omega)) ⟨sm.upd hD, upd_same, ?_⟩⟩
      rw [nms_succ, List.map_append, Int.zero_add]
      rfl
    · obtain ⟨sm, eD, rfl⟩ := h
      refine ⟨sm, D, ?_, rfl⟩
      rw [← hxl]
      exact eD
  rintro σ11 H11 ⟨t11, na, ena, rfl⟩
  have s11 := s10.trans t11
  refine ⟨fun σ' H' => Same H11 H' ∧ ∃ (dl : Addr) (dv : List V), H' dl = some (.lst dv) ∧ RefL dv bs (Dom cNumbers cWords H') ∧ σ' = [some (.ref a), some (.int hd), some (.int tn), some (.int ff), some (.ref co), some (.ref ol), some (.ref rl'), some (.ref mr), some (.ref gl), some (.str (out5 k)), c10, some (.ref na), some (.ref dl), none], ?_, ?_⟩
  · have eco11 := t11 _ _ eco10
    have hco11 := hco10.same t11
    refine ⟨_, rfl, co, rfl, ⟨_, SqL.of eco11⟩, comp_list (xs := xs) (fun D i zs H' => Same H11 H' ∧ H' D = some (.lst zs) ∧ RefL zs (bs.take i) (Dom cNumbers cWords H')) (fun D hD => ⟨same_new hD _, upd_same, RefL.nil⟩) (fun D i zs H' hD _ h => SqL.of (h.1 _ _ eco11)) (fun D i x zs H' hD e h => ?_) (fun D zs H' hD h => ?_)⟩
    · obtain ⟨sm, eD, hz⟩ := h
      obtain ⟨l, b, rfl, eb, hc⟩ := RefL.get (hco11.same sm) e
      obtain ⟨zz, hcc⟩ := hc.z
      have hi : i < xs.length := (List.getElem?_eq_some_iff.mp e).1
      have hlz : zs.length ≤ 4 := by have h1 := hz.1; rw [List.length_take] at h1; omega
      refine ⟨_, rfl, l, b, zz, rfl, hcc, fun a H2 s2 hdm _ => CYes.mk hi (s2 _ _ eD) (small1000 (by omega)) ⟨(sm.trans s2).upd hD, upd_same, ?_⟩⟩
      rw [take_snoc eb]
      exact RefL.mono (RefL.snoc (RefL.mono hz fun _ _ p => p.same s2) hdm) fun _ _ p => p.upd (s2 _ _ eD)
    · obtain ⟨sm, eD, hz⟩ := h
      rw [hxl, List.take_length] at hz
      exact ⟨sm, D, zs, eD, hz, rfl⟩
  rintro σ12 H12 ⟨t12, dl, dv, edl, hdv, rfl⟩
  have t1012 := t11.trans t12
  have t612 := t610.trans t1012
  have ena12 := t12 _ _ ena
  have egl12 := t612 _ _ egl
  have hR12 := RL.same hR6 t612
  have nok := nms_ok (hd / 4) (n := bs.length) (by omega)
  have nsm := nms_sm (hd / 4) (n := bs.length) (by omega)
  have nlen := nms_len (hd / 4) bs.length
  have lsm : Sm 1000 (Str.ofString "like") := Sm.of _ (by decide)
  have lwk : ∀ b : Bool, WyOk (Str.ofString "like") b := fun b => ⟨by decide +kernel, fun h => absurd h.1 (by decide +kernel)⟩
  generalize hnm : wd (hd / 4) 0 = nm at nok nsm
  generalize hzz : nms (hd / 4) bs.length = zs at nok nsm nlen ena12
  refine ⟨fun σ' H' => Same H12 H' ∧ ∃ (tb ou : Addr), TblX cTable H' tb nm (Str.ofString "like") ou zs dv ∧ Dom cNumbers cWords H' ou o ∧ OuC cNumbers cWords H' ou (!zo.isEmpty) ∧ σ' = [some (.ref a), some (.int hd), some (.int tn), some (.int ff), some (.ref co), some (.ref ol), some (.ref rl'), some (.ref mr), some (.ref gl), some (.str (out5 k)), c10, some (.ref na), some (.ref dl), some (.ref tb)], ?_, ?_⟩
  · refine ⟨_, rfl, _, _, rfl, rfl, ⟨by decide, by decide⟩, _, _, rfl, _, rfl, _, rfl, _, rfl, ol, o, zo, rfl, hcz6.same t612, fun od H13 t13 hod hoo => ⟨_, rfl, fun x dx hx hdx hne => ?_⟩⟩
    have sx : Same H13 (upd (upd H13 dx (.own x)) x (.ins cTable dx [])) := (same_new hdx _).upd hx
    have sx2 := t13.trans sx
    refine ⟨x, dx, na, dl, od, gl, nm, Str.ofString "like", zs, dv, rx, bs, o, rws, !zo.isEmpty, 0, by rw [hnm], upd_same, sx2 _ _ ena12, nsm, by omega, lsm, hoo.same sx, sx2 _ _ edl, RefL.mono hdv fun _ _ p => p.same sx2, hod.same sx, sx2 _ _ egl12, RL.same hR12 sx2, by omega, (fun w hw => (wb w (hok w hw)).1), .made nok ⟨by omega, by omega, by omega⟩ (lwk _) hok, fun _ H' fs rl2 xs2 k1 k2 _ k4 k5 k6 k7 _ _ => ⟨rfl, ?_⟩, fun C hC => by cases hC⟩
    have s14 : Same H13 H' := fun b u e => k1 b u (ne_of_none e hx) (sx _ _ e)
    obtain ⟨na2, dl2, m1, m2, m3, m4⟩ := k7
    exact ⟨t13.trans s14, x, od, ⟨dx, na2, dl2, fs, k2, k6, k4, k5, m1, m2, m3, m4⟩, hod.same s14, hoo.same s14, rfl⟩
  rintro σ13 H13 ⟨t13, tb, ou, htb, hou, hoc, rfl⟩
  have t1013 := t1012.trans t13
  have t713 := t710.trans t1013
  have t613 := t612.trans t13
  have erl13 := t713 _ _ erl'
  have hR13 := RL.same hR' t713
  have hdv13 := RefL.mono hdv fun _ _ p => Dom.same p t13
  have hmr13 := hmr6.same t613
  have egl13 := t13 _ _ egl12
  have hRg := RL.same hR12 t13
  have hTk : TabIs (nm :: zs) zs.length rx'.length (WyOk (Str.ofString "like") (!zo.isEmpty)) (∀ w ∈ rws', RowOk bs o w) k := by
    rcases hk' with ⟨_, rfl, h⟩ | ⟨_, rfl, h⟩
    · exact .row nok ⟨by omega, by omega, by omega⟩ (lwk _) h
    · exact .made nok ⟨by omega, by omega, by omega⟩ (lwk _) h
  refine ⟨_, rfl, _, rfl, tb, rl', ou, nm, _, zs, dv, rx', bs, o, rws', _, k, rfl, htb, nsm, by omega, lsm, hoc, hdv13, hou, erl13, hR13, by omega, (fun w hw => (hbd' w hw).1), hTk, fun H14 t14 => ⟨_, rfl, rfl, _, rfl, iteNS rfl ?_⟩⟩
  have egl14 := t14 _ _ egl13
  have hRg14 := RL.same hRg t14
  have hmr14 := hmr13.same t14
  refine ⟨_, rfl, _, rfl, _, rfl, (by show 1 ≤ sizeLine; decide), fun p1 hp1 => ?_⟩
  have u1 := same_new hp1 (.lst [.ref mr])
  have f1 : upd H14 p1 (.lst [.ref mr]) p1 = some (.lst [.ref mr]) := upd_same
  generalize upd H14 p1 (.lst [.ref mr]) = H15 at u1 f1 ⊢
  refine ⟨p1, 200, _, rfl, rfl, f1, by decide, by decide, (by show 1 * 200 ≤ sizeLine; decide), fun p2 hp2 => ?_⟩
  rw [show (List.replicate (200 : Int).toNat [V.ref mr]).flatten = List.replicate 200 (V.ref mr) from rep_flat 200 (V.ref mr)]
  have u2 := u1.trans (same_new hp2 (.lst (List.replicate 200 (V.ref mr))))
  have f2 : upd H15 p2 (.lst (List.replicate 200 (V.ref mr))) p2 = some (.lst (List.replicate 200 (V.ref mr))) := upd_same
  generalize upd H15 p2 (.lst (List.replicate 200 (V.ref mr))) = H16 at u2 f2 ⊢
  refine ⟨gl, p2, _, _, rfl, rfl, u2 _ _ egl14, f2, Nat.le_of_lt (small1000 (by rw [List.length_replicate]; omega)), fun p3 hp3 => ?_⟩
  have u3 := u2.trans (same_new hp3 (.lst (rx ++ List.replicate 200 (V.ref mr))))
  have f3 : upd H16 p3 (.lst (rx ++ List.replicate 200 (V.ref mr))) p3 = some (.lst (rx ++ List.replicate 200 (V.ref mr))) := upd_same
  generalize upd H16 p3 (.lst (rx ++ List.replicate 200 (V.ref mr))) = H17 at u3 f3 ⊢
  refine ⟨_, rfl, p3, _, rfl, SqL.of f3, fun p4 hp4 => ?_⟩
  have hll : 200 ≤ (rx ++ List.replicate 200 (V.ref mr)).length := by rw [List.length_append, List.length_replicate]; omega
  rw [show cutV (rx ++ List.replicate 200 (V.ref mr)) none (some 200) = _ from cutV_to (n := 200) _ hll]
  have hl2 : ((rx ++ List.replicate 200 (V.ref mr)).take 200).length = 200 := by rw [List.length_take]; omega
  have u4 := u3.trans (same_new hp4 (.lst ((rx ++ List.replicate 200 (V.ref mr)).take 200)))
  have f4 : upd H17 p4 (.lst ((rx ++ List.replicate 200 (V.ref mr)).take 200)) p4 = some (.lst ((rx ++ List.replicate 200 (V.ref mr)).take 200)) := upd_same
  generalize upd H17 p4 (.lst ((rx ++ List.replicate 200 (V.ref mr)).take 200)) = H18 at u4 f4 ⊢
  have v18 := t14.trans u4
  have hRL : RL NT H18 ((rx ++ List.replicate 200 (V.ref mr)).take 200) ((rws ++ List.replicate 200 mw).take 200) := RefL.take (RefL.append (RL.same hRg14 u4) (RefL.rep (hmr14.same u4) 200)) 200
  have allok : ∀ w ∈ (rws ++ List.replicate 200 mw).take 200, RowOk bs o w := fun w hw => by
    rcases List.mem_append.mp (List.mem_of_mem_take hw) with h | h
    · exact hok w h
    · rw [List.eq_of_mem_replicate h]; exact mok
  refine ⟨tb, p4, ou, nm, _, zs, dv, _, bs, o, _, _, 0, rfl, htb.same v18, nsm, by omega, lsm, hoc.same v18, RefL.mono hdv13 fun _ _ p => Dom.same p v18, hou.same v18, f4, hRL, by omega, (fun w hw => (wb w (allok w hw)).1), .made nok ⟨by omega, by omega, by rw [hl2]; omega⟩ (lwk _) allok, fun H19 t19 => ⟨rfl, _, rfl, iteNS rfl ?_⟩⟩
  have v19 := v18.trans t19
  have erl19 := v19 _ _ erl13
  refine ⟨_, rfl, _, rfl, _, rfl, (by show 1 ≤ sizeLine; decide), fun r1 hr1 => ?_⟩
  have y1 := same_new hr1 (.lst [.ref mr])
  have g1 : upd H19 r1 (.lst [.ref mr]) r1 = some (.lst [.ref mr]) := upd_same
  generalize upd H19 r1 (.lst [.ref mr]) = H20 at y1 g1 ⊢
  refine ⟨r1, 201, _, rfl, rfl, g1, by decide, by decide, (by show 1 * 201 ≤ sizeLine; decide), fun r2 hr2 => ?_⟩
  rw [show (List.replicate (201 : Int).toNat [V.ref mr]).flatten = List.replicate 201 (V.ref mr) from rep_flat 201 (V.ref mr)]
  have y2 := y1.trans (same_new hr2 (.lst (List.replicate 201 (V.ref mr))))
  have g2 : upd H20 r2 (.lst (List.replicate 201 (V.ref mr))) r2 = some (.lst (List.replicate 201 (V.ref mr))) := upd_same
  generalize upd H20 r2 (.lst (List.replicate 201 (V.ref mr))) = H21 at y2 g2 ⊢
  refine ⟨rl', r2, _, _, rfl, rfl, y2 _ _ erl19, g2, Nat.le_of_lt (small1000 (by rw [List.length_replicate]; omega)), fun r3 hr3 => ?_⟩
  have y3 := y2.trans (same_new hr3 (.lst (rx' ++ List.replicate 201 (V.ref mr))))
  have g3 : upd H21 r3 (.lst (rx' ++ List.replicate 201 (V.ref mr))) r3 = some (.lst (rx' ++ List.replicate 201 (V.ref mr))) := upd_same
  generalize upd H21 r3 (.lst (rx' ++ List.replicate 201 (V.ref mr))) = H22 at y3 g3 ⊢
  refine ⟨_, rfl, r3, _, rfl, SqL.of g3, fun r4 hr4 => ?_⟩
  have hll' : 201 ≤ (rx' ++ List.replicate 201 (V.ref mr)).length := by rw [List.length_append, List.length_replicate]; omega
  rw [show cutV (rx' ++ List.replicate 201 (V.ref mr)) none (some 201) = _ from cutV_to (n := 201) _ hll']
  have hl3 : ((rx' ++ List.replicate 201 (V.ref mr)).take 201).length = 201 := by rw [List.length_take]; omega
  have y4 := y3.trans (same_new hr4 (.lst ((rx' ++ List.replicate 201 (V.ref mr)).take 201)))
  have g4 : upd H22 r4 (.lst ((rx' ++ List.replicate 201 (V.ref mr)).take 201)) r4 = some (.lst ((rx' ++ List.replicate 201 (V.ref mr)).take 201)) := upd_same
  generalize upd H22 r4 (.lst ((rx' ++ List.replicate 201 (V.ref mr)).take 201)) = H23 at y4 g4 ⊢
  have v23 := v19.trans y4
  have hRL' : RL NT H23 ((rx' ++ List.replicate 201 (V.ref mr)).take 201) ((rws' ++ List.replicate 201 mw).take 201) := RefL.take (RefL.append (RL.same hR13 v23) (RefL.rep (hmr13.same v23) 201)) 201
  have allb : ∀ w ∈ (rws' ++ List.replicate 201 mw).take 201, bnd w.2 := fun w hw => by
    rcases List.mem_append.mp (List.mem_of_mem_take hw) with h | h
    · exact (hbd' w h).1
    · rw [List.eq_of_mem_replicate h]; exact (wb mw mok).1
  refine ⟨tb, r4, ou, nm, _, zs, dv, _, bs, o, _, _, 2, rfl, htb.same v23, nsm, by omega, lsm, hoc.same v23, RefL.mono hdv13 fun _ _ p => Dom.same p v23, hou.same v23, g4, hRL', by omega, allb, .many nok (fun h => by have := h.2.2; rw [hl3] at this; omega), fun H24 t24 => ⟨rfl, ?_⟩⟩
  have qq := q H24
  rw [show decide (V.str (out5 2) = V.str (Str.ofString "TooMany")) = true from decide_eq_true rfl]
  exact qq
end
theorem all_mk {l : PySem.W.OpenLaw} {w : World} {K : PySem.W.Frag} {h : Heap} {mg : Str → Option Value} {fa f0 f1 f2 f3 f4 f5 f6 f7 f8 f9 f10 f11 f12 f13 f14 f15 f16 f17 f18 f19 f20 f21 f22 f23 f24 f25 f26 f27 f28 f29 f30 f31 f32 f33 f34 f35 f36 f37 f38 f39 f40 f41 f42 f43 f44 : Addr} (X : K.In h) (G : h.Ns mainGlobals mg) (hfa : mg "law" = some (.ref fa))
    {od0 an0 od1 an1 od2 an2 od3 an3 od4 an4 od5 an5 od6 an6 od7 an7 od8 an8 od9 an9 od10 an10 od11 an11 od12 an12 od13 an13 od14 an14 od15 an15 od16 an16 od17 an17 od18 an18 od19 an19 od20 an20 od21 an21 od22 an22 od23 an23 od24 an24 od25 an25 od26 an26 od27 an27 od28 an28 od29 an29 od30 an30 od31 an31 od32 an32 od33 an33 od34 an34 od35 an35 od36 an36 od37 an37 od38 an38 od39 an39 od40 an40 od41 an41 od42 an42 od43 an43 od44 an44 : Option Addr} {sl0 sl1 sl2 sl3 sl4 sl5 sl6 sl7 sl8 sl9 sl10 sl11 sl12 sl13 sl14 sl15 sl16 sl17 sl18 sl19 sl20 sl21 sl22 sl23 sl24 sl25 sl26 sl27 sl28 sl29 sl30 sl31 sl32 sl33 sl34 sl35 sl36 sl37 sl38 sl39 sl40 sl41 sl42 sl43 sl44 : Array (Option Value)} {oc0 kV0 dc0 pm0 cd0 ct0 oc1 kV1 dc1 pm1 cd1 ct1 oc2 kV2 dc2 pm2 cd2 ct2 oc3 kV3 dc3 pm3 cd3 ct3 oc4 kV4 dc4 pm4 cd4 ct4 oc5 kV5 dc5 pm5 cd5 ct5 oc6 kV6 dc6 pm6 cd6 ct6 oc7 kV7 dc7 pm7 cd7 ct7 oc8 kV8 dc8 pm8 cd8 ct8 oc9 kV9 dc9 pm9 cd9 ct9 oc10 kV10 dc10 pm10 cd10 ct10 oc11 kV11 dc11 pm11 cd11 ct11 oc12 kV12 dc12 pm12 cd12 ct12 oc13 kV13 dc13 pm13 cd13 ct13 oc14 kV14 dc14 pm14 cd14 ct14 oc15 kV15 dc15 pm15 cd15 ct15 oc16 kV16 dc16 pm16 cd16 ct16 oc17 kV17 dc17 pm17 cd17 ct17 oc18 kV18 dc18 pm18 cd18 ct18 oc19 kV19 dc19 pm19 cd19 ct19 oc20 kV20 dc20 pm20 cd20 ct20 oc21 kV21 dc21 pm21 cd21 ct21 oc22 kV22 dc22 pm22 cd22 ct22 oc23 kV23 dc23 pm23 cd23 ct23 oc24 kV24 dc24 pm24 cd24 ct24 oc25 kV25 dc25 pm25 cd25 ct25 oc26 kV26 dc26 pm26 cd26 ct26 oc27 kV27 dc27 pm27 cd27 ct27 oc28 kV28 dc28 pm28 cd28 ct28 oc29 kV29 dc29 pm29 cd29 ct29 oc30 kV30 dc30 pm30 cd30 ct30 oc31 kV31 dc31 pm31 cd31 ct31 oc32 kV32 dc32 pm32 cd32 ct32 oc33 kV33 dc33 pm33 cd33 ct33 oc34 kV34 dc34 pm34 cd34 ct34 oc35 kV35 dc35 pm35 cd35 ct35 oc36 kV36 dc36 pm36 cd36 ct36 oc37 kV37 dc37 pm37 cd37 ct37 oc38 kV38 dc38 pm38 cd38 ct38 oc39 kV39 dc39 pm39 cd39 ct39 oc40 kV40 dc40 pm40 cd40 ct40 oc41 kV41 dc41 pm41 cd41 ct41 oc42 kV42 dc42 pm42 cd42 ct42 oc43 kV43 dc43 pm43 cd43 ct43 oc44 kV44 dc44 pm44 cd44 ct44 : Value}
    {cTableError cBadName cTooMany cBadWay cBadRow cWay cFirst cOnly cLike cLow cHigh cSum cDomain cNumbers cWords cTable : Addr}
    (n_TableError : PySem.W.nsIn K mainGlobals "TableError" = some (some (.ref cTableError)))
    (n_BadName : PySem.W.nsIn K mainGlobals "BadName" = some (some (.ref cBadName)))
    (n_TooMany : PySem.W.nsIn K mainGlobals "TooMany" = some (some (.ref cTooMany)))
    (n_BadWay : PySem.W.nsIn K mainGlobals "BadWay" = some (some (.ref cBadWay)))
    (n_BadRow : PySem.W.nsIn K mainGlobals "BadRow" = some (some (.ref cBadRow)))
    (n_Way : PySem.W.nsIn K mainGlobals "Way" = some (some (.ref cWay)))
    (n_First : PySem.W.nsIn K mainGlobals "First" = some (some (.ref cFirst)))
    (n_Only : PySem.W.nsIn K mainGlobals "Only" = some (some (.ref cOnly)))
    (n_Like : PySem.W.nsIn K mainGlobals "Like" = some (some (.ref cLike)))
    (n_Low : PySem.W.nsIn K mainGlobals "Low" = some (some (.ref cLow)))
    (n_High : PySem.W.nsIn K mainGlobals "High" = some (some (.ref cHigh)))
    (n_Sum : PySem.W.nsIn K mainGlobals "Sum" = some (some (.ref cSum)))
    (n_Domain : PySem.W.nsIn K mainGlobals "Domain" = some (some (.ref cDomain)))
    (n_Numbers : PySem.W.nsIn K mainGlobals "Numbers" = some (some (.ref cNumbers)))
    (n_Words : PySem.W.nsIn K mainGlobals "Words" = some (some (.ref cWords)))
    (n_Table : PySem.W.nsIn K mainGlobals "Table" = some (some (.ref cTable)))
    (a0 : PySem.W.nsIn K mainGlobals "all_among" = some (some (.ref f0))) (l0 : K.lookup f0 = some ⟨oc0, od0, .func (PySem.W.fnOf "all_among" "all_among" (defArgs s_all_among) (defBody s_all_among) (defScope s_all_among) .none kV0 dc0 pm0 an0 cd0 ct0), sl0⟩) (c0 : PySem.W.codeIn K cd0 "all_among" = true) (k0 : PySem.W.keepIn K (.ref f0) = true)
    (a1 : PySem.W.nsIn K mainGlobals "is_word" = some (some (.ref f1))) (l1 : K.lookup f1 = some ⟨oc1, od1, .func (PySem.W.fnOf "is_word" "is_word" (defArgs s_is_word) (defBody s_is_word) (defScope s_is_word) .none kV1 dc1 pm1 an1 cd1 ct1), sl1⟩) (c1 : PySem.W.codeIn K cd1 "is_word" = true) (k1 : PySem.W.keepIn K (.ref f1) = true)
    (a2 : PySem.W.nsIn K mainGlobals "is_whole" = some (some (.ref f2))) (l2 : K.lookup f2 = some ⟨oc2, od2, .func (PySem.W.fnOf "is_whole" "is_whole" (defArgs s_is_whole) (defBody s_is_whole) (defScope s_is_whole) .none kV2 dc2 pm2 an2 cd2 ct2), sl2⟩) (c2 : PySem.W.codeIn K cd2 "is_whole" = true) (k2 : PySem.W.keepIn K (.ref f2) = true)
    (a3 : PySem.W.nsIn K mainGlobals "way_by" = some (some (.ref f3))) (l3 : K.lookup f3 = some ⟨oc3, od3, .func (PySem.W.fnOf "way_by" "way_by" (defArgs s_way_by) (defBody s_way_by) (defScope s_way_by) .none kV3 dc3 pm3 an3 cd3 ct3), sl3⟩) (c3 : PySem.W.codeIn K cd3 "way_by" = true) (k3 : PySem.W.keepIn K (.ref f3) = true)
    (a4 : PySem.W.nsIn K mainGlobals "refuse_names" = some (some (.ref f4))) (l4 : K.lookup f4 = some ⟨oc4, od4, .func (PySem.W.fnOf "refuse_names" "refuse_names" (defArgs s_refuse_names) (defBody s_refuse_names) (defScope s_refuse_names) .none kV4 dc4 pm4 an4 cd4 ct4), sl4⟩) (c4 : PySem.W.codeIn K cd4 "refuse_names" = true) (k4 : PySem.W.keepIn K (.ref f4) = true)
    (a5 : PySem.W.nsIn K mainGlobals "refuse_counts" = some (some (.ref f5))) (l5 : K.lookup f5 = some ⟨oc5, od5, .func (PySem.W.fnOf "refuse_counts" "refuse_counts" (defArgs s_refuse_counts) (defBody s_refuse_counts) (defScope s_refuse_counts) .none kV5 dc5 pm5 an5 cd5 ct5), sl5⟩) (c5 : PySem.W.codeIn K cd5 "refuse_counts" = true) (k5 : PySem.W.keepIn K (.ref f5) = true)
    (a6 : PySem.W.nsIn K mainGlobals "refuse_way" = some (some (.ref f6))) (l6 : K.lookup f6 = some ⟨oc6, od6, .func (PySem.W.fnOf "refuse_way" "refuse_way" (defArgs s_refuse_way) (defBody s_refuse_way) (defScope s_refuse_way) .none kV6 dc6 pm6 an6 cd6 ct6), sl6⟩) (c6 : PySem.W.codeIn K cd6 "refuse_way" = true) (k6 : PySem.W.keepIn K (.ref f6) = true)
    (a7 : PySem.W.nsIn K mainGlobals "refuse_row" = some (some (.ref f7))) (l7 : K.lookup f7 = some ⟨oc7, od7, .func (PySem.W.fnOf "refuse_row" "refuse_row" (defArgs s_refuse_row) (defBody s_refuse_row) (defScope s_refuse_row) .none kV7 dc7 pm7 an7 cd7 ct7), sl7⟩) (c7 : PySem.W.codeIn K cd7 "refuse_row" = true) (k7 : PySem.W.keepIn K (.ref f7) = true)
    (a8 : PySem.W.nsIn K mainGlobals "own_row" = some (some (.ref f8))) (l8 : K.lookup f8 = some ⟨oc8, od8, .func (PySem.W.fnOf "own_row" "own_row" (defArgs s_own_row) (defBody s_own_row) (defScope s_own_row) .none kV8 dc8 pm8 an8 cd8 ct8), sl8⟩) (c8 : PySem.W.codeIn K cd8 "own_row" = true) (k8 : PySem.W.keepIn K (.ref f8) = true)
    (a9 : PySem.W.nsIn K mainGlobals "with_rows" = some (some (.ref f9))) (l9 : K.lookup f9 = some ⟨oc9, od9, .func (PySem.W.fnOf "with_rows" "with_rows" (defArgs s_with_rows) (defBody s_with_rows) (defScope s_with_rows) .none kV9 dc9 pm9 an9 cd9 ct9), sl9⟩) (c9 : PySem.W.codeIn K cd9 "with_rows" = true) (k9 : PySem.W.keepIn K (.ref f9) = true)
    (a10 : PySem.W.nsIn K mainGlobals "_law_cell_at" = some (some (.ref f10))) (l10 : K.lookup f10 = some ⟨oc10, od10, .func (PySem.W.fnOf "_law_cell_at" "_law_cell_at" (defArgs s_law_cell_at) (defBody s_law_cell_at) (defScope s_law_cell_at) .none kV10 dc10 pm10 an10 cd10 ct10), sl10⟩) (c10 : PySem.W.codeIn K cd10 "_law_cell_at" = true) (k10 : PySem.W.keepIn K (.ref f10) = true)
    (a11 : PySem.W.nsIn K mainGlobals "_law_mixed" = some (some (.ref f11))) (l11 : K.lookup f11 = some ⟨oc11, od11, .func (PySem.W.fnOf "_law_mixed" "_law_mixed" (defArgs s_law_mixed) (defBody s_law_mixed) (defScope s_law_mixed) .none kV11 dc11 pm11 an11 cd11 ct11), sl11⟩) (c11 : PySem.W.codeIn K cd11 "_law_mixed" = true) (k11 : PySem.W.keepIn K (.ref f11) = true)
    (a12 : PySem.W.nsIn K mainGlobals "_law_word" = some (some (.ref f12))) (l12 : K.lookup f12 = some ⟨oc12, od12, .func (PySem.W.fnOf "_law_word" "_law_word" (defArgs s_law_word) (defBody s_law_word) (defScope s_law_word) .none kV12 dc12 pm12 an12 cd12 ct12), sl12⟩) (c12 : PySem.W.codeIn K cd12 "_law_word" = true) (k12 : PySem.W.keepIn K (.ref f12) = true)
    (a13 : PySem.W.nsIn K mainGlobals "_law_range" = some (some (.ref f13))) (l13 : K.lookup f13 = some ⟨oc13, od13, .func (PySem.W.fnOf "_law_range" "_law_range" (defArgs s_law_range) (defBody s_law_range) (defScope s_law_range) .none kV13 dc13 pm13 an13 cd13 ct13), sl13⟩) (c13 : PySem.W.codeIn K cd13 "_law_range" = true) (k13 : PySem.W.keepIn K (.ref f13) = true)
    (a14 : PySem.W.nsIn K mainGlobals "_law_domain" = some (some (.ref f14))) (l14 : K.lookup f14 = some ⟨oc14, od14, .func (PySem.W.fnOf "_law_domain" "_law_domain" (defArgs s_law_domain) (defBody s_law_domain) (defScope s_law_domain) .none kV14 dc14 pm14 an14 cd14 ct14), sl14⟩) (c14 : PySem.W.codeIn K cd14 "_law_domain" = true) (k14 : PySem.W.keepIn K (.ref f14) = true)
    (a15 : PySem.W.nsIn K mainGlobals "_law_spans" = some (some (.ref f15))) (l15 : K.lookup f15 = some ⟨oc15, od15, .func (PySem.W.fnOf "_law_spans" "_law_spans" (defArgs s_law_spans) (defBody s_law_spans) (defScope s_law_spans) .none kV15 dc15 pm15 an15 cd15 ct15), sl15⟩) (c15 : PySem.W.codeIn K cd15 "_law_spans" = true) (k15 : PySem.W.keepIn K (.ref f15) = true)
    (a16 : PySem.W.nsIn K mainGlobals "_law_row" = some (some (.ref f16))) (l16 : K.lookup f16 = some ⟨oc16, od16, .func (PySem.W.fnOf "_law_row" "_law_row" (defArgs s_law_row) (defBody s_law_row) (defScope s_law_row) .none kV16 dc16 pm16 an16 cd16 ct16), sl16⟩) (c16 : PySem.W.codeIn K cd16 "_law_row" = true) (k16 : PySem.W.keepIn K (.ref f16) = true)
    (a17 : PySem.W.nsIn K mainGlobals "_law_outcome_of" = some (some (.ref f17))) (l17 : K.lookup f17 = some ⟨oc17, od17, .func (PySem.W.fnOf "_law_outcome_of" "_law_outcome_of" (defArgs s_law_outcome_of) (defBody s_law_outcome_of) (defScope s_law_outcome_of) .none kV17 dc17 pm17 an17 cd17 ct17), sl17⟩) (c17 : PySem.W.codeIn K cd17 "_law_outcome_of" = true) (k17 : PySem.W.keepIn K (.ref f17) = true)
    (a18 : PySem.W.nsIn K mainGlobals "_law_made" = some (some (.ref f18))) (l18 : K.lookup f18 = some ⟨oc18, od18, .func (PySem.W.fnOf "_law_made" "_law_made" (defArgs s_law_made) (defBody s_law_made) (defScope s_law_made) .none kV18 dc18 pm18 an18 cd18 ct18), sl18⟩) (c18 : PySem.W.codeIn K cd18 "_law_made" = true) (k18 : PySem.W.keepIn K (.ref f18) = true)
    (a19 : PySem.W.nsIn K mainGlobals "_law_other_rows" = some (some (.ref f19))) (l19 : K.lookup f19 = some ⟨oc19, od19, .func (PySem.W.fnOf "_law_other_rows" "_law_other_rows" (defArgs s_law_other_rows) (defBody s_law_other_rows) (defScope s_law_other_rows) .none kV19 dc19 pm19 an19 cd19 ct19), sl19⟩) (c19 : PySem.W.codeIn K cd19 "_law_other_rows" = true) (k19 : PySem.W.keepIn K (.ref f19) = true)
    (a20 : PySem.W.nsIn K mainGlobals "_law_own" = some (some (.ref f20))) (l20 : K.lookup f20 = some ⟨oc20, od20, .func (PySem.W.fnOf "_law_own" "_law_own" (defArgs s_law_own) (defBody s_law_own) (defScope s_law_own) .none kV20 dc20 pm20 an20 cd20 ct20), sl20⟩) (c20 : PySem.W.codeIn K cd20 "_law_own" = true) (k20 : PySem.W.keepIn K (.ref f20) = true)
    (a21 : PySem.W.nsIn K mainGlobals "_law_bad_names" = some (some (.ref f21))) (l21 : K.lookup f21 = some ⟨oc21, od21, .func (PySem.W.fnOf "_law_bad_names" "_law_bad_names" (defArgs s_law_bad_names) (defBody s_law_bad_names) (defScope s_law_bad_names) .none kV21 dc21 pm21 an21 cd21 ct21), sl21⟩) (c21 : PySem.W.codeIn K cd21 "_law_bad_names" = true) (k21 : PySem.W.keepIn K (.ref f21) = true)
    (a22 : PySem.W.nsIn K mainGlobals "_law_bad_row" = some (some (.ref f22))) (l22 : K.lookup f22 = some ⟨oc22, od22, .func (PySem.W.fnOf "_law_bad_row" "_law_bad_row" (defArgs s_law_bad_row) (defBody s_law_bad_row) (defScope s_law_bad_row) .none kV22 dc22 pm22 an22 cd22 ct22), sl22⟩) (c22 : PySem.W.codeIn K cd22 "_law_bad_row" = true) (k22 : PySem.W.keepIn K (.ref f22) = true)
    (a23 : PySem.W.nsIn K mainGlobals "_law_faulty" = some (some (.ref f23))) (l23 : K.lookup f23 = some ⟨oc23, od23, .func (PySem.W.fnOf "_law_faulty" "_law_faulty" (defArgs s_law_faulty) (defBody s_law_faulty) (defScope s_law_faulty) .none kV23 dc23 pm23 an23 cd23 ct23), sl23⟩) (c23 : PySem.W.codeIn K cd23 "_law_faulty" = true) (k23 : PySem.W.keepIn K (.ref f23) = true)
    (a24 : PySem.W.nsIn K mainGlobals "_law_refused_so" = some (some (.ref f24))) (l24 : K.lookup f24 = some ⟨oc24, od24, .func (PySem.W.fnOf "_law_refused_so" "_law_refused_so" (defArgs s_law_refused_so) (defBody s_law_refused_so) (defScope s_law_refused_so) .none kV24 dc24 pm24 an24 cd24 ct24), sl24⟩) (c24 : PySem.W.codeIn K cd24 "_law_refused_so" = true) (k24 : PySem.W.keepIn K (.ref f24) = true)
    (i25 : PySem.W.findIn K (.ref cTable) "__init__" = some (some (.ref f25))) (if25 : PySem.W.isFn K (.ref f25) = true) (im25 : PySem.W.makesIn K cTable = true) (ik25 : PySem.W.keepIn K (.ref cTable) = true) (l25 : K.lookup f25 = some ⟨oc25, od25, .func (PySem.W.fnOf "__init__" "Table.__init__" (defArgs s_Table___init___Table) (defBody s_Table___init___Table) (defScope s_Table___init___Table) .none kV25 dc25 pm25 an25 cd25 ct25), sl25⟩) (c25 : PySem.W.codeIn K cd25 "Table.__init__" = true) (k25 : PySem.W.keepIn K (.ref f25) = true)
    (i26 : PySem.W.findIn K (.ref cFirst) "__init__" = some (some (.ref f26))) (if26 : PySem.W.isFn K (.ref f26) = true) (im26 : PySem.W.makesIn K cFirst = true) (ik26 : PySem.W.keepIn K (.ref cFirst) = true) (l26 : K.lookup f26 = some ⟨oc26, od26, .func (PySem.W.fnOf "__init__" "First.__init__" (defArgs s_First___init___First) (defBody s_First___init___First) (defScope s_First___init___First) .none kV26 dc26 pm26 an26 cd26 ct26), sl26⟩) (c26 : PySem.W.codeIn K cd26 "First.__init__" = true) (k26 : PySem.W.keepIn K (.ref f26) = true)
    (b_s27 : PySem.W.specialIn K (.ref cWay) "__getattribute__" = some (some (.builtin "type.__getattribute__"))) (b_r27 : PySem.W.readsIn K cWay (.type "type") = true) (b_a27 : PySem.W.findCls K (.ref cWay) (.type "type") "__init__" = some (.val (.ref f27))) (l27 : K.lookup f27 = some ⟨oc27, od27, .func (PySem.W.fnOf "__init__" "Way.__init__" (defArgs s_Way___init___First) (defBody s_Way___init___First) (defScope s_Way___init___First) .none kV27 dc27 pm27 an27 cd27 ct27), sl27⟩) (c27 : PySem.W.codeIn K cd27 "Way.__init__" = true) (k27 : PySem.W.keepIn K (.ref f27) = true)
    (i28 : PySem.W.findIn K (.ref cOnly) "__init__" = some (some (.ref f28))) (if28 : PySem.W.isFn K (.ref f28) = true) (im28 : PySem.W.makesIn K cOnly = true) (ik28 : PySem.W.keepIn K (.ref cOnly) = true) (l28 : K.lookup f28 = some ⟨oc28, od28, .func (PySem.W.fnOf "__init__" "Only.__init__" (defArgs s_Only___init___Only) (defBody s_Only___init___Only) (defScope s_Only___init___Only) .none kV28 dc28 pm28 an28 cd28 ct28), sl28⟩) (c28 : PySem.W.codeIn K cd28 "Only.__init__" = true) (k28 : PySem.W.keepIn K (.ref f28) = true)
    (b_s29 : PySem.W.specialIn K (.ref cWay) "__getattribute__" = some (some (.builtin "type.__getattribute__"))) (b_r29 : PySem.W.readsIn K cWay (.type "type") = true) (b_a29 : PySem.W.findCls K (.ref cWay) (.type "type") "__init__" = some (.val (.ref f29))) (l29 : K.lookup f29 = some ⟨oc29, od29, .func (PySem.W.fnOf "__init__" "Way.__init__" (defArgs s_Way___init___Only) (defBody s_Way___init___Only) (defScope s_Way___init___Only) .none kV29 dc29 pm29 an29 cd29 ct29), sl29⟩) (c29 : PySem.W.codeIn K cd29 "Way.__init__" = true) (k29 : PySem.W.keepIn K (.ref f29) = true)
    (i30 : PySem.W.findIn K (.ref cLike) "__init__" = some (some (.ref f30))) (if30 : PySem.W.isFn K (.ref f30) = true) (im30 : PySem.W.makesIn K cLike = true) (ik30 : PySem.W.keepIn K (.ref cLike) = true) (l30 : K.lookup f30 = some ⟨oc30, od30, .func (PySem.W.fnOf "__init__" "Like.__init__" (defArgs s_Like___init___Like) (defBody s_Like___init___Like) (defScope s_Like___init___Like) .none kV30 dc30 pm30 an30 cd30 ct30), sl30⟩) (c30 : PySem.W.codeIn K cd30 "Like.__init__" = true) (k30 : PySem.W.keepIn K (.ref f30) = true)
    (b_s31 : PySem.W.specialIn K (.ref cWay) "__getattribute__" = some (some (.builtin "type.__getattribute__"))) (b_r31 : PySem.W.readsIn K cWay (.type "type") = true) (b_a31 : PySem.W.findCls K (.ref cWay) (.type "type") "__init__" = some (.val (.ref f31))) (l31 : K.lookup f31 = some ⟨oc31, od31, .func (PySem.W.fnOf "__init__" "Way.__init__" (defArgs s_Way___init___Like) (defBody s_Way___init___Like) (defScope s_Way___init___Like) .none kV31 dc31 pm31 an31 cd31 ct31), sl31⟩) (c31 : PySem.W.codeIn K cd31 "Way.__init__" = true) (k31 : PySem.W.keepIn K (.ref f31) = true)
    (i32 : PySem.W.findIn K (.ref cLow) "__init__" = some (some (.ref f32))) (if32 : PySem.W.isFn K (.ref f32) = true) (im32 : PySem.W.makesIn K cLow = true) (ik32 : PySem.W.keepIn K (.ref cLow) = true) (l32 : K.lookup f32 = some ⟨oc32, od32, .func (PySem.W.fnOf "__init__" "Low.__init__" (defArgs s_Low___init___Low) (defBody s_Low___init___Low) (defScope s_Low___init___Low) .none kV32 dc32 pm32 an32 cd32 ct32), sl32⟩) (c32 : PySem.W.codeIn K cd32 "Low.__init__" = true) (k32 : PySem.W.keepIn K (.ref f32) = true)
    (b_s33 : PySem.W.specialIn K (.ref cWay) "__getattribute__" = some (some (.builtin "type.__getattribute__"))) (b_r33 : PySem.W.readsIn K cWay (.type "type") = true) (b_a33 : PySem.W.findCls K (.ref cWay) (.type "type") "__init__" = some (.val (.ref f33))) (l33 : K.lookup f33 = some ⟨oc33, od33, .func (PySem.W.fnOf "__init__" "Way.__init__" (defArgs s_Way___init___Low) (defBody s_Way___init___Low) (defScope s_Way___init___Low) .none kV33 dc33 pm33 an33 cd33 ct33), sl33⟩) (c33 : PySem.W.codeIn K cd33 "Way.__init__" = true) (k33 : PySem.W.keepIn K (.ref f33) = true)
    (i34 : PySem.W.findIn K (.ref cHigh) "__init__" = some (some (.ref f34))) (if34 : PySem.W.isFn K (.ref f34) = true) (im34 : PySem.W.makesIn K cHigh = true) (ik34 : PySem.W.keepIn K (.ref cHigh) = true) (l34 : K.lookup f34 = some ⟨oc34, od34, .func (PySem.W.fnOf "__init__" "High.__init__" (defArgs s_High___init___High) (defBody s_High___init___High) (defScope s_High___init___High) .none kV34 dc34 pm34 an34 cd34 ct34), sl34⟩) (c34 : PySem.W.codeIn K cd34 "High.__init__" = true) (k34 : PySem.W.keepIn K (.ref f34) = true)
    (b_s35 : PySem.W.specialIn K (.ref cWay) "__getattribute__" = some (some (.builtin "type.__getattribute__"))) (b_r35 : PySem.W.readsIn K cWay (.type "type") = true) (b_a35 : PySem.W.findCls K (.ref cWay) (.type "type") "__init__" = some (.val (.ref f35))) (l35 : K.lookup f35 = some ⟨oc35, od35, .func (PySem.W.fnOf "__init__" "Way.__init__" (defArgs s_Way___init___High) (defBody s_Way___init___High) (defScope s_Way___init___High) .none kV35 dc35 pm35 an35 cd35 ct35), sl35⟩) (c35 : PySem.W.codeIn K cd35 "Way.__init__" = true) (k35 : PySem.W.keepIn K (.ref f35) = true)
    (i36 : PySem.W.findIn K (.ref cSum) "__init__" = some (some (.ref f36))) (if36 : PySem.W.isFn K (.ref f36) = true) (im36 : PySem.W.makesIn K cSum = true) (ik36 : PySem.W.keepIn K (.ref cSum) = true) (l36 : K.lookup f36 = some ⟨oc36, od36, .func (PySem.W.fnOf "__init__" "Sum.__init__" (defArgs s_Sum___init___Sum) (defBody s_Sum___init___Sum) (defScope s_Sum___init___Sum) .none kV36 dc36 pm36 an36 cd36 ct36), sl36⟩) (c36 : PySem.W.codeIn K cd36 "Sum.__init__" = true) (k36 : PySem.W.keepIn K (.ref f36) = true)
    (b_s37 : PySem.W.specialIn K (.ref cWay) "__getattribute__" = some (some (.builtin "type.__getattribute__"))) (b_r37 : PySem.W.readsIn K cWay (.type "type") = true) (b_a37 : PySem.W.findCls K (.ref cWay) (.type "type") "__init__" = some (.val (.ref f37))) (l37 : K.lookup f37 = some ⟨oc37, od37, .func (PySem.W.fnOf "__init__" "Way.__init__" (defArgs s_Way___init___Sum) (defBody s_Way___init___Sum) (defScope s_Way___init___Sum) .none kV37 dc37 pm37 an37 cd37 ct37), sl37⟩) (c37 : PySem.W.codeIn K cd37 "Way.__init__" = true) (k37 : PySem.W.keepIn K (.ref f37) = true)
    (m38 : PySem.W.findIn K (.ref cNumbers) "has_code" = some (some (.ref f38))) (mf38 : PySem.W.isFn K (.ref f38) = true) (l38 : K.lookup f38 = some ⟨oc38, od38, .func (PySem.W.fnOf "has_code" "Domain.has_code" (defArgs s_Domain_has_code_Numbers) (defBody s_Domain_has_code_Numbers) (defScope s_Domain_has_code_Numbers) .none kV38 dc38 pm38 an38 cd38 ct38), sl38⟩) (c38 : PySem.W.codeIn K cd38 "Domain.has_code" = true) (k38 : PySem.W.keepIn K (.ref f38) = true)
    (m39 : PySem.W.findIn K (.ref cWords) "has_code" = some (some (.ref f39))) (mf39 : PySem.W.isFn K (.ref f39) = true) (l39 : K.lookup f39 = some ⟨oc39, od39, .func (PySem.W.fnOf "has_code" "Domain.has_code" (defArgs s_Domain_has_code_Words) (defBody s_Domain_has_code_Words) (defScope s_Domain_has_code_Words) .none kV39 dc39 pm39 an39 cd39 ct39), sl39⟩) (c39 : PySem.W.codeIn K cd39 "Domain.has_code" = true) (k39 : PySem.W.keepIn K (.ref f39) = true)
    (i40 : PySem.W.findIn K (.ref cNumbers) "__init__" = some (some (.ref f40))) (if40 : PySem.W.isFn K (.ref f40) = true) (im40 : PySem.W.makesIn K cNumbers = true) (ik40 : PySem.W.keepIn K (.ref cNumbers) = true) (l40 : K.lookup f40 = some ⟨oc40, od40, .func (PySem.W.fnOf "__init__" "Numbers.__init__" (defArgs s_Numbers___init___Numbers) (defBody s_Numbers___init___Numbers) (defScope s_Numbers___init___Numbers) .none kV40 dc40 pm40 an40 cd40 ct40), sl40⟩) (c40 : PySem.W.codeIn K cd40 "Numbers.__init__" = true) (k40 : PySem.W.keepIn K (.ref f40) = true)
    (b_s41 : PySem.W.specialIn K (.ref cDomain) "__getattribute__" = some (some (.builtin "type.__getattribute__"))) (b_r41 : PySem.W.readsIn K cDomain (.type "type") = true) (b_a41 : PySem.W.findCls K (.ref cDomain) (.type "type") "__init__" = some (.val (.ref f41))) (l41 : K.lookup f41 = some ⟨oc41, od41, .func (PySem.W.fnOf "__init__" "Domain.__init__" (defArgs s_Domain___init___Numbers) (defBody s_Domain___init___Numbers) (defScope s_Domain___init___Numbers) .none kV41 dc41 pm41 an41 cd41 ct41), sl41⟩) (c41 : PySem.W.codeIn K cd41 "Domain.__init__" = true) (k41 : PySem.W.keepIn K (.ref f41) = true)
    (i42 : PySem.W.findIn K (.ref cWords) "__init__" = some (some (.ref f42))) (if42 : PySem.W.isFn K (.ref f42) = true) (im42 : PySem.W.makesIn K cWords = true) (ik42 : PySem.W.keepIn K (.ref cWords) = true) (l42 : K.lookup f42 = some ⟨oc42, od42, .func (PySem.W.fnOf "__init__" "Words.__init__" (defArgs s_Words___init___Words) (defBody s_Words___init___Words) (defScope s_Words___init___Words) .none kV42 dc42 pm42 an42 cd42 ct42), sl42⟩) (c42 : PySem.W.codeIn K cd42 "Words.__init__" = true) (k42 : PySem.W.keepIn K (.ref f42) = true)
    (b_s43 : PySem.W.specialIn K (.ref cDomain) "__getattribute__" = some (some (.builtin "type.__getattribute__"))) (b_r43 : PySem.W.readsIn K cDomain (.type "type") = true) (b_a43 : PySem.W.findCls K (.ref cDomain) (.type "type") "__init__" = some (.val (.ref f43))) (l43 : K.lookup f43 = some ⟨oc43, od43, .func (PySem.W.fnOf "__init__" "Domain.__init__" (defArgs s_Domain___init___Words) (defBody s_Domain___init___Words) (defScope s_Domain___init___Words) .none kV43 dc43 pm43 an43 cd43 ct43), sl43⟩) (c43 : PySem.W.codeIn K cd43 "Domain.__init__" = true) (k43 : PySem.W.keepIn K (.ref f43) = true)
    (a44 : PySem.W.nsIn K mainGlobals "law" = some (some (.ref f44))) (l44 : K.lookup f44 = some ⟨oc44, od44, .func (PySem.W.fnOf "law" "law" (defArgs s_law) (defBody s_law) (defScope s_law) .none kV44 dc44 pm44 an44 cd44 ct44), sl44⟩) (c44 : PySem.W.codeIn K cd44 "law" = true) (k44 : PySem.W.keepIn K (.ref f44) = true)
    (z0 : PySem.W.nsIn K mainGlobals "len" = some none)
    (z1 : PySem.W.nsIn K mainGlobals "isinstance" = some none)
    (z2 : PySem.W.nsIn K mainGlobals "int" = some none)
    (z3 : PySem.W.nsIn K mainGlobals "bool" = some none)
    (z4 : PySem.W.nsIn K mainGlobals "set" = some none)
    (z5 : PySem.W.nsIn K mainGlobals "zip" = some none)
    (z6 : PySem.W.nsIn K mainGlobals "list" = some none)
    (z7 : PySem.W.nsIn K mainGlobals "range" = some none)
    (z8 : PySem.W.nsIn K mainGlobals "min" = some none)
    (z9 : PySem.W.nsIn K mainGlobals "max" = some none)
    (z10 : PySem.W.nsIn K mainGlobals "enumerate" = some none)
    (z11 : PySem.W.nsIn K mainGlobals "ValueError" = some none)
    {w0 : Value} (y0 : PySem.W.nsIn K mainGlobals "MOST_SIGNS" = some (some w0)) (x0 : RelV (V.int 12) w0)
    {w1 : Value} (y1 : PySem.W.nsIn K mainGlobals "SMALL_LETTERS" = some (some w1)) (x1 : RelV (V.str "abcdefghijklmnopqrstuvwxyz") w1)
    {w2 : Value} (y2 : PySem.W.nsIn K mainGlobals "MOST_ROWS" = some (some w2)) (x2 : RelV (V.int 200) w2)
    {w3 : Value} (y3 : PySem.W.nsIn K mainGlobals "MOST_COLUMNS" = some (some w3)) (x3 : RelV (V.int 4) w3)
    {w4 : Value} (y4 : PySem.W.nsIn K mainGlobals "MOST_WORDS" = some (some w4)) (x4 : RelV (V.int 40) w4)
    (x_BadName : PySem.W.excIn K cBadName [.type "ValueError", .type "Exception", .type "BaseException", .type "object"] "ValueError.__new__" = true)
    (l0_BadName : PySem.W.findIn K (.ref cBadName) "__getattribute__" = some (some (.builtin "BaseException.__getattribute__")))
    (l1_BadName : PySem.W.findIn K (.ref cBadName) "__getattr__" = some none)
    (l2_BadName : PySem.W.findIn K (.ref cBadName) "__class__" = some (some (.builtin "object.__class__")))
    (l3_BadName : PySem.W.specialIn K (.builtin "object.__class__") "__get__" = some (some (.builtin "getset_descriptor.__get__")))
    (l4_BadName : PySem.W.takesIn K (.builtin "object.__class__") = some true)
    (l5_BadName : PySem.W.mroIn K cBadName (.type "object") = some true)
    (l6_BadName : PySem.W.mroIn K cBadName (.type "BaseException") = some true)
    (l7_BadName : PySem.W.kitCls K (.ref cBadName) (.ref cBadName) = some true)
    (x_TooMany : PySem.W.excIn K cTooMany [.type "ValueError", .type "Exception", .type "BaseException", .type "object"] "ValueError.__new__" = true)
    (l0_TooMany : PySem.W.findIn K (.ref cTooMany) "__getattribute__" = some (some (.builtin "BaseException.__getattribute__")))
    (l1_TooMany : PySem.W.findIn K (.ref cTooMany) "__getattr__" = some none)
    (l2_TooMany : PySem.W.findIn K (.ref cTooMany) "__class__" = some (some (.builtin "object.__class__")))
    (l3_TooMany : PySem.W.specialIn K (.builtin "object.__class__") "__get__" = some (some (.builtin "getset_descriptor.__get__")))
    (l4_TooMany : PySem.W.takesIn K (.builtin "object.__class__") = some true)
    (l5_TooMany : PySem.W.mroIn K cTooMany (.type "object") = some true)
    (l6_TooMany : PySem.W.mroIn K cTooMany (.type "BaseException") = some true)
    (l7_TooMany : PySem.W.kitCls K (.ref cTooMany) (.ref cTooMany) = some true)
    (x_BadWay : PySem.W.excIn K cBadWay [.type "ValueError", .type "Exception", .type "BaseException", .type "object"] "ValueError.__new__" = true)
    (l0_BadWay : PySem.W.findIn K (.ref cBadWay) "__getattribute__" = some (some (.builtin "BaseException.__getattribute__")))
    (l1_BadWay : PySem.W.findIn K (.ref cBadWay) "__getattr__" = some none)
    (l2_BadWay : PySem.W.findIn K (.ref cBadWay) "__class__" = some (some (.builtin "object.__class__")))
    (l3_BadWay : PySem.W.specialIn K (.builtin "object.__class__") "__get__" = some (some (.builtin "getset_descriptor.__get__")))
    (l4_BadWay : PySem.W.takesIn K (.builtin "object.__class__") = some true)
    (l5_BadWay : PySem.W.mroIn K cBadWay (.type "object") = some true)
    (l6_BadWay : PySem.W.mroIn K cBadWay (.type "BaseException") = some true)
    (l7_BadWay : PySem.W.kitCls K (.ref cBadWay) (.ref cBadWay) = some true)
    (x_BadRow : PySem.W.excIn K cBadRow [.type "ValueError", .type "Exception", .type "BaseException", .type "object"] "ValueError.__new__" = true)
    (l0_BadRow : PySem.W.findIn K (.ref cBadRow) "__getattribute__" = some (some (.builtin "BaseException.__getattribute__")))
    (l1_BadRow : PySem.W.findIn K (.ref cBadRow) "__getattr__" = some none)
    (l2_BadRow : PySem.W.findIn K (.ref cBadRow) "__class__" = some (some (.builtin "object.__class__")))
    (l3_BadRow : PySem.W.specialIn K (.builtin "object.__class__") "__get__" = some (some (.builtin "getset_descriptor.__get__")))
    (l4_BadRow : PySem.W.takesIn K (.builtin "object.__class__") = some true)
    (l5_BadRow : PySem.W.mroIn K cBadRow (.type "object") = some true)
    (l6_BadRow : PySem.W.mroIn K cBadRow (.type "BaseException") = some true)
    (l7_BadRow : PySem.W.kitCls K (.ref cBadRow) (.ref cBadRow) = some true)
    (pg_First : PySem.W.plainGet K cFirst Str.empty = true) (hd_First : PySem.W.hasDictIn K cFirst = true) (po_First : PySem.W.plainOver K cFirst = true) (sa_First : PySem.W.findIn K (.ref cFirst) "__setattr__" = some (some (.builtin "object.__setattr__")))
    (pg_Only : PySem.W.plainGet K cOnly Str.empty = true) (hd_Only : PySem.W.hasDictIn K cOnly = true) (po_Only : PySem.W.plainOver K cOnly = true) (sa_Only : PySem.W.findIn K (.ref cOnly) "__setattr__" = some (some (.builtin "object.__setattr__")))
    (pg_Like : PySem.W.plainGet K cLike Str.empty = true) (hd_Like : PySem.W.hasDictIn K cLike = true) (po_Like : PySem.W.plainOver K cLike = true) (sa_Like : PySem.W.findIn K (.ref cLike) "__setattr__" = some (some (.builtin "object.__setattr__")))
    (pg_Low : PySem.W.plainGet K cLow Str.empty = true) (hd_Low : PySem.W.hasDictIn K cLow = true) (po_Low : PySem.W.plainOver K cLow = true) (sa_Low : PySem.W.findIn K (.ref cLow) "__setattr__" = some (some (.builtin "object.__setattr__")))
    (pg_High : PySem.W.plainGet K cHigh Str.empty = true) (hd_High : PySem.W.hasDictIn K cHigh = true) (po_High : PySem.W.plainOver K cHigh = true) (sa_High : PySem.W.findIn K (.ref cHigh) "__setattr__" = some (some (.builtin "object.__setattr__")))
    (pg_Sum : PySem.W.plainGet K cSum Str.empty = true) (hd_Sum : PySem.W.hasDictIn K cSum = true) (po_Sum : PySem.W.plainOver K cSum = true) (sa_Sum : PySem.W.findIn K (.ref cSum) "__setattr__" = some (some (.builtin "object.__setattr__")))
    (pg_Numbers : PySem.W.plainGet K cNumbers Str.empty = true) (hd_Numbers : PySem.W.hasDictIn K cNumbers = true) (po_Numbers : PySem.W.plainOver K cNumbers = true) (sa_Numbers : PySem.W.findIn K (.ref cNumbers) "__setattr__" = some (some (.builtin "object.__setattr__")))
    (pg_Words : PySem.W.plainGet K cWords Str.empty = true) (hd_Words : PySem.W.hasDictIn K cWords = true) (po_Words : PySem.W.plainOver K cWords = true) (sa_Words : PySem.W.findIn K (.ref cWords) "__setattr__" = some (some (.builtin "object.__setattr__")))
    (pg_Table : PySem.W.plainGet K cTable Str.empty = true) (hd_Table : PySem.W.hasDictIn K cTable = true) (po_Table : PySem.W.plainOver K cTable = true) (sa_Table : PySem.W.findIn K (.ref cTable) "__setattr__" = some (some (.builtin "object.__setattr__")))
    (ta_First : PySem.W.findIn K (.ref cFirst) "__class__" = some (some (.builtin "object.__class__"))) (tn_First : PySem.W.specialIn K (.builtin "object.__class__") "__get__" = some (some (.builtin "getset_descriptor.__get__"))) (tt_First : PySem.W.takesIn K (.builtin "object.__class__") = some true) (tm_First : PySem.W.mroIn K cFirst (.type "object") = some true)
    (ta_Only : PySem.W.findIn K (.ref cOnly) "__class__" = some (some (.builtin "object.__class__"))) (tn_Only : PySem.W.specialIn K (.builtin "object.__class__") "__get__" = some (some (.builtin "getset_descriptor.__get__"))) (tt_Only : PySem.W.takesIn K (.builtin "object.__class__") = some true) (tm_Only : PySem.W.mroIn K cOnly (.type "object") = some true)
    (ta_Like : PySem.W.findIn K (.ref cLike) "__class__" = some (some (.builtin "object.__class__"))) (tn_Like : PySem.W.specialIn K (.builtin "object.__class__") "__get__" = some (some (.builtin "getset_descriptor.__get__"))) (tt_Like : PySem.W.takesIn K (.builtin "object.__class__") = some true) (tm_Like : PySem.W.mroIn K cLike (.type "object") = some true)
    (ta_Low : PySem.W.findIn K (.ref cLow) "__class__" = some (some (.builtin "object.__class__"))) (tn_Low : PySem.W.specialIn K (.builtin "object.__class__") "__get__" = some (some (.builtin "getset_descriptor.__get__"))) (tt_Low : PySem.W.takesIn K (.builtin "object.__class__") = some true) (tm_Low : PySem.W.mroIn K cLow (.type "object") = some true)
    (ta_High : PySem.W.findIn K (.ref cHigh) "__class__" = some (some (.builtin "object.__class__"))) (tn_High : PySem.W.specialIn K (.builtin "object.__class__") "__get__" = some (some (.builtin "getset_descriptor.__get__"))) (tt_High : PySem.W.takesIn K (.builtin "object.__class__") = some true) (tm_High : PySem.W.mroIn K cHigh (.type "object") = some true)
    (ta_Sum : PySem.W.findIn K (.ref cSum) "__class__" = some (some (.builtin "object.__class__"))) (tn_Sum : PySem.W.specialIn K (.builtin "object.__class__") "__get__" = some (some (.builtin "getset_descriptor.__get__"))) (tt_Sum : PySem.W.takesIn K (.builtin "object.__class__") = some true) (tm_Sum : PySem.W.mroIn K cSum (.type "object") = some true)
    (ta_Numbers : PySem.W.findIn K (.ref cNumbers) "__class__" = some (some (.builtin "object.__class__"))) (tn_Numbers : PySem.W.specialIn K (.builtin "object.__class__") "__get__" = some (some (.builtin "getset_descriptor.__get__"))) (tt_Numbers : PySem.W.takesIn K (.builtin "object.__class__") = some true) (tm_Numbers : PySem.W.mroIn K cNumbers (.type "object") = some true)
    (ta_Words : PySem.W.findIn K (.ref cWords) "__class__" = some (some (.builtin "object.__class__"))) (tn_Words : PySem.W.specialIn K (.builtin "object.__class__") "__get__" = some (some (.builtin "getset_descriptor.__get__"))) (tt_Words : PySem.W.takesIn K (.builtin "object.__class__") = some true) (tm_Words : PySem.W.mroIn K cWords (.type "object") = some true)
    (ta_Table : PySem.W.findIn K (.ref cTable) "__class__" = some (some (.builtin "object.__class__"))) (tn_Table : PySem.W.specialIn K (.builtin "object.__class__") "__get__" = some (some (.builtin "getset_descriptor.__get__"))) (tt_Table : PySem.W.takesIn K (.builtin "object.__class__") = some true) (tm_Table : PySem.W.mroIn K cTable (.type "object") = some true)
    (na_First_called : PySem.W.findIn K (.ref cFirst) "called" = some none)
    (na_Only_called : PySem.W.findIn K (.ref cOnly) "called" = some none)
    (na_Like_called : PySem.W.findIn K (.ref cLike) "called" = some none)
    (na_Low_called : PySem.W.findIn K (.ref cLow) "called" = some none)
    (na_High_called : PySem.W.findIn K (.ref cHigh) "called" = some none)
    (na_Sum_called : PySem.W.findIn K (.ref cSum) "called" = some none)
    (na_Numbers_low : PySem.W.findIn K (.ref cNumbers) "low" = some none)
    (na_Numbers_high : PySem.W.findIn K (.ref cNumbers) "high" = some none)
    (na_Words_low : PySem.W.findIn K (.ref cWords) "low" = some none)
    (na_Words_high : PySem.W.findIn K (.ref cWords) "high" = some none)
    (na_Words_words : PySem.W.findIn K (.ref cWords) "words" = some none)
    (na_Table_name : PySem.W.findIn K (.ref cTable) "name" = some none)
    (na_Table_names : PySem.W.findIn K (.ref cTable) "names" = some none)
    (na_Table_domains : PySem.W.findIn K (.ref cTable) "domains" = some none)
    (na_Table_outcome : PySem.W.findIn K (.ref cTable) "outcome" = some none)
    (na_Table_way : PySem.W.findIn K (.ref cTable) "way" = some none)
    (na_Table_rows : PySem.W.findIn K (.ref cTable) "rows" = some none)
    (f_none : PySem.W.kitOne K (.type "NoneType") (.ref cTable) = some false)
    (f_nw : PySem.W.kitOne K (.ref cNumbers) (.ref cWords) = some false)
    (f_ww : PySem.W.kitOne K (.ref cWords) (.ref cWords) = some true)
    (f_tt : PySem.W.kitOne K (.ref cTable) (.ref cTable) = some true)
    (e_BadName : PySem.W.exmOne K (.ref cBadName) (.ref cTableError) = some true)
    (v_BadName : PySem.W.kitOne K (.ref cBadName) (.type "ValueError") = some true)
    (g_BadName_BadName : PySem.W.kitOne K (.ref cBadName) (.ref cBadName) = some true)
    (g_BadName_TooMany : PySem.W.kitOne K (.ref cBadName) (.ref cTooMany) = some false)
    (g_BadName_BadWay : PySem.W.kitOne K (.ref cBadName) (.ref cBadWay) = some false)
    (g_BadName_BadRow : PySem.W.kitOne K (.ref cBadName) (.ref cBadRow) = some false)
    (e_TooMany : PySem.W.exmOne K (.ref cTooMany) (.ref cTableError) = some true)
    (v_TooMany : PySem.W.kitOne K (.ref cTooMany) (.type "ValueError") = some true)
    (g_TooMany_BadName : PySem.W.kitOne K (.ref cTooMany) (.ref cBadName) = some false)
    (g_TooMany_TooMany : PySem.W.kitOne K (.ref cTooMany) (.ref cTooMany) = some true)
    (g_TooMany_BadWay : PySem.W.kitOne K (.ref cTooMany) (.ref cBadWay) = some false)
    (g_TooMany_BadRow : PySem.W.kitOne K (.ref cTooMany) (.ref cBadRow) = some false)
    (e_BadWay : PySem.W.exmOne K (.ref cBadWay) (.ref cTableError) = some true)
    (v_BadWay : PySem.W.kitOne K (.ref cBadWay) (.type "ValueError") = some true)
    (g_BadWay_BadName : PySem.W.kitOne K (.ref cBadWay) (.ref cBadName) = some false)
    (g_BadWay_TooMany : PySem.W.kitOne K (.ref cBadWay) (.ref cTooMany) = some false)
    (g_BadWay_BadWay : PySem.W.kitOne K (.ref cBadWay) (.ref cBadWay) = some true)
    (g_BadWay_BadRow : PySem.W.kitOne K (.ref cBadWay) (.ref cBadRow) = some false)
    (e_BadRow : PySem.W.exmOne K (.ref cBadRow) (.ref cTableError) = some true)
    (v_BadRow : PySem.W.kitOne K (.ref cBadRow) (.type "ValueError") = some true)
    (g_BadRow_BadName : PySem.W.kitOne K (.ref cBadRow) (.ref cBadName) = some false)
    (g_BadRow_TooMany : PySem.W.kitOne K (.ref cBadRow) (.ref cTooMany) = some false)
    (g_BadRow_BadWay : PySem.W.kitOne K (.ref cBadRow) (.ref cBadWay) = some false)
    (g_BadRow_BadRow : PySem.W.kitOne K (.ref cBadRow) (.ref cBadRow) = some true)
    : ∃ fd : FuncData, (∀ (s : Shared) (v : Value), BindsTo s fd ⟨[v], []⟩ [("script", v)]) ∧ ∀ base : Heap, K.In base → base.Ns mainGlobals mg → FnOk l.prog w K mg base CX0 10 fa fd ["script"] (sp_law K) := by
  have e := hfa.symm.trans (PySem.W.mg_of X G a44)
  cases e
  have F0 := fun_mk (st := s_all_among) l0 c0 k0
  have b0 := F0.binds (ps := ["text", "signs"]) fun _ _ _ _ _ _ us hl => match us, hl with | [_, _], _ => rfl
  have F1 := fun_mk (st := s_is_word) l1 c1 k1
  have b1 := F1.binds (ps := ["text"]) fun _ _ _ _ _ _ us hl => match us, hl with | [_], _ => rfl
  have F2 := fun_mk (st := s_is_whole) l2 c2 k2
  have b2 := F2.binds (ps := ["value"]) fun _ _ _ _ _ _ us hl => match us, hl with | [_], _ => rfl
  have F3 := fun_mk (st := s_way_by) l3 c3 k3
  have b3 := F3.binds (ps := ["name"]) fun _ _ _ _ _ _ us hl => match us, hl with | [_], _ => rfl
  have F4 := fun_mk (st := s_refuse_names) l4 c4 k4
  have b4 := F4.binds (ps := ["names"]) fun _ _ _ _ _ _ us hl => match us, hl with | [_], _ => rfl
  have F5 := fun_mk (st := s_refuse_counts) l5 c5 k5
  have b5 := F5.binds (ps := ["names", "rows"]) fun _ _ _ _ _ _ us hl => match us, hl with | [_, _], _ => rfl
  have F6 := fun_mk (st := s_refuse_way) l6 c6 k6
  have b6 := F6.binds (ps := ["way", "outcome"]) fun _ _ _ _ _ _ us hl => match us, hl with | [_, _], _ => rfl
  have F7 := fun_mk (st := s_refuse_row) l7 c7 k7
  have b7 := F7.binds (ps := ["domains", "outcome", "cells", "code"]) fun _ _ _ _ _ _ us hl => match us, hl with | [_, _, _, _], _ => rfl
  have F8 := fun_mk (st := s_own_row) l8 c8 k8
  have b8 := F8.binds (ps := ["cells", "code"]) fun _ _ _ _ _ _ us hl => match us, hl with | [_, _], _ => rfl
  have F9 := fun_mk (st := s_with_rows) l9 c9 k9
  have b9 := F9.binds (ps := ["table", "rows"]) fun _ _ _ _ _ _ us hl => match us, hl with | [_, _], _ => rfl
  have F10 := fun_mk (st := s_law_cell_at) l10 c10 k10
  have b10 := F10.binds (ps := ["script", "k"]) fun _ _ _ _ _ _ us hl => match us, hl with | [_, _], _ => rfl
  have F11 := fun_mk (st := s_law_mixed) l11 c11 k11
  have b11 := F11.binds (ps := ["cell", "k"]) fun _ _ _ _ _ _ us hl => match us, hl with | [_, _], _ => rfl
  have F12 := fun_mk (st := s_law_word) l12 c12 k12
  have b12 := F12.binds (ps := ["cell", "k"]) fun _ _ _ _ _ _ us hl => match us, hl with | [_, _], _ => rfl
  have F13 := fun_mk (st := s_law_range) l13 c13 k13
  have b13 := F13.binds (ps := ["cell"]) fun _ _ _ _ _ _ us hl => match us, hl with | [_], _ => rfl
  have F14 := fun_mk (st := s_law_domain) l14 c14 k14
  have b14 := F14.binds (ps := ["told"]) fun _ _ _ _ _ _ us hl => match us, hl with | [_], _ => rfl
  have F15 := fun_mk (st := s_law_spans) l15 c15 k15
  have b15 := F15.binds (ps := ["m", "low", "high"]) fun _ _ _ _ _ _ us hl => match us, hl with | [_, _, _], _ => rfl
  have F16 := fun_mk (st := s_law_row) l16 c16 k16
  have b16 := F16.binds (ps := ["cell", "columns", "low", "high", "calm"]) fun _ _ _ _ _ _ us hl => match us, hl with | [_, _, _, _, _], _ => rfl
  have F17 := fun_mk (st := s_law_outcome_of) l17 c17 k17
  have b17 := F17.binds (ps := ["made", "kinds"]) fun _ _ _ _ _ _ us hl => match us, hl with | [_, _], _ => rfl
  have F18 := fun_mk (st := s_law_made) l18 c18 k18
  have b18 := F18.binds (ps := ["name", "names", "domains", "outcome", "way", "rows"]) fun _ _ _ _ _ _ us hl => match us, hl with | [_, _, _, _, _, _], _ => rfl
  have F19 := fun_mk (st := s_law_other_rows) l19 c19 k19
  have b19 := F19.binds (ps := ["table", "rows"]) fun _ _ _ _ _ _ us hl => match us, hl with | [_, _], _ => rfl
  have F20 := fun_mk (st := s_law_own) l20 c20 k20
  have b20 := F20.binds (ps := ["row"]) fun _ _ _ _ _ _ us hl => match us, hl with | [_], _ => rfl
  have F21 := fun_mk (st := s_law_bad_names) l21 c21 k21
  have b21 := F21.binds (ps := ["name", "names", "turn"]) fun _ _ _ _ _ _ us hl => match us, hl with | [_, _, _], _ => rfl
  have F22 := fun_mk (st := s_law_bad_row) l22 c22 k22
  have b22 := F22.binds (ps := ["row", "columns", "out", "turn"]) fun _ _ _ _ _ _ us hl => match us, hl with | [_, _, _, _], _ => rfl
  have F23 := fun_mk (st := s_law_faulty) l23 c23 k23
  have b23 := F23.binds (ps := ["columns", "rows", "out", "faults", "turn", "head"]) fun _ _ _ _ _ _ us hl => match us, hl with | [_, _, _, _, _, _], _ => rfl
  have F24 := fun_mk (st := s_law_refused_so) l24 c24 k24
  have b24 := F24.binds (ps := ["parts", "outcome"]) fun _ _ _ _ _ _ us hl => match us, hl with | [_, _], _ => rfl
  have F25 := fun_mk (st := s_Table___init___Table) l25 c25 k25
  have b25 := F25.binds (ps := ["self", "name", "names", "domains", "outcome", "way", "rows"]) fun _ _ _ _ _ _ us hl => match us, hl with | [_, _, _, _, _, _, _], _ => rfl
  have F26 := fun_mk (st := s_First___init___First) l26 c26 k26
  have b26 := F26.binds (ps := ["self"]) fun _ _ _ _ _ _ us hl => match us, hl with | [_], _ => rfl
  have F27 := fun_mk (st := s_Way___init___First) l27 c27 k27
  have b27 := F27.binds (ps := ["self", "called"]) fun _ _ _ _ _ _ us hl => match us, hl with | [_, _], _ => rfl
  have F28 := fun_mk (st := s_Only___init___Only) l28 c28 k28
  have b28 := F28.binds (ps := ["self"]) fun _ _ _ _ _ _ us hl => match us, hl with | [_], _ => rfl
  have F29 := fun_mk (st := s_Way___init___Only) l29 c29 k29
  have b29 := F29.binds (ps := ["self", "called"]) fun _ _ _ _ _ _ us hl => match us, hl with | [_, _], _ => rfl
  have F30 := fun_mk (st := s_Like___init___Like) l30 c30 k30
  have b30 := F30.binds (ps := ["self"]) fun _ _ _ _ _ _ us hl => match us, hl with | [_], _ => rfl
  have F31 := fun_mk (st := s_Way___init___Like) l31 c31 k31
  have b31 := F31.binds (ps := ["self", "called"]) fun _ _ _ _ _ _ us hl => match us, hl with | [_, _], _ => rfl
  have F32 := fun_mk (st := s_Low___init___Low) l32 c32 k32
  have b32 := F32.binds (ps := ["self"]) fun _ _ _ _ _ _ us hl => match us, hl with | [_], _ => rfl
  have F33 := fun_mk (st := s_Way___init___Low) l33 c33 k33
  have b33 := F33.binds (ps := ["self", "called"]) fun _ _ _ _ _ _ us hl => match us, hl with | [_, _], _ => rfl
  have F34 := fun_mk (st := s_High___init___High) l34 c34 k34
  have b34 := F34.binds (ps := ["self"]) fun _ _ _ _ _ _ us hl => match us, hl with | [_], _ => rfl
  have F35 := fun_mk (st := s_Way___init___High) l35 c35 k35
  have b35 := F35.binds (ps := ["self", "called"]) fun _ _ _ _ _ _ us hl => match us, hl with | [_, _], _ => rfl
  have F36 := fun_mk (st := s_Sum___init___Sum) l36 c36 k36
  have b36 := F36.binds (ps := ["self"]) fun _ _ _ _ _ _ us hl => match us, hl with | [_], _ => rfl
  have F37 := fun_mk (st := s_Way___init___Sum) l37 c37 k37
  have b37 := F37.binds (ps := ["self", "called"]) fun _ _ _ _ _ _ us hl => match us, hl with | [_, _], _ => rfl
  have F38 := fun_mk (st := s_Domain_has_code_Numbers) l38 c38 k38
  have b38 := F38.binds (ps := ["self", "value"]) fun _ _ _ _ _ _ us hl => match us, hl with | [_, _], _ => rfl
  have F39 := fun_mk (st := s_Domain_has_code_Words) l39 c39 k39
  have b39 := F39.binds (ps := ["self", "value"]) fun _ _ _ _ _ _ us hl => match us, hl with | [_, _], _ => rfl
  have F40 := fun_mk (st := s_Numbers___init___Numbers) l40 c40 k40
  have b40 := F40.binds (ps := ["self", "low", "high"]) fun _ _ _ _ _ _ us hl => match us, hl with | [_, _, _], _ => rfl
  have F41 := fun_mk (st := s_Domain___init___Numbers) l41 c41 k41
  have b41 := F41.binds (ps := ["self", "low", "high"]) fun _ _ _ _ _ _ us hl => match us, hl with | [_, _, _], _ => rfl
  have F42 := fun_mk (st := s_Words___init___Words) l42 c42 k42
  have b42 := F42.binds (ps := ["self", "words"]) fun _ _ _ _ _ _ us hl => match us, hl with | [_, _], _ => rfl
  have F43 := fun_mk (st := s_Domain___init___Words) l43 c43 k43
  have b43 := F43.binds (ps := ["self", "low", "high"]) fun _ _ _ _ _ _ us hl => match us, hl with | [_, _, _], _ => rfl
  have F44 := fun_mk (st := s_law) l44 c44 k44
  have b44 := F44.binds (ps := ["script"]) fun _ _ _ _ _ _ us hl => match us, hl with | [_], _ => rfl
  have bl : Bl K mg cTableError cBadName cTooMany cBadWay cBadRow cWay cFirst cOnly cLike cLow cHigh cSum cDomain cNumbers cWords cTable := ⟨PySem.W.mg_of X G n_TableError, n_TableError, PySem.W.mg_of X G n_BadName, n_BadName, PySem.W.mg_of X G n_TooMany, n_TooMany, PySem.W.mg_of X G n_BadWay, n_BadWay, PySem.W.mg_of X G n_BadRow, n_BadRow, PySem.W.mg_of X G n_Way, n_Way, PySem.W.mg_of X G n_First, n_First, PySem.W.mg_of X G n_Only, n_Only, PySem.W.mg_of X G n_Like, n_Like, PySem.W.mg_of X G n_Low, n_Low, PySem.W.mg_of X G n_High, n_High, PySem.W.mg_of X G n_Sum, n_Sum, PySem.W.mg_of X G n_Domain, n_Domain, PySem.W.mg_of X G n_Numbers, n_Numbers, PySem.W.mg_of X G n_Words, n_Words, PySem.W.mg_of X G n_Table, n_Table, ExcCls.value x_BadName, ⟨l0_BadName, l1_BadName, l2_BadName, l3_BadName, l4_BadName, l5_BadName, l6_BadName, l7_BadName⟩, ExcCls.value x_TooMany, ⟨l0_TooMany, l1_TooMany, l2_TooMany, l3_TooMany, l4_TooMany, l5_TooMany, l6_TooMany, l7_TooMany⟩, ExcCls.value x_BadWay, ⟨l0_BadWay, l1_BadWay, l2_BadWay, l3_BadWay, l4_BadWay, l5_BadWay, l6_BadWay, l7_BadWay⟩, ExcCls.value x_BadRow, ⟨l0_BadRow, l1_BadRow, l2_BadRow, l3_BadRow, l4_BadRow, l5_BadRow, l6_BadRow, l7_BadRow⟩, ⟨pg_First, hd_First, po_First, sa_First⟩, ⟨pg_Only, hd_Only, po_Only, sa_Only⟩, ⟨pg_Like, hd_Like, po_Like, sa_Like⟩, ⟨pg_Low, hd_Low, po_Low, sa_Low⟩, ⟨pg_High, hd_High, po_High, sa_High⟩, ⟨pg_Sum, hd_Sum, po_Sum, sa_Sum⟩, ⟨pg_Numbers, hd_Numbers, po_Numbers, sa_Numbers⟩, ⟨pg_Words, hd_Words, po_Words, sa_Words⟩, ⟨pg_Table, hd_Table, po_Table, sa_Table⟩, ⟨⟨pg_First, hd_First, po_First, sa_First⟩, ta_First, tn_First, tt_First, tm_First⟩, ⟨⟨pg_Only, hd_Only, po_Only, sa_Only⟩, ta_Only, tn_Only, tt_Only, tm_Only⟩, ⟨⟨pg_Like, hd_Like, po_Like, sa_Like⟩, ta_Like, tn_Like, tt_Like, tm_Like⟩, ⟨⟨pg_Low, hd_Low, po_Low, sa_Low⟩, ta_Low, tn_Low, tt_Low, tm_Low⟩, ⟨⟨pg_High, hd_High, po_High, sa_High⟩, ta_High, tn_High, tt_High, tm_High⟩, ⟨⟨pg_Sum, hd_Sum, po_Sum, sa_Sum⟩, ta_Sum, tn_Sum, tt_Sum, tm_Sum⟩, ⟨⟨pg_Numbers, hd_Numbers, po_Numbers, sa_Numbers⟩, ta_Numbers, tn_Numbers, tt_Numbers, tm_Numbers⟩, ⟨⟨pg_Words, hd_Words, po_Words, sa_Words⟩, ta_Words, tn_Words, tt_Words, tm_Words⟩, ⟨⟨pg_Table, hd_Table, po_Table, sa_Table⟩, ta_Table, tn_Table, tt_Table, tm_Table⟩, na_First_called, na_Only_called, na_Like_called, na_Low_called, na_High_called, na_Sum_called, na_Numbers_low, na_Numbers_high, na_Words_low, na_Words_high, na_Words_words, na_Table_name, na_Table_names, na_Table_domains, na_Table_outcome, na_Table_way, na_Table_rows, f_none, f_nw, f_ww, f_tt, e_BadName, v_BadName, g_BadName_BadName, g_BadName_TooMany, g_BadName_BadWay, g_BadName_BadRow, e_TooMany, v_TooMany, g_TooMany_BadName, g_TooMany_TooMany, g_TooMany_BadWay, g_TooMany_BadRow, e_BadWay, v_BadWay, g_BadWay_BadName, g_BadWay_TooMany, g_BadWay_BadWay, g_BadWay_BadRow, e_BadRow, v_BadRow, g_BadRow_BadName, g_BadRow_TooMany, g_BadRow_BadWay, g_BadRow_BadRow, PySem.W.mg_none_of X G z0, PySem.W.mg_none_of X G z1, PySem.W.mg_none_of X G z2, PySem.W.mg_none_of X G z3, PySem.W.mg_none_of X G z4, PySem.W.mg_none_of X G z5, PySem.W.mg_none_of X G z6, PySem.W.mg_none_of X G z7, PySem.W.mg_none_of X G z8, PySem.W.mg_none_of X G z9, PySem.W.mg_none_of X G z10, PySem.W.mg_none_of X G z11, ⟨_, PySem.W.mg_of X G y0, x0⟩, ⟨_, PySem.W.mg_of X G y1, x1⟩, ⟨_, PySem.W.mg_of X G y2, x2⟩, ⟨_, PySem.W.mg_of X G y3, x3⟩, ⟨_, PySem.W.mg_of X G y4, x4⟩⟩
  refine ⟨PySem.W.fnOf "law" "law" (defArgs s_law) (defBody s_law) (defScope s_law) .none kV44 dc44 pm44 an44 cd44 ct44, fun s v => .of_eq rfl, fun base _ _ => ?_⟩
  have O0 := ok_all_among (P := l.prog) (w := w) (base := base) F0 bl 
  have C_all_among : Callee l.prog w K mg base 1 "all_among" ["text", "signs"] (sp_all_among K cTableError cBadName cTooMany cBadWay cBadRow cWay cFirst cOnly cLike cLow cHigh cSum cDomain cNumbers cWords cTable) := ⟨_, _, O0, b0, k0, PySem.W.mg_of X G a0⟩
  have O2 := ok_is_whole (P := l.prog) (w := w) (base := base) F2 bl 
  have C_is_whole : Callee l.prog w K mg base 1 "is_whole" ["value"] (sp_is_whole K cTableError cBadName cTooMany cBadWay cBadRow cWay cFirst cOnly cLike cLow cHigh cSum cDomain cNumbers cWords cTable) := ⟨_, _, O2, b2, k2, PySem.W.mg_of X G a2⟩
  have O5 := ok_refuse_counts (P := l.prog) (w := w) (base := base) F5 bl 
  have C_refuse_counts : CalleeX l.prog w K mg base 1 "refuse_counts" ["names", "rows"] (sp_refuse_counts K cTableError cBadName cTooMany cBadWay cBadRow cWay cFirst cOnly cLike cLow cHigh cSum cDomain cNumbers cWords cTable) := ⟨_, _, O5, b5, k5, PySem.W.mg_of X G a5⟩
  have O8 := ok_own_row (P := l.prog) (w := w) (base := base) F8 bl 
  have C_own_row : Callee l.prog w K mg base 1 "own_row" ["cells", "code"] (sp_own_row K cTableError cBadName cTooMany cBadWay cBadRow cWay cFirst cOnly cLike cLow cHigh cSum cDomain cNumbers cWords cTable) := ⟨_, _, O8, b8, k8, PySem.W.mg_of X G a8⟩
  have O10 := ok_law_cell_at (P := l.prog) (w := w) (base := base) F10 bl 
  have C_law_cell_at : Callee l.prog w K mg base 1 "_law_cell_at" ["script", "k"] (sp_law_cell_at K cTableError cBadName cTooMany cBadWay cBadRow cWay cFirst cOnly cLike cLow cHigh cSum cDomain cNumbers cWords cTable) := ⟨_, _, O10, b10, k10, PySem.W.mg_of X G a10⟩
  have O11 := ok_law_mixed (P := l.prog) (w := w) (base := base) F11 bl 
  have C_law_mixed : Callee l.prog w K mg base 1 "_law_mixed" ["cell", "k"] (sp_law_mixed K cTableError cBadName cTooMany cBadWay cBadRow cWay cFirst cOnly cLike cLow cHigh cSum cDomain cNumbers cWords cTable) := ⟨_, _, O11, b11, k11, PySem.W.mg_of X G a11⟩
  have O12 := ok_law_word (P := l.prog) (w := w) (base := base) F12 bl 
  have C_law_word : Callee l.prog w K mg base 1 "_law_word" ["cell", "k"] (sp_law_word K cTableError cBadName cTooMany cBadWay cBadRow cWay cFirst cOnly cLike cLow cHigh cSum cDomain cNumbers cWords cTable) := ⟨_, _, O12, b12, k12, PySem.W.mg_of X G a12⟩
  have O15 := ok_law_spans (P := l.prog) (w := w) (base := base) F15 bl 
  have C_law_spans : Callee l.prog w K mg base 1 "_law_spans" ["m", "low", "high"] (sp_law_spans K cTableError cBadName cTooMany cBadWay cBadRow cWay cFirst cOnly cLike cLow cHigh cSum cDomain cNumbers cWords cTable) := ⟨_, _, O15, b15, k15, PySem.W.mg_of X G a15⟩
  have O17 := ok_law_outcome_of (P := l.prog) (w := w) (base := base) F17 bl 
  have C_law_outcome_of : Callee l.prog w K mg base 1 "_law_outcome_of" ["made", "kinds"] (sp_law_outcome_of K cTableError cBadName cTooMany cBadWay cBadRow cWay cFirst cOnly cLike cLow cHigh cSum cDomain cNumbers cWords cTable) := ⟨_, _, O17, b17, k17, PySem.W.mg_of X G a17⟩
  have O20 := ok_law_own (P := l.prog) (w := w) (base := base) F20 bl 
  have C_law_own : Callee l.prog w K mg base 1 "_law_own" ["row"] (sp_law_own K cTableError cBadName cTooMany cBadWay cBadRow cWay cFirst cOnly cLike cLow cHigh cSum cDomain cNumbers cWords cTable) := ⟨_, _, O20, b20, k20, PySem.W.mg_of X G a20⟩
  have O21 := ok_law_bad_names (P := l.prog) (w := w) (base := base) F21 bl 
  have C_law_bad_names : Callee l.prog w K mg base 1 "_law_bad_names" ["name", "names", "turn"] (sp_law_bad_names K cTableError cBadName cTooMany cBadWay cBadRow cWay cFirst cOnly cLike cLow cHigh cSum cDomain cNumbers cWords cTable) := ⟨_, _, O21, b21, k21, PySem.W.mg_of X G a21⟩
  have O22 := ok_law_bad_row (P := l.prog) (w := w) (base := base) F22 bl 
  have C_law_bad_row : Callee l.prog w K mg base 1 "_law_bad_row" ["row", "columns", "out", "turn"] (sp_law_bad_row K cTableError cBadName cTooMany cBadWay cBadRow cWay cFirst cOnly cLike cLow cHigh cSum cDomain cNumbers cWords cTable) := ⟨_, _, O22, b22, k22, PySem.W.mg_of X G a22⟩
  have O27 := ok_Way___init___First (P := l.prog) (w := w) (base := base) F27 bl 
  have B_Way___init___First : BCallee CX0 l.prog w K mg base 1 "Way" "__init__" ["self", "called"] (sp_Way___init___First K cTableError cBadName cTooMany cBadWay cBadRow cWay cFirst cOnly cLike cLow cHigh cSum cDomain cNumbers cWords cTable) := ⟨_, _, _, ⟨b_s27, b_r27, b_a27, k27⟩, O27, b27, PySem.W.mg_of X G n_Way⟩
  have O29 := ok_Way___init___Only (P := l.prog) (w := w) (base := base) F29 bl 
  have B_Way___init___Only : BCallee CX0 l.prog w K mg base 1 "Way" "__init__" ["self", "called"] (sp_Way___init___Only K cTableError cBadName cTooMany cBadWay cBadRow cWay cFirst cOnly cLike cLow cHigh cSum cDomain cNumbers cWords cTable) := ⟨_, _, _, ⟨b_s29, b_r29, b_a29, k29⟩, O29, b29, PySem.W.mg_of X G n_Way⟩
  have O31 := ok_Way___init___Like (P := l.prog) (w := w) (base := base) F31 bl 
  have B_Way___init___Like : BCallee CX0 l.prog w K mg base 1 "Way" "__init__" ["self", "called"] (sp_Way___init___Like K cTableError cBadName cTooMany cBadWay cBadRow cWay cFirst cOnly cLike cLow cHigh cSum cDomain cNumbers cWords cTable) := ⟨_, _, _, ⟨b_s31, b_r31, b_a31, k31⟩, O31, b31, PySem.W.mg_of X G n_Way⟩
  have O33 := ok_Way___init___Low (P := l.prog) (w := w) (base := base) F33 bl 
  have B_Way___init___Low : BCallee CX0 l.prog w K mg base 1 "Way" "__init__" ["self", "called"] (sp_Way___init___Low K cTableError cBadName cTooMany cBadWay cBadRow cWay cFirst cOnly cLike cLow cHigh cSum cDomain cNumbers cWords cTable) := ⟨_, _, _, ⟨b_s33, b_r33, b_a33, k33⟩, O33, b33, PySem.W.mg_of X G n_Way⟩
  have O35 := ok_Way___init___High (P := l.prog) (w := w) (base := base) F35 bl 
  have B_Way___init___High : BCallee CX0 l.prog w K mg base 1 "Way" "__init__" ["self", "called"] (sp_Way___init___High K cTableError cBadName cTooMany cBadWay cBadRow cWay cFirst cOnly cLike cLow cHigh cSum cDomain cNumbers cWords cTable) := ⟨_, _, _, ⟨b_s35, b_r35, b_a35, k35⟩, O35, b35, PySem.W.mg_of X G n_Way⟩
  have O37 := ok_Way___init___Sum (P := l.prog) (w := w) (base := base) F37 bl 
  have B_Way___init___Sum : BCallee CX0 l.prog w K mg base 1 "Way" "__init__" ["self", "called"] (sp_Way___init___Sum K cTableError cBadName cTooMany cBadWay cBadRow cWay cFirst cOnly cLike cLow cHigh cSum cDomain cNumbers cWords cTable) := ⟨_, _, _, ⟨b_s37, b_r37, b_a37, k37⟩, O37, b37, PySem.W.mg_of X G n_Way⟩
  have O41 := ok_Domain___init___Numbers (P := l.prog) (w := w) (base := base) F41 bl 
  have B_Domain___init___Numbers : BCallee CX0 l.prog w K mg base 1 "Domain" "__init__" ["self", "low", "high"] (sp_Domain___init___Numbers K cTableError cBadName cTooMany cBadWay cBadRow cWay cFirst cOnly cLike cLow cHigh cSum cDomain cNumbers cWords cTable) := ⟨_, _, _, ⟨b_s41, b_r41, b_a41, k41⟩, O41, b41, PySem.W.mg_of X G n_Domain⟩
  have O43 := ok_Domain___init___Words (P := l.prog) (w := w) (base := base) F43 bl 
  have B_Domain___init___Words : BCallee CX0 l.prog w K mg base 1 "Domain" "__init__" ["self", "low", "high"] (sp_Domain___init___Words K cTableError cBadName cTooMany cBadWay cBadRow cWay cFirst cOnly cLike cLow cHigh cSum cDomain cNumbers cWords cTable) := ⟨_, _, _, ⟨b_s43, b_r43, b_a43, k43⟩, O43, b43, PySem.W.mg_of X G n_Domain⟩
  have O1 := ok_is_word (P := l.prog) (w := w) (base := base) F1 bl (C_all_among.mono (by decide))
  have C_is_word : Callee l.prog w K mg base 2 "is_word" ["text"] (sp_is_word K cTableError cBadName cTooMany cBadWay cBadRow cWay cFirst cOnly cLike cLow cHigh cSum cDomain cNumbers cWords cTable) := ⟨_, _, O1, b1, k1, PySem.W.mg_of X G a1⟩
  have O13 := ok_law_range (P := l.prog) (w := w) (base := base) F13 bl (C_law_mixed.mono (by decide)) (C_law_word.mono (by decide))
  have C_law_range : Callee l.prog w K mg base 2 "_law_range" ["cell"] (sp_law_range K cTableError cBadName cTooMany cBadWay cBadRow cWay cFirst cOnly cLike cLow cHigh cSum cDomain cNumbers cWords cTable) := ⟨_, _, O13, b13, k13, PySem.W.mg_of X G a13⟩
  have O16 := ok_law_row (P := l.prog) (w := w) (base := base) F16 bl (C_law_mixed.mono (by decide)) (C_law_spans.mono (by decide))
  have C_law_row : Callee l.prog w K mg base 2 "_law_row" ["cell", "columns", "low", "high", "calm"] (sp_law_row K cTableError cBadName cTooMany cBadWay cBadRow cWay cFirst cOnly cLike cLow cHigh cSum cDomain cNumbers cWords cTable) := ⟨_, _, O16, b16, k16, PySem.W.mg_of X G a16⟩
  have O26 := ok_First___init___First (P := l.prog) (w := w) (base := base) F26 bl (B_Way___init___First.mono (by decide))
  have K_First___init___First : MkCallee CX0 l.prog w K mg base 2 "First" cFirst ["self"] (sp_First___init___First K cTableError cBadName cTooMany cBadWay cBadRow cWay cFirst cOnly cLike cLow cHigh cSum cDomain cNumbers cWords cTable) := ⟨_, _, ⟨im26, i26, if26, ik26⟩, O26, b26, PySem.W.mg_of X G n_First⟩
  have O28 := ok_Only___init___Only (P := l.prog) (w := w) (base := base) F28 bl (B_Way___init___Only.mono (by decide))
  have K_Only___init___Only : MkCallee CX0 l.prog w K mg base 2 "Only" cOnly ["self"] (sp_Only___init___Only K cTableError cBadName cTooMany cBadWay cBadRow cWay cFirst cOnly cLike cLow cHigh cSum cDomain cNumbers cWords cTable) := ⟨_, _, ⟨im28, i28, if28, ik28⟩, O28, b28, PySem.W.mg_of X G n_Only⟩
  have O30 := ok_Like___init___Like (P := l.prog) (w := w) (base := base) F30 bl (B_Way___init___Like.mono (by decide))
  have K_Like___init___Like : MkCallee CX0 l.prog w K mg base 2 "Like" cLike ["self"] (sp_Like___init___Like K cTableError cBadName cTooMany cBadWay cBadRow cWay cFirst cOnly cLike cLow cHigh cSum cDomain cNumbers cWords cTable) := ⟨_, _, ⟨im30, i30, if30, ik30⟩, O30, b30, PySem.W.mg_of X G n_Like⟩
  have O32 := ok_Low___init___Low (P := l.prog) (w := w) (base := base) F32 bl (B_Way___init___Low.mono (by decide))
  have K_Low___init___Low : MkCallee CX0 l.prog w K mg base 2 "Low" cLow ["self"] (sp_Low___init___Low K cTableError cBadName cTooMany cBadWay cBadRow cWay cFirst cOnly cLike cLow cHigh cSum cDomain cNumbers cWords cTable) := ⟨_, _, ⟨im32, i32, if32, ik32⟩, O32, b32, PySem.W.mg_of X G n_Low⟩
  have O34 := ok_High___init___High (P := l.prog) (w := w) (base := base) F34 bl (B_Way___init___High.mono (by decide))
  have K_High___init___High : MkCallee CX0 l.prog w K mg base 2 "High" cHigh ["self"] (sp_High___init___High K cTableError cBadName cTooMany cBadWay cBadRow cWay cFirst cOnly cLike cLow cHigh cSum cDomain cNumbers cWords cTable) := ⟨_, _, ⟨im34, i34, if34, ik34⟩, O34, b34, PySem.W.mg_of X G n_High⟩
  have O36 := ok_Sum___init___Sum (P := l.prog) (w := w) (base := base) F36 bl (B_Way___init___Sum.mono (by decide))
  have K_Sum___init___Sum : MkCallee CX0 l.prog w K mg base 2 "Sum" cSum ["self"] (sp_Sum___init___Sum K cTableError cBadName cTooMany cBadWay cBadRow cWay cFirst cOnly cLike cLow cHigh cSum cDomain cNumbers cWords cTable) := ⟨_, _, ⟨im36, i36, if36, ik36⟩, O36, b36, PySem.W.mg_of X G n_Sum⟩
  have O38 := ok_Domain_has_code_Numbers (P := l.prog) (w := w) (base := base) F38 bl (C_is_whole.mono (by decide))
  have M_Domain_has_code_Numbers : MCallee CX0 l.prog w K mg base 2 cNumbers "has_code" ["self", "value"] (sp_Domain_has_code_Numbers K cTableError cBadName cTooMany cBadWay cBadRow cWay cFirst cOnly cLike cLow cHigh cSum cDomain cNumbers cWords cTable) := ⟨_, _, ⟨m38, mf38, k38⟩, O38, b38⟩
  have O39 := ok_Domain_has_code_Words (P := l.prog) (w := w) (base := base) F39 bl (C_is_whole.mono (by decide))
  have M_Domain_has_code_Words : MCallee CX0 l.prog w K mg base 2 cWords "has_code" ["self", "value"] (sp_Domain_has_code_Words K cTableError cBadName cTooMany cBadWay cBadRow cWay cFirst cOnly cLike cLow cHigh cSum cDomain cNumbers cWords cTable) := ⟨_, _, ⟨m39, mf39, k39⟩, O39, b39⟩
  have O40 := ok_Numbers___init___Numbers (P := l.prog) (w := w) (base := base) F40 bl (B_Domain___init___Numbers.mono (by decide))
  have K_Numbers___init___Numbers : MkCallee CX0 l.prog w K mg base 2 "Numbers" cNumbers ["self", "low", "high"] (sp_Numbers___init___Numbers K cTableError cBadName cTooMany cBadWay cBadRow cWay cFirst cOnly cLike cLow cHigh cSum cDomain cNumbers cWords cTable) := ⟨_, _, ⟨im40, i40, if40, ik40⟩, O40, b40, PySem.W.mg_of X G n_Numbers⟩
  have O4 := ok_refuse_names (P := l.prog) (w := w) (base := base) F4 bl (C_is_word.mono (by decide))
  have C_refuse_names : CalleeX l.prog w K mg base 3 "refuse_names" ["names"] (sp_refuse_names K cTableError cBadName cTooMany cBadWay cBadRow cWay cFirst cOnly cLike cLow cHigh cSum cDomain cNumbers cWords cTable) := ⟨_, _, O4, b4, k4, PySem.W.mg_of X G a4⟩
  have O7 := ok_refuse_row (P := l.prog) (w := w) (base := base) F7 bl (M_Domain_has_code_Numbers.mono (by decide)) (M_Domain_has_code_Words.mono (by decide))
  have C_refuse_row : CalleeX l.prog w K mg base 3 "refuse_row" ["domains", "outcome", "cells", "code"] (sp_refuse_row K cTableError cBadName cTooMany cBadWay cBadRow cWay cFirst cOnly cLike cLow cHigh cSum cDomain cNumbers cWords cTable) := ⟨_, _, O7, b7, k7, PySem.W.mg_of X G a7⟩
  have O42 := ok_Words___init___Words (P := l.prog) (w := w) (base := base) F42 bl (B_Domain___init___Words.mono (by decide)) (C_is_word.mono (by decide))
  have K_Words___init___Words : MkCallee CX0 l.prog w K mg base 3 "Words" cWords ["self", "words"] (sp_Words___init___Words K cTableError cBadName cTooMany cBadWay cBadRow cWay cFirst cOnly cLike cLow cHigh cSum cDomain cNumbers cWords cTable) := ⟨_, _, ⟨im42, i42, if42, ik42⟩, O42, b42, PySem.W.mg_of X G n_Words⟩
  have O3 := ok_way_by (P := l.prog) (w := w) (base := base) F3 bl (K_First___init___First.mono (by decide)) (K_Only___init___Only.mono (by decide)) (K_Like___init___Like.mono (by decide)) (K_Low___init___Low.mono (by decide)) (K_High___init___High.mono (by decide)) (K_Sum___init___Sum.mono (by decide))
  have C_way_by : CalleeX l.prog w K mg base 4 "way_by" ["name"] (sp_way_by K cTableError cBadName cTooMany cBadWay cBadRow cWay cFirst cOnly cLike cLow cHigh cSum cDomain cNumbers cWords cTable) := ⟨_, _, O3, b3, k3, PySem.W.mg_of X G a3⟩
  have O6 := ok_refuse_way (P := l.prog) (w := w) (base := base) F6 bl (C_way_by.mono (by decide))
  have C_refuse_way : CalleeX l.prog w K mg base 5 "refuse_way" ["way", "outcome"] (sp_refuse_way K cTableError cBadName cTooMany cBadWay cBadRow cWay cFirst cOnly cLike cLow cHigh cSum cDomain cNumbers cWords cTable) := ⟨_, _, O6, b6, k6, PySem.W.mg_of X G a6⟩
  have O14 := ok_law_domain (P := l.prog) (w := w) (base := base) F14 bl (K_Numbers___init___Numbers.mono (by decide)) (K_Words___init___Words.mono (by decide))
  have C_law_domain : Callee l.prog w K mg base 5 "_law_domain" ["told"] (sp_law_domain K cTableError cBadName cTooMany cBadWay cBadRow cWay cFirst cOnly cLike cLow cHigh cSum cDomain cNumbers cWords cTable) := ⟨_, _, O14, b14, k14, PySem.W.mg_of X G a14⟩
  have O23 := ok_law_faulty (P := l.prog) (w := w) (base := base) F23 bl (C_law_word.mono (by decide)) (C_law_domain.mono (by decide)) (C_law_bad_names.mono (by decide)) (C_law_row.mono (by decide))
  have C_law_faulty : Callee l.prog w K mg base 6 "_law_faulty" ["columns", "rows", "out", "faults", "turn", "head"] (sp_law_faulty K cTableError cBadName cTooMany cBadWay cBadRow cWay cFirst cOnly cLike cLow cHigh cSum cDomain cNumbers cWords cTable) := ⟨_, _, O23, b23, k23, PySem.W.mg_of X G a23⟩
  have O25 := ok_Table___init___Table (P := l.prog) (w := w) (base := base) F25 bl (C_refuse_names.mono (by decide)) (C_refuse_counts.mono (by decide)) (C_refuse_way.mono (by decide)) (C_refuse_row.mono (by decide)) (C_own_row.mono (by decide))
  have K_Table___init___Table : MkCallee (CX1 l.prog w) l.prog w K mg base 6 "Table" cTable ["self", "name", "names", "domains", "outcome", "way", "rows"] (sp_Table___init___Table K cTableError cBadName cTooMany cBadWay cBadRow cWay cFirst cOnly cLike cLow cHigh cSum cDomain cNumbers cWords cTable) := ⟨_, _, ⟨im25, i25, if25, ik25⟩, O25, b25, PySem.W.mg_of X G n_Table⟩
  have O9 := ok_with_rows (P := l.prog) (w := w) (base := base) F9 bl (K_Table___init___Table.mono (by decide))
  have C_with_rows : CalleeX l.prog w K mg base 8 "with_rows" ["table", "rows"] (sp_with_rows K cTableError cBadName cTooMany cBadWay cBadRow cWay cFirst cOnly cLike cLow cHigh cSum cDomain cNumbers cWords cTable) := ⟨_, _, O9, b9, k9, PySem.W.mg_of X G a9⟩
  have O18 := ok_law_made (P := l.prog) (w := w) (base := base) F18 bl (C_law_outcome_of.mono (by decide)) (K_Table___init___Table.mono (by decide))
  have C_law_made : Callee l.prog w K mg base 8 "_law_made" ["name", "names", "domains", "outcome", "way", "rows"] (sp_law_made K cTableError cBadName cTooMany cBadWay cBadRow cWay cFirst cOnly cLike cLow cHigh cSum cDomain cNumbers cWords cTable) := ⟨_, _, O18, b18, k18, PySem.W.mg_of X G a18⟩
  have O19 := ok_law_other_rows (P := l.prog) (w := w) (base := base) F19 bl (C_law_outcome_of.mono (by decide)) (C_with_rows.mono (by decide))
  have C_law_other_rows : Callee l.prog w K mg base 9 "_law_other_rows" ["table", "rows"] (sp_law_other_rows K cTableError cBadName cTooMany cBadWay cBadRow cWay cFirst cOnly cLike cLow cHigh cSum cDomain cNumbers cWords cTable) := ⟨_, _, O19, b19, k19, PySem.W.mg_of X G a19⟩
  have O24 := ok_law_refused_so (P := l.prog) (w := w) (base := base) F24 bl (C_law_made.mono (by decide)) (C_law_own.mono (by decide))
  have C_law_refused_so : Callee l.prog w K mg base 9 "_law_refused_so" ["parts", "outcome"] (sp_law_refused_so K cTableError cBadName cTooMany cBadWay cBadRow cWay cFirst cOnly cLike cLow cHigh cSum cDomain cNumbers cWords cTable) := ⟨_, _, O24, b24, k24, PySem.W.mg_of X G a24⟩
  exact ok_law F44 bl (C_law_cell_at.mono (by decide)) (C_law_range.mono (by decide)) (C_law_row.mono (by decide)) (K_Table___init___Table.mono (by decide)) (C_law_mixed.mono (by decide)) (C_law_refused_so.mono (by decide)) (C_law_word.mono (by decide)) (C_law_domain.mono (by decide)) (C_law_other_rows.mono (by decide)) (C_law_faulty.mono (by decide)) (C_law_bad_row.mono (by decide))
theorem walk {l : PySem.W.OpenLaw} {q : Program} {loose : List Str} {XP : (Str → Option Value) → Heap → Prop} {YP : World → Heap → Prop} {d : DefRec} {K : Params → PySem.W.Frag} (hn : l.most = some 63) (hdf : d.params.defaults = [])
    (hY : ∀ (w : World) (h : Heap), YP w h → (K w.params).In h)
    (F : ∀ (w : World) (mg : Str → Option Value) (fa : Addr) (h : Heap), (K w.params).In h → h.Ns mainGlobals mg → mg d.name = some (.ref fa) →
      ∃ fd : FuncData, (∀ (s : Shared) (u : Value), BindsTo s fd ⟨[u], []⟩ [("script", u)]) ∧ ∀ base : Heap, (K w.params).In base → base.Ns mainGlobals mg → FnOk l.prog w (K w.params) mg base CX0 10 fa fd ["script"] (sp_law (K w.params))) :
    PySem.W.WalkO q loose XP YP l.row.toRowW d [] (fun f vs => PySem.call f vs) :=
  L2.walk_of (n := 63) (k := 10) (x := "script") (CX := fun _ => CX0) (sp := fun w => sp_law (K w.params)) hn (by decide) hdf ⟨rfl, by decide, by decide⟩ hY F (fun _ _ a ns hl _ hS => ⟨a, ns, rfl, hS, hl, fun _ => rfl⟩) fun _ _ _ _ _ z => z
end My
def PySem.W.Fast.tw13427470754768041922 : Unit := ()
def PySem.W.Fast.tw7744368178315808303 : Unit := ()
def PySem.W.Fast.tw4985382509530660957 : Unit := ()
def PySem.W.Fast.tw2023700106117894952 : Unit := ()
def PySem.W.Fast.tw4667300484568714095 : Unit := ()
def PySem.W.Fast.tw4422388916880239246 : Unit := ()
def PySem.W.Fast.tw10668067588332784975 : Unit := ()
def PySem.W.Fast.tw13956366143434143463 : Unit := ()
def PySem.W.Fast.tw17864156050474494971 : Unit := ()
def PySem.W.Fast.tw18134512301182621113 : Unit := ()
def PySem.W.Fast.tw15145142827513940659 : Unit := ()
def PySem.W.Fast.tw14898692398142909497 : Unit := ()
def PySem.W.Fast.tw6523652243002885457 : Unit := ()
def PySem.W.Fast.tw8275555328391720874 : Unit := ()
def PySem.W.Fast.tw14501793871052216690 : Unit := ()
def PySem.W.Fast.tw12795945817128593491 : Unit := ()
def PySem.W.Fast.tw6372485588015037446 : Unit := ()
def PySem.W.Fast.tw7919128797482928841 : Unit := ()
def PySem.W.Fast.tw526795407836973859 : Unit := ()
def PySem.W.Fast.tw2406247624018747966 : Unit := ()
def PySem.W.Fast.tw14261902726262401962 : Unit := ()
def PySem.W.Fast.tw7799700812491289473 : Unit := ()
def PySem.W.Fast.tw15846715237552488762 : Unit := ()
def PySem.W.Fast.tw7678314409524466644 : Unit := ()
def PySem.W.Fast.tw10864078058371670457 : Unit := ()
def PySem.W.Fast.tw16828648766870326498 : Unit := ()
def PySem.W.Fast.tw2987371618422825821 : Unit := ()
def PySem.W.Fast.tw4762916467210662680 : Unit := ()
def PySem.W.Fast.tw11588425539495602589 : Unit := ()
def PySem.W.Fast.tw14634120201052831620 : Unit := ()
def PySem.W.Fast.tw6322931863570150585 : Unit := ()
def PySem.W.Fast.tw5787623475220038429 : Unit := ()
def PySem.W.Fast.tw16701148457661826432 : Unit := ()
def PySem.W.Fast.tw7723221813458587400 : Unit := ()
def PySem.W.Fast.tw1645176429224827741 : Unit := ()
def PySem.W.Fast.tw10443926827328933280 : Unit := ()
def PySem.W.Fast.tw897541420069323597 : Unit := ()
def PySem.W.Fast.tw11051472892970933560 : Unit := ()
def PySem.W.Fast.tw2745620583710800436 : Unit := ()
def PySem.W.Fast.tw16920069236883397025 : Unit := ()
def PySem.W.Fast.tw15498049774306487966 : Unit := ()
def PySem.W.Fast.tw76177021494264104 : Unit := ()
def PySem.W.Fast.tw2658895494638198000 : Unit := ()
def PySem.W.Fast.tw15022352746127899749 : Unit := ()
def PySem.W.Fast.tw14079544634198669429 : Unit := ()
def PySem.W.Fast.tw15932630600753739438 : Unit := ()
def PySem.W.Fast.tw2162049977594819468 : Unit := ()
def PySem.W.Fast.tw5170134513088650783 : Unit := ()
def PySem.W.Fast.tw7180932667102309196 : Unit := ()
def PySem.W.Fast.tw3620105922189853831 : Unit := ()
def PySem.W.Fast.tw8677676438779031241 : Unit := ()
def PySem.W.Fast.tw2494817781046987796 : Unit := ()
def PySem.W.Fast.tw11410630219808132024 : Unit := ()
def PySem.W.Fast.tw16693734801809013425 : Unit := ()
def PySem.W.Fast.tw3610869752317361839 : Unit := ()
def PySem.W.Fast.tw9547826481749033289 : Unit := ()
def PySem.W.Fast.tw4665631153769572920 : Unit := ()
def PySem.W.Fast.tw6942883497658482187 : Unit := ()
def PySem.W.Fast.tw12804445331099156504 : Unit := ()
def PySem.W.Fast.tw9052715979739004983 : Unit := ()
def PySem.W.Fast.tw12697110683763974396 : Unit := ()
def PySem.W.Fast.tw8523709129889419733 : Unit := ()
def PySem.W.Fast.tw16051210610227116369 : Unit := ()
def PySem.W.Fast.tw14370114324305469622 : Unit := ()
def PySem.W.Fast.tw15545669801614326667 : Unit := ()
def PySem.W.Fast.tw2746605937510898611 : Unit := ()
def PySem.W.Fast.tw15713486997423890884 : Unit := ()
def PySem.W.Fast.tw2644107365117528338 : Unit := ()
def PySem.W.Fast.tw10804707180611933165 : Unit := ()
def PySem.W.Fast.tw12539936109363495988 : Unit := ()
def PySem.W.Fast.tw15423485705584819339 : Unit := ()
def PySem.W.Fast.tw9772079313904007050 : Unit := ()
def PySem.W.Fast.tw10692575584842017304 : Unit := ()
def PySem.W.Fast.tw13817044051660819718 : Unit := ()
def PySem.W.Fast.tw8803083220179968283 : Unit := ()
def PySem.W.Fast.tw7423982823863614629 : Unit := ()
def PySem.W.Fast.tw7270000878233452594 : Unit := ()
def PySem.W.Fast.tw10986651116605959857 : Unit := ()
def PySem.W.Fast.tw1001967073642446948 : Unit := ()
def PySem.W.Fast.tw17145059399007559645 : Unit := ()
def PySem.W.Fast.tw4195244209791862929 : Unit := ()
def PySem.W.Fast.tw12382958132545482895 : Unit := ()
def PySem.W.Fast.tw2977307799695617132 : Unit := ()
def PySem.W.Fast.tw9710066854530885146 : Unit := ()
def PySem.W.Fast.tw15400307328539579264 : Unit := ()
def PySem.W.Fast.tw7703305235457528086 : Unit := ()
def PySem.W.Fast.tw13272893013258713346 : Unit := ()
def PySem.W.Fast.tw8560073956337539914 : Unit := ()
def PySem.W.Fast.tw1063054005838375536 : Unit := ()
def PySem.W.Fast.tw16146992765983144855 : Unit := ()
def PySem.W.Fast.tw14087769949392100549 : Unit := ()
def PySem.W.Fast.tw12384493342031593159 : Unit := ()
def PySem.W.Fast.tw11622498526336825203 : Unit := ()
def PySem.W.Fast.tw15529286752729852730 : Unit := ()
def PySem.W.Fast.tw1898392520227407077 : Unit := ()
def PySem.W.Fast.tw14588530004146719958 : Unit := ()
def PySem.W.Fast.tw7858042161345505332 : Unit := ()
def PySem.W.Fast.tw5361843235072971407 : Unit := ()
def PySem.W.Fast.tw11045913480775525482 : Unit := ()
def PySem.W.Fast.tw13458242031565843099 : Unit := ()
def PySem.W.Fast.tw8101281529702710301 : Unit := ()
def PySem.W.Fast.tw6604595930213379041 : Unit := ()
def PySem.W.Fast.tw5403374898862714154 : Unit := ()
def PySem.W.Fast.tw18011113029848604607 : Unit := ()
def PySem.W.Fast.tw613190473708532952 : Unit := ()
def PySem.W.Fast.tw14162510062183264138 : Unit := ()
def PySem.W.Fast.tw11575090285405397564 : Unit := ()
def PySem.W.Fast.tw6201406557619872637 : Unit := ()
def PySem.W.Fast.tw215715827467069441 : Unit := ()
def PySem.W.Fast.tw5391778376975162217 : Unit := ()
def PySem.W.Fast.tw15200289035741765402 : Unit := ()
def PySem.W.Fast.tw7441554429678196290 : Unit := ()
def PySem.W.Fast.tw15077914645899952494 : Unit := ()
def PySem.W.Fast.tw15596713150288346230 : Unit := ()
def PySem.W.Fast.tw1934029241587616939 : Unit := ()
def PySem.W.Fast.tw599166431138088554 : Unit := ()
def PySem.W.Fast.tw1190220781487407490 : Unit := ()
def PySem.W.Fast.tw8558273137537727464 : Unit := ()
def PySem.W.Fast.tw699369540203768175 : Unit := ()
def PySem.W.Fast.tw987081303697854928 : Unit := ()
def PySem.W.Fast.tw15875166359651092196 : Unit := ()
def PySem.W.Fast.tw8433023596609996809 : Unit := ()
def PySem.W.Fast.tw4575691330570099615 : Unit := ()
def PySem.W.Fast.tw2356824178533719581 : Unit := ()
def PySem.W.Fast.tw7109504205204805739 : Unit := ()
def PySem.W.Fast.tw3244828623202784478 : Unit := ()
def PySem.W.Fast.tw5866621371394911474 : Unit := ()
def PySem.W.Fast.tw13458541835963729563 : Unit := ()
def PySem.W.Fast.tw11409392102687017403 : Unit := ()
def PySem.W.Fast.tw11101298072741362904 : Unit := ()
def PySem.W.Fast.tw6931271760325330475 : Unit := ()
def PySem.W.Fast.tw7606712970809686751 : Unit := ()
def PySem.W.Fast.tw17749544861456112926 : Unit := ()
def PySem.W.Fast.tw1377111300595786185 : Unit := ()
def PySem.W.Fast.tw13261921455421338006 : Unit := ()
def PySem.W.Fast.tw6054167557931758969 : Unit := ()
def PySem.W.Fast.tw16702692937804457212 : Unit := ()
def PySem.W.Fast.tw17475131446192553332 : Unit := ()
def PySem.W.Fast.tw8442491382624812305 : Unit := ()
def PySem.W.Fast.tw1479097391475430221 : Unit := ()
def PySem.W.Fast.tw185215551377825804 : Unit := ()
def PySem.W.Fast.tw15921111452517278758 : Unit := ()
def PySem.W.Fast.tw8343221750538028963 : Unit := ()
def PySem.W.Fast.tw8066348632330992025 : Unit := ()
def PySem.W.Fast.tw1545078040671328471 : Unit := ()
def PySem.W.Fast.tw2621629530239416231 : Unit := ()
def PySem.W.Fast.tw14218648480003686202 : Unit := ()
def PySem.W.Fast.tw6166965744265171920 : Unit := ()
def PySem.W.Fast.tw6972516343019742656 : Unit := ()
def PySem.W.Fast.tw13340903360731787082 : Unit := ()
def PySem.W.Fast.tw11322130508540159602 : Unit := ()
def PySem.W.Fast.tw11068972500628583890 : Unit := ()
def PySem.W.Fast.tw16394260102780304435 : Unit := ()
def PySem.W.Fast.tw9062339306288651843 : Unit := ()
def PySem.W.Fast.tw5595507653154717124 : Unit := ()
def PySem.W.Fast.tw13424580638046456818 : Unit := ()
def PySem.W.Fast.tw8630690455978974991 : Unit := ()
def PySem.W.Fast.tw13892271114638446651 : Unit := ()
def PySem.W.Fast.tw2101883114327793601 : Unit := ()
def PySem.W.Fast.tw10932070913757547968 : Unit := ()
def PySem.W.Fast.tw11249731092595338431 : Unit := ()
def PySem.W.Fast.tw8148621148939380093 : Unit := ()
def PySem.W.Fast.tw15688069538676793076 : Unit := ()
def PySem.W.Fast.tw11128402005284505042 : Unit := ()
def PySem.W.Fast.tw4837598216506818904 : Unit := ()
def PySem.W.Fast.tw1992835736978578278 : Unit := ()
def PySem.W.Fast.tw13311545922905349520 : Unit := ()
def PySem.W.Fast.tw9810539851271976975 : Unit := ()
def PySem.W.Fast.tw11990063019782318466 : Unit := ()
def PySem.W.Fast.tw523985252559459485 : Unit := ()
def PySem.W.Fast.tw16095999424825749430 : Unit := ()
def PySem.W.Fast.tw9598886122100298795 : Unit := ()
def PySem.W.Fast.tw7695591068517151998 : Unit := ()
def PySem.W.Fast.tw7571386478011494726 : Unit := ()
def PySem.W.Fast.tw12029348785167513726 : Unit := ()
def PySem.W.Fast.tw11268511198198999977 : Unit := ()
def PySem.W.Fast.tw10652945589395233928 : Unit := ()
def PySem.W.Fast.tw12752185216655174840 : Unit := ()
def PySem.W.Fast.tw15800832792537983192 : Unit := ()
def PySem.W.Fast.tw5672324067632612370 : Unit := ()
def PySem.W.Fast.tw9538106221553233295 : Unit := ()
def PySem.W.Fast.tw3733510603037159528 : Unit := ()
def PySem.W.Fast.tw3263773920615863788 : Unit := ()
def PySem.W.Fast.tw16601959435007431756 : Unit := ()
def PySem.W.Fast.tw3843506266691403733 : Unit := ()
def PySem.W.Fast.tw12232592236900352763 : Unit := ()
def PySem.W.Fast.tw413949572591398162 : Unit := ()
def PySem.W.Fast.tw16618665132429487111 : Unit := ()
def PySem.W.Fast.tw10474990121326863743 : Unit := ()
def PySem.W.Fast.tw14769194474744205890 : Unit := ()
def PySem.W.Fast.tw10980343899927129740 : Unit := ()
def PySem.W.Fast.tw11406764262073743937 : Unit := ()
def PySem.W.Fast.tw15904994807500017926 : Unit := ()
def PySem.W.Fast.tw12982687654184066245 : Unit := ()
def PySem.W.Fast.tw13066165943055573946 : Unit := ()
def PySem.W.Fast.tw2434445001407088688 : Unit := ()
def PySem.W.Fast.tw10268764582223699732 : Unit := ()
def PySem.W.Fast.tw12547373909465511066 : Unit := ()
def PySem.W.Fast.tw14889587291581729949 : Unit := ()
def PySem.W.Fast.tw6799007923124070873 : Unit := ()
def PySem.W.Fast.tw12085566648084984645 : Unit := ()
def PySem.W.Fast.tw8139613888849467177 : Unit := ()
def PySem.W.Fast.tw5476401986211631907 : Unit := ()
def PySem.W.Fast.tw1361439642914968765 : Unit := ()
def PySem.W.Fast.tw14619818373597009594 : Unit := ()
def PySem.W.Fast.tw507760994538268093 : Unit := ()
def PySem.W.Fast.tw6720515657050502211 : Unit := ()
def PySem.W.Fast.tw8437895533958607052 : Unit := ()
def PySem.W.Fast.tw14691397670185028373 : Unit := ()
def PySem.W.Fast.tw8594913681251748927 : Unit := ()
def PySem.W.Fast.tw12264549221630859309 : Unit := ()
def PySem.W.Fast.tw2308353103764041018 : Unit := ()
def PySem.W.Fast.tw7252546030939557302 : Unit := ()
def PySem.W.Fast.tw1817828528675410946 : Unit := ()
def PySem.W.Fast.tw6474670121793454808 : Unit := ()
def PySem.W.Fast.tw9305055436226455189 : Unit := ()
def PySem.W.Fast.tw18078449832401396859 : Unit := ()
def PySem.W.Fast.tw3401846223607205836 : Unit := ()
def PySem.W.Fast.tw12824788611077882045 : Unit := ()
def PySem.W.Fast.tw13632162519429603330 : Unit := ()
def PySem.W.Fast.tw11185298927197016108 : Unit := ()
def PySem.W.Fast.tw13124000464316585667 : Unit := ()
def PySem.W.Fast.tw5214808430484223625 : Unit := ()
def PySem.W.Fast.tw6515823629666207302 : Unit := ()
def PySem.W.Fast.tw12757846065284103407 : Unit := ()
def PySem.W.Fast.tw14916387862746140382 : Unit := ()
def PySem.W.Fast.tw16446507585083491492 : Unit := ()
def PySem.W.Fast.tw10811812941785503828 : Unit := ()
def PySem.W.Fast.tw11136294964646708289 : Unit := ()
def PySem.W.Fast.tw3578722519933574628 : Unit := ()
def PySem.W.Fast.tw2180267263094091930 : Unit := ()
def PySem.W.Fast.tw6011908518461455540 : Unit := ()
def PySem.W.Fast.tw8677739223798783335 : Unit := ()
def PySem.W.Fast.tw15025611784032520358 : Unit := ()
def PySem.W.Fast.tw1126074923094680443 : Unit := ()
def PySem.W.Fast.tw16000762143799444288 : Unit := ()
def PySem.W.Fast.tw16517018148272299859 : Unit := ()
def PySem.W.Fast.tw4873293685254352381 : Unit := ()
def PySem.W.Fast.tw2309437813819275676 : Unit := ()
def PySem.W.Fast.tw10551042963109403952 : Unit := ()
def PySem.W.Fast.tw12197394956515973162 : Unit := ()
def PySem.W.Fast.tw17224814270083900856 : Unit := ()
def PySem.W.Fast.tw4125062834464792171 : Unit := ()
def PySem.W.Fast.tw1743111116869259054 : Unit := ()
def PySem.W.Fast.tw5734358825451511683 : Unit := ()
def PySem.W.Fast.tw1898730703357421655 : Unit := ()
def PySem.W.Fast.tw15782386539295907629 : Unit := ()
def PySem.W.Fast.tw3183589507388738090 : Unit := ()
def PySem.W.Fast.tw1346048993990734640 : Unit := ()
def PySem.W.Fast.tw6917848643829784013 : Unit := ()
def PySem.W.Fast.tw4787431532882580354 : Unit := ()
def PySem.W.Fast.tw11441127499212595889 : Unit := ()
def PySem.W.Fast.tw10146016804456041453 : Unit := ()
def PySem.W.Fast.tw5220168058130399735 : Unit := ()
def PySem.W.Fast.tw8007809911220829050 : Unit := ()
def PySem.W.Fast.tw16375157105126400431 : Unit := ()
def PySem.W.Fast.tw17825708823952741277 : Unit := ()
def PySem.W.Fast.tw10634089576811347345 : Unit := ()
def PySem.W.Fast.tw2624861487146297484 : Unit := ()
def PySem.W.Fast.tw7163568597975981995 : Unit := ()
def PySem.W.Fast.tw7156581973118922702 : Unit := ()
def PySem.W.Fast.tw9553776337363471159 : Unit := ()
def PySem.W.Fast.tw10830719559156458906 : Unit := ()
def PySem.W.Fast.tw1673757403584290087 : Unit := ()
def PySem.W.Fast.tw1092772636304593537 : Unit := ()
def PySem.W.Fast.tw4197193990900598174 : Unit := ()
def PySem.W.Fast.tw16386222915539889077 : Unit := ()
def PySem.W.Fast.tw16474026004034384488 : Unit := ()
def PySem.W.Fast.tw13245931839099918246 : Unit := ()
def PySem.W.Fast.tw11761604032967367947 : Unit := ()
def PySem.W.Fast.tw6639078868204048173 : Unit := ()
def PySem.W.Fast.tw17934045015245866236 : Unit := ()
def PySem.W.Fast.tw14047081088196851678 : Unit := ()
def PySem.W.Fast.tw15695547372455738922 : Unit := ()
def PySem.W.Fast.tw13947672325568842236 : Unit := ()
def PySem.W.Fast.tw7939673165872270458 : Unit := ()
def PySem.W.Fast.tw4884204971274632382 : Unit := ()
def PySem.W.Fast.tw4617262058452638710 : Unit := ()
def PySem.W.Fast.tw16200880009528457282 : Unit := ()
def PySem.W.Fast.tw6405405013602915900 : Unit := ()
def PySem.W.Fast.tw4680365937626955688 : Unit := ()
def PySem.W.Fast.tw8068978077370416216 : Unit := ()
def PySem.W.Fast.tw12764463426911693506 : Unit := ()
def PySem.W.Fast.tw10888085382205484495 : Unit := ()
def PySem.W.Fast.tw11461365249594105457 : Unit := ()
def PySem.W.Fast.tw6090780838969460391 : Unit := ()
def PySem.W.Fast.tw1389798154614943300 : Unit := ()
def PySem.W.Fast.tw513772400494620388 : Unit := ()
def PySem.W.Fast.tw1466273207259097024 : Unit := ()
def PySem.W.Fast.tw5113075912693290574 : Unit := ()
def PySem.W.Fast.tw17215214317928480222 : Unit := ()
def PySem.W.Fast.tw14219735277478686897 : Unit := ()
def PySem.W.Fast.tw7417197689470255667 : Unit := ()
def PySem.W.Fast.tw9131971100361125872 : Unit := ()
def PySem.W.Fast.tw5752838735379668604 : Unit := ()
def PySem.W.Fast.tw8830074581288024113 : Unit := ()
def PySem.W.Fast.tw3242818012340515643 : Unit := ()
def PySem.W.Fast.tw8781058197024513331 : Unit := ()
def PySem.W.Fast.tw4631277333310934884 : Unit := ()
def PySem.W.Fast.tw10257327050485670108 : Unit := ()
def PySem.W.Fast.tw7444858356300036726 : Unit := ()
def PySem.W.Fast.tw9325457397975922975 : Unit := ()
def PySem.W.Fast.tw9549679082967831779 : Unit := ()
def PySem.W.Fast.tw2529700653455557745 : Unit := ()
def PySem.W.Fast.tw418544823595991862 : Unit := ()
def PySem.W.Fast.tw10615249893106621635 : Unit := ()
def PySem.W.Fast.tw9858480132731488788 : Unit := ()
def PySem.W.Fast.tw16538073664813603124 : Unit := ()
def PySem.W.Fast.tw14737863571338960665 : Unit := ()
def PySem.W.Fast.tw585773223466198325 : Unit := ()
def PySem.W.Fast.tw5998731705851928416 : Unit := ()
def PySem.W.Fast.tw783485100275116267 : Unit := ()
def PySem.W.Fast.tw14131428858384483899 : Unit := ()
def PySem.W.Fast.tw3044242158191422826 : Unit := ()
def PySem.W.Fast.tw2123261489276158408 : Unit := ()
def PySem.W.Fast.tw108160242884038437 : Unit := ()
def PySem.W.Fast.tw12151612529956859069 : Unit := ()
def PySem.W.Fast.tw11685510451256021604 : Unit := ()
def PySem.W.Fast.tw15872046458052799565 : Unit := ()
def PySem.W.Fast.tw4443275702146119105 : Unit := ()
def PySem.W.Fast.tw10868021901693018888 : Unit := ()
def PySem.W.Fast.tw8460535509777047109 : Unit := ()
def PySem.W.Fast.tw10530513400256047149 : Unit := ()
def PySem.W.Fast.tw2001263208334768893 : Unit := ()
def PySem.W.Fast.tw3681262391966124939 : Unit := ()
def PySem.W.Fast.tw17080935675699913247 : Unit := ()
def PySem.W.Fast.tw7385314509296007287 : Unit := ()
def PySem.W.Fast.tw3306547358124838776 : Unit := ()
def PySem.W.Fast.tw7954064854975931813 : Unit := ()
def PySem.W.Fast.tw4605437312866417637 : Unit := ()
def PySem.W.Fast.tw13320021120983682333 : Unit := ()
def PySem.W.Fast.tw14097557565543736756 : Unit := ()
def PySem.W.Fast.tw9342296369632481998 : Unit := ()
def PySem.W.Fast.tw4176921460682528219 : Unit := ()
def PySem.W.Fast.tw7296647243421439301 : Unit := ()
def PySem.W.Fast.tw4767757439192532866 : Unit := ()
def PySem.W.Fast.tw995155900225038961 : Unit := ()
def PySem.W.Fast.tw435552407249203563 : Unit := ()
def PySem.W.Fast.tw17851581523140722651 : Unit := ()
def PySem.W.Fast.tw2458157590959657908 : Unit := ()
def PySem.W.Fast.tw2514621589469867054 : Unit := ()
def PySem.W.Fast.tw13474018997069019808 : Unit := ()
def PySem.W.Fast.tw6981671578814337095 : Unit := ()
def PySem.W.Fast.tw749854719417730240 : Unit := ()
def PySem.W.Fast.tw16948248287016018081 : Unit := ()
def PySem.W.Fast.tw1140207040273478689 : Unit := ()
def PySem.W.Fast.tw7003636255030712943 : Unit := ()
def PySem.W.Fast.tw4444106582638147684 : Unit := ()
def PySem.W.Fast.tw4157628543323638344 : Unit := ()
def PySem.W.Fast.tw15710201389859687260 : Unit := ()
def PySem.W.Fast.tw9100942085409810729 : Unit := ()
def PySem.W.Fast.tw739222432841672783 : Unit := ()
def PySem.W.Fast.tw7883900067455281557 : Unit := ()
def PySem.W.Fast.tw16317656237519958264 : Unit := ()
def PySem.W.Fast.tw5955710524767057945 : Unit := ()
def PySem.W.Fast.tw8602997995067991104 : Unit := ()
def PySem.W.Fast.tw161419956473479932 : Unit := ()
def PySem.W.Fast.tw2148297243525006588 : Unit := ()
def PySem.W.Fast.tw555277714681034099 : Unit := ()
def PySem.W.Fast.tw16110920426727239231 : Unit := ()
def PySem.W.Fast.tw6468305886767128731 : Unit := ()
def PySem.W.Fast.tw18309320230447427461 : Unit := ()
def PySem.W.Fast.tw5036018894132433943 : Unit := ()
def PySem.W.Fast.tw2672049780962843549 : Unit := ()
def PySem.W.Fast.tw16277059709879077777 : Unit := ()
def PySem.W.Fast.tw516686329126918006 : Unit := ()
def PySem.W.Fast.tw14812084166410477748 : Unit := ()
def PySem.W.Fast.tw15567627859664902652 : Unit := ()
def PySem.W.Fast.tw1823046044222689592 : Unit := ()
def PySem.W.Fast.tw1901262893187186223 : Unit := ()
def PySem.W.Fast.tw10241143345987164460 : Unit := ()
def PySem.W.Fast.tw3926676395171172635 : Unit := ()
def PySem.W.Fast.tw9121943497629764529 : Unit := ()
def PySem.W.Fast.tw14244279057734709391 : Unit := ()
def PySem.W.Fast.tw2632540567559605544 : Unit := ()
def PySem.W.Fast.tw2323419436386402658 : Unit := ()
def PySem.W.Fast.tw6768304786210167108 : Unit := ()
def PySem.W.Fast.tw15518073772540388700 : Unit := ()
def PySem.W.Fast.tw8487799265381626629 : Unit := ()
def PySem.W.Fast.tw1297713305419907202 : Unit := ()
def PySem.W.Fast.tw9289686125412921178 : Unit := ()
def PySem.W.Fast.tw13707700634456353312 : Unit := ()
def PySem.W.Fast.tw5311356373130711162 : Unit := ()
def PySem.W.Fast.tw14459791647693061404 : Unit := ()
def PySem.W.Fast.tw4496169188582483177 : Unit := ()
def PySem.W.Fast.tw9086296284703585667 : Unit := ()
def PySem.W.Fast.tw12764964715559939914 : Unit := ()
def PySem.W.Fast.tw9187233668495572919 : Unit := ()
def PySem.W.Fast.tw481535450161772075 : Unit := ()
def PySem.W.Fast.tw406694352865700722 : Unit := ()
def PySem.W.Fast.tw47892777567558196 : Unit := ()
def PySem.W.Fast.tw16623499050822740405 : Unit := ()
def PySem.W.Fast.tw18042362661966217677 : Unit := ()
def PySem.W.Fast.tw11614674971659270314 : Unit := ()
def PySem.W.Fast.tw6444430052881506142 : Unit := ()
def PySem.W.Fast.tw2691579437370987523 : Unit := ()
def PySem.W.Fast.tw8647579306430894233 : Unit := ()
def PySem.W.Fast.tw16125178065459624925 : Unit := ()
def PySem.W.Fast.tw2531291823333740721 : Unit := ()
def PySem.W.Fast.tw1212224471622061823 : Unit := ()
def PySem.W.Fast.tw7039418195266305701 : Unit := ()
def PySem.W.Fast.tw13133528590336454161 : Unit := ()
def PySem.W.Fast.tw16921688246941117585 : Unit := ()
def PySem.W.Fast.tw6985082397845480983 : Unit := ()
def PySem.W.Fast.tw339706124960105797 : Unit := ()
def PySem.W.Fast.tw16051305396346773180 : Unit := ()
def PySem.W.Fast.tw4635653719960249638 : Unit := ()
def PySem.W.Fast.tw15953405541491763371 : Unit := ()
def PySem.W.Fast.tw714267461866329492 : Unit := ()
def PySem.W.Fast.tw5214141544954133142 : Unit := ()
def PySem.W.Fast.tw10960520212677139432 : Unit := ()
def PySem.W.Fast.tw15211988116469160093 : Unit := ()
def PySem.W.Fast.tw811102344254161527 : Unit := ()
def PySem.W.Fast.tw2150038481080286521 : Unit := ()
def PySem.W.Fast.tw5812957989662697635 : Unit := ()
def PySem.W.Fast.tw4848598055048243399 : Unit := ()
def PySem.W.Fast.tw5230367239150396380 : Unit := ()
def PySem.W.Fast.tw2830096027780407694 : Unit := ()
def PySem.W.Fast.tw14317773257028149998 : Unit := ()
def PySem.W.Fast.tw10229774750296669832 : Unit := ()
def PySem.W.Fast.tw14396872295526240120 : Unit := ()
def PySem.W.Fast.tw1663125918825808856 : Unit := ()
def PySem.W.Fast.tw3682008626923736052 : Unit := ()
def PySem.W.Fast.tw3477016672320358523 : Unit := ()
def PySem.W.Fast.tw9386255592241238287 : Unit := ()
def PySem.W.Fast.tw2869367050609516232 : Unit := ()
def PySem.W.Fast.tw13126420414652868212 : Unit := ()
def PySem.W.Fast.tw7841420700576375373 : Unit := ()
def PySem.W.Fast.tw7550944337356207435 : Unit := ()
def PySem.W.Fast.tw4969875561419397922 : Unit := ()
def PySem.W.Fast.tw1652632238606899856 : Unit := ()
def PySem.W.Fast.tw2303033243245945614 : Unit := ()
def PySem.W.Fast.tw2485381067542693890 : Unit := ()
def PySem.W.Fast.tw12770408249918014875 : Unit := ()
def PySem.W.Fast.tw17107891815616611548 : Unit := ()
def PySem.W.Fast.tw15673861159295075324 : Unit := ()
def PySem.W.Fast.tw7518656794311946245 : Unit := ()
def PySem.W.Fast.tw14768064090433669147 : Unit := ()
def PySem.W.Fast.tw3482991791992169670 : Unit := ()
def PySem.W.Fast.tw13224302551480264400 : Unit := ()
def PySem.W.Fast.tw18437316110911451909 : Unit := ()
def PySem.W.Fast.tw3947910618585631939 : Unit := ()
def PySem.W.Fast.tw12223462106738900933 : Unit := ()
def PySem.W.Fast.tw16077222343488757445 : Unit := ()
def PySem.W.Fast.tw3819969649451395263 : Unit := ()
def PySem.W.Fast.tw12678371210670304357 : Unit := ()
def PySem.W.Fast.tw12519218545915339337 : Unit := ()
def PySem.W.Fast.tw12387223999469954319 : Unit := ()
def PySem.W.Fast.tw6168649045669401561 : Unit := ()
def PySem.W.Fast.tw13949064868936793856 : Unit := ()
def PySem.W.Fast.tw15530847998369480006 : Unit := ()
def PySem.W.Fast.tw2372577155541290060 : Unit := ()
def PySem.W.Fast.tw762910973914950839 : Unit := ()
def PySem.W.Fast.tw8294185367620733358 : Unit := ()
def PySem.W.Fast.tw11415893173492208149 : Unit := ()
def PySem.W.Fast.tw9223567415353014146 : Unit := ()
def PySem.W.Fast.tw1121822015659283010 : Unit := ()
def PySem.W.Fast.tw747019651904327662 : Unit := ()
def PySem.W.Fast.tw9029556593462045291 : Unit := ()
def PySem.W.Fast.tw17559035716841037043 : Unit := ()
def PySem.W.Fast.tw49636041581011318 : Unit := ()
def PySem.W.Fast.tw237103372957733256 : Unit := ()
def PySem.W.Fast.tw12627513712932365996 : Unit := ()
def PySem.W.Fast.tw8868530177465670446 : Unit := ()
def PySem.W.Fast.tw14713803702117442960 : Unit := ()
def PySem.W.Fast.tw9729062270922175574 : Unit := ()
def PySem.W.Fast.tw4080050613535053593 : Unit := ()
def PySem.W.Fast.tw7844899558004992149 : Unit := ()
def PySem.W.Fast.tw14746937067710453313 : Unit := ()
def PySem.W.Fast.tw3859750424801511062 : Unit := ()
def PySem.W.Fast.tw2092139027069055716 : Unit := ()
def PySem.W.Fast.tw3896694913668549228 : Unit := ()
def PySem.W.Fast.tw9298905478825578343 : Unit := ()
def PySem.W.Fast.tw15113693019929173813 : Unit := ()
def PySem.W.Fast.tw5603166870823596299 : Unit := ()
def PySem.W.Fast.tw4431704201781258841 : Unit := ()
def PySem.W.Fast.tw13802636399222637722 : Unit := ()
def PySem.W.Fast.tw11775651416529681788 : Unit := ()
def PySem.W.Fast.tw10668521946958495709 : Unit := ()
def PySem.W.Fast.tw12488906577878073771 : Unit := ()
def PySem.W.Fast.tw5571277595224274334 : Unit := ()
def PySem.W.Fast.tw4476228873886191976 : Unit := ()
def PySem.W.Fast.tw11063678564469157053 : Unit := ()
def PySem.W.Fast.tw10936807026378289388 : Unit := ()
def PySem.W.Fast.tw13880858748220878471 : Unit := ()
def PySem.W.Fast.tw3564007019025229590 : Unit := ()
def PySem.W.Fast.tw13660037563606523805 : Unit := ()
def PySem.W.Fast.tw5074064933033618758 : Unit := ()
def PySem.W.Fast.tw3443416616803008554 : Unit := ()
def PySem.W.Fast.tw14776358788299354822 : Unit := ()
def PySem.W.Fast.tw10493357577991820822 : Unit := ()
def PySem.W.Fast.tw10815003620013073126 : Unit := ()
def PySem.W.Fast.tw2651438777029123716 : Unit := ()
def PySem.W.Fast.tw3665270219472859050 : Unit := ()
def PySem.W.Fast.tw15706219488657880015 : Unit := ()
def PySem.W.Fast.tw1438008720538831343 : Unit := ()
def PySem.W.Fast.tw5788109175883653432 : Unit := ()
def PySem.W.Fast.tw2586759373607735092 : Unit := ()
def PySem.W.Fast.tw17029979297374123849 : Unit := ()
def PySem.W.Fast.tw701057967094618043 : Unit := ()
def PySem.W.Fast.tw8793441705678759965 : Unit := ()
def PySem.W.Fast.tw17011552891839070472 : Unit := ()
def PySem.W.Fast.tw6646051951716378786 : Unit := ()
def PySem.W.Fast.tw10256089337623444021 : Unit := ()
def PySem.W.Fast.tw10726919198290380261 : Unit := ()
def PySem.W.Fast.tw3524891881228841762 : Unit := ()
def PySem.W.Fast.tw17394951016786741564 : Unit := ()
def PySem.W.Fast.tw5289281682756031549 : Unit := ()
def PySem.W.Fast.tw2583776944151675286 : Unit := ()
def PySem.W.Fast.tw16373723382611107999 : Unit := ()
def PySem.W.Fast.tw271070412064063789 : Unit := ()
def PySem.W.Fast.tw13006691442361302440 : Unit := ()
def PySem.W.Fast.tw6186159569352828538 : Unit := ()
def PySem.W.Fast.tw3861876549001254917 : Unit := ()
def PySem.W.Fast.tw17566488838472487812 : Unit := ()
def PySem.W.Fast.tw15884764215824444392 : Unit := ()
def PySem.W.Fast.tw7307092714043511683 : Unit := ()
def PySem.W.Fast.tw1759438552738518133 : Unit := ()
def PySem.W.Fast.tw8445649826455657700 : Unit := ()
def PySem.W.Fast.tw13706772518866010938 : Unit := ()
def PySem.W.Fast.tw6098061316187945024 : Unit := ()
def PySem.W.Fast.tw5755534757659863210 : Unit := ()
def PySem.W.Fast.tw8782510879784016193 : Unit := ()
def PySem.W.Fast.tw10762723812366589576 : Unit := ()
def PySem.W.Fast.tw2853548917906074689 : Unit := ()
def PySem.W.Fast.tw18442356107920855583 : Unit := ()
def PySem.W.Fast.tw11442778597028723987 : Unit := ()
def PySem.W.Fast.tw17274087458968436383 : Unit := ()
def PySem.W.Fast.tw10368566294903736256 : Unit := ()
def PySem.W.Fast.tw10733537219324524374 : Unit := ()
def PySem.W.Fast.tw17080164298481521928 : Unit := ()
def PySem.W.Fast.tw11561674070758519978 : Unit := ()
def PySem.W.Fast.tw12445860401223799549 : Unit := ()
def PySem.W.Fast.tw10741734745445485306 : Unit := ()
def PySem.W.Fast.tw13178700487616770435 : Unit := ()
def PySem.W.Fast.tw17089477725266329541 : Unit := ()
def PySem.W.Fast.tw3788257518262505388 : Unit := ()
def PySem.W.Fast.tw12508761208718400710 : Unit := ()
def PySem.W.Fast.tw5183414800304607112 : Unit := ()
def PySem.W.Fast.tw329931132627982833 : Unit := ()
def PySem.W.Fast.tw444086450154405657 : Unit := ()
def PySem.W.Fast.tw8545142617563862595 : Unit := ()
def PySem.W.Fast.tw1927778149380672875 : Unit := ()
def PySem.W.Fast.tw179995790694116429 : Unit := ()
def PySem.W.Fast.tw775018642055349703 : Unit := ()
def PySem.W.Fast.tw6578333868362687049 : Unit := ()
def PySem.W.Fast.tw9772080773645881337 : Unit := ()
def PySem.W.Fast.tw7281843400348283733 : Unit := ()
def PySem.W.Fast.tw553217381470671837 : Unit := ()
def PySem.W.Fast.tw13826008984471967980 : Unit := ()
def PySem.W.Fast.tw18140226145880478349 : Unit := ()
def PySem.W.Fast.tw8817853792743260029 : Unit := ()
def PySem.W.Fast.tw8531396373420247688 : Unit := ()
def PySem.W.Fast.tw10722951330770402345 : Unit := ()
def PySem.W.Fast.tw2640223672349935036 : Unit := ()
def PySem.W.Fast.tw5164680750293297891 : Unit := ()
def PySem.W.Fast.tw17874506425649581105 : Unit := ()
def PySem.W.Fast.tw10264764552425427002 : Unit := ()
def PySem.W.Fast.tw12340826223370248998 : Unit := ()
def PySem.W.Fast.tw7236532924111884266 : Unit := ()
def PySem.W.Fast.tw12578638996109333991 : Unit := ()
def PySem.W.Fast.tw12389478615532977497 : Unit := ()
def PySem.W.Fast.tw11813488706777412138 : Unit := ()
def PySem.W.Fast.tw12040691343597395353 : Unit := ()
def PySem.W.Fast.tw7217015789522798932 : Unit := ()
def PySem.W.Fast.tw8009033576856372635 : Unit := ()
def PySem.W.Fast.tw17545131103945724320 : Unit := ()
def PySem.W.Fast.tw12767844022214553383 : Unit := ()
def PySem.W.Fast.tw11456608338621983373 : Unit := ()
def PySem.W.Fast.tw14505863545197589081 : Unit := ()
def PySem.W.Fast.tw5452472365212329146 : Unit := ()
def PySem.W.Fast.tw4491500401004648381 : Unit := ()
def PySem.W.Fast.tw1268300958266683534 : Unit := ()
def PySem.W.Fast.tw14822965202309964633 : Unit := ()
def PySem.W.Fast.tw9097109967405751015 : Unit := ()
def PySem.W.Fast.tw11943225521205641968 : Unit := ()
def PySem.W.Fast.tw8399962923712672240 : Unit := ()
def PySem.W.Fast.tw13561464845067672620 : Unit := ()
def PySem.W.Fast.tw15288248258230287015 : Unit := ()
def PySem.W.Fast.tw8101661396081549459 : Unit := ()
def PySem.W.Fast.tw3519713021227972943 : Unit := ()
def PySem.W.Fast.tw14751345189431806378 : Unit := ()
def PySem.W.Fast.tw539768531406814222 : Unit := ()
def PySem.W.Fast.tw9457178017659874422 : Unit := ()
def PySem.W.Fast.tw3409618758196498257 : Unit := ()
def PySem.W.Fast.tw11083619527872745850 : Unit := ()
def PySem.W.Fast.tw13643172143313041645 : Unit := ()
def PySem.W.Fast.tw14313328908968231472 : Unit := ()
def PySem.W.Fast.tw3818875087852604909 : Unit := ()
def PySem.W.Fast.tw6854581172263880822 : Unit := ()
def PySem.W.Fast.tw8406584234796700151 : Unit := ()
def PySem.W.Fast.tw15544904773699464249 : Unit := ()
def PySem.W.Fast.tw3691548583837251443 : Unit := ()
def PySem.W.Fast.tw13667285253335627091 : Unit := ()
def PySem.W.Fast.tw26842495319594293 : Unit := ()
def PySem.W.Fast.tw708387108067994116 : Unit := ()
def PySem.W.Fast.tw7649888717790163264 : Unit := ()
def PySem.W.Fast.tw17867612182961088412 : Unit := ()
def PySem.W.Fast.tw10582809731068422492 : Unit := ()
def PySem.W.Fast.tw11863984987665862848 : Unit := ()
def PySem.W.Fast.tw6853367465053215319 : Unit := ()
def PySem.W.Fast.tw607742438379163947 : Unit := ()
def PySem.W.Fast.tw13875069073248540440 : Unit := ()
def PySem.W.Fast.tw410320712411082594 : Unit := ()
def PySem.W.Fast.tw6203744126038236054 : Unit := ()
def PySem.W.Fast.tw16108115668957482051 : Unit := ()
def PySem.W.Fast.tw5950427937095793713 : Unit := ()
def PySem.W.Fast.tw18070041133176843608 : Unit := ()
def PySem.W.Fast.tw6760022113600845884 : Unit := ()
def PySem.W.Fast.tw12736258375159812710 : Unit := ()
def PySem.W.Fast.tw15942925417980084282 : Unit := ()
def PySem.W.Fast.tw1314380285622031860 : Unit := ()
def PySem.W.Fast.tw861633908531386442 : Unit := ()
def PySem.W.Fast.tw15991181969019313445 : Unit := ()
def PySem.W.Fast.tw16126678969688022390 : Unit := ()
def PySem.W.Fast.tw13525165047774269770 : Unit := ()
def PySem.W.Fast.tw12678228796151024656 : Unit := ()
def PySem.W.Fast.tw8469524044123380476 : Unit := ()
def PySem.W.Fast.tw15902853514685897832 : Unit := ()
def PySem.W.Fast.tw1332395784516671732 : Unit := ()
def PySem.W.Fast.tw3369250431008384876 : Unit := ()
def PySem.W.Fast.tw8862351581234749704 : Unit := ()
def PySem.W.Fast.tw13093687772476925240 : Unit := ()
def PySem.W.Fast.tw4377704709572550036 : Unit := ()
def PySem.W.Fast.tw7293107513420874326 : Unit := ()
def PySem.W.Fast.tw10516625101213978244 : Unit := ()
def PySem.W.Fast.tw7845505196348516264 : Unit := ()
def PySem.W.Fast.tw17645973822957764972 : Unit := ()
def PySem.W.Fast.tw11860177096375663534 : Unit := ()
def PySem.W.Fast.tw11962518001038891642 : Unit := ()
def PySem.W.Fast.tw5837123960405032111 : Unit := ()
def PySem.W.Fast.tw9194012306174970377 : Unit := ()
def PySem.W.Fast.tw16994702526766670066 : Unit := ()
def PySem.W.Fast.tw10348429505309099465 : Unit := ()
def PySem.W.Fast.tw5822603408453976612 : Unit := ()
def PySem.W.Fast.tw6592597665530627843 : Unit := ()
def PySem.W.Fast.tw3142281796617725668 : Unit := ()
def PySem.W.Fast.tw12371242654169022614 : Unit := ()
def PySem.W.Fast.tw15768293243564864241 : Unit := ()
def PySem.W.Fast.tw9576848340168577575 : Unit := ()
def PySem.W.Fast.tw9572812445195908130 : Unit := ()
def PySem.W.Fast.tw1492758973620285026 : Unit := ()
def PySem.W.Fast.tw2927898630006590112 : Unit := ()
def PySem.W.Fast.tw6093628354264390006 : Unit := ()
def PySem.W.Fast.tw8883307237425309332 : Unit := ()
def PySem.W.Fast.tw11751740840794402779 : Unit := ()
def PySem.W.Fast.tw5116248327356280595 : Unit := ()
def PySem.W.Fast.tw7523047848782440845 : Unit := ()
def PySem.W.Fast.tw8988190065937906414 : Unit := ()
def PySem.W.Fast.tw14388872440563281580 : Unit := ()
def PySem.W.Fast.tw1046025861608810053 : Unit := ()
def PySem.W.Fast.tw3594872441782793870 : Unit := ()
def PySem.W.Fast.tw10837691609221495618 : Unit := ()
def PySem.W.Fast.tw15056118239872956503 : Unit := ()
def PySem.W.Fast.tw1814561870932644168 : Unit := ()
def PySem.W.Fast.tw12778050411342845432 : Unit := ()
def PySem.W.Fast.tw11416575528902436915 : Unit := ()
def PySem.W.Fast.tw17616684254473465749 : Unit := ()
def PySem.W.Fast.tw12982108712218925941 : Unit := ()
def PySem.W.Fast.tw4191669560086375320 : Unit := ()
def PySem.W.Fast.tw3380284802737972008 : Unit := ()
def PySem.W.Fast.tw3828798959124675739 : Unit := ()
def PySem.W.Fast.tw1011721055636863533 : Unit := ()
def PySem.W.Fast.tw15686416679064240913 : Unit := ()
def PySem.W.Fast.tw5939478098330192880 : Unit := ()
def PySem.W.Fast.tw11130328784688366354 : Unit := ()
def PySem.W.Fast.tw6929067369431668459 : Unit := ()
def PySem.W.Fast.tw4316782533141417162 : Unit := ()
def PySem.W.Fast.tw11459711907670559544 : Unit := ()
def PySem.W.Fast.tw3434211821866883009 : Unit := ()
def PySem.W.Fast.tw5104229660970867576 : Unit := ()
def PySem.W.Fast.tw2283506164465149769 : Unit := ()
def PySem.W.Fast.tw11803779704058234883 : Unit := ()
def PySem.W.Fast.tw16743315560915831893 : Unit := ()
def PySem.W.Fast.tw8168356947080811185 : Unit := ()
def PySem.W.Fast.tw15351138805468669781 : Unit := ()
def PySem.W.Fast.tw10613099162896578255 : Unit := ()
def PySem.W.Fast.tw17631796015637068737 : Unit := ()
def PySem.W.Fast.tw15437517012448647384 : Unit := ()
def PySem.W.Fast.tw14490784777718544780 : Unit := ()
def PySem.W.Fast.tw14125013474469920041 : Unit := ()
def PySem.W.Fast.tw14745535193635813854 : Unit := ()
def PySem.W.Fast.tw9002849126396370158 : Unit := ()
def PySem.W.Fast.tw8890384130070375909 : Unit := ()
def PySem.W.Fast.tw6301646050660673605 : Unit := ()
def PySem.W.Fast.tw11333173907531651752 : Unit := ()
def PySem.W.Fast.tw36585316685571022 : Unit := ()
def PySem.W.Fast.tw15129133686557331878 : Unit := ()
def PySem.W.Fast.tw13405989033767225105 : Unit := ()
def PySem.W.Fast.tw907391226700509332 : Unit := ()
def PySem.W.Fast.tw3401189442656575330 : Unit := ()
def PySem.W.Fast.tw18305981851151684792 : Unit := ()
def PySem.W.Fast.tw7386544722764294173 : Unit := ()
def PySem.W.Fast.tw427654236944369116 : Unit := ()
def PySem.W.Fast.tw11895796719648968875 : Unit := ()
def PySem.W.Fast.tw14574927823593065910 : Unit := ()
def PySem.W.Fast.tw12244298841909512805 : Unit := ()
def PySem.W.Fast.tw15121781461950891890 : Unit := ()
def PySem.W.Fast.tw5358093864616737053 : Unit := ()
def PySem.W.Fast.tw4126492968546146795 : Unit := ()
def PySem.W.Fast.tw17483601528350112633 : Unit := ()
def PySem.W.Fast.tw10749138278394565927 : Unit := ()
def PySem.W.Fast.tw16619615276466525375 : Unit := ()
def PySem.W.Fast.tw13837196686355241010 : Unit := ()
def PySem.W.Fast.tw6328554379367511826 : Unit := ()
def PySem.W.Fast.tw1704637285474204551 : Unit := ()
def PySem.W.Fast.tw12203373365781533538 : Unit := ()
def PySem.W.Fast.tw17910442252219764358 : Unit := ()
def PySem.W.Fast.tw5220411201414624047 : Unit := ()
def PySem.W.Fast.tw823280124499237343 : Unit := ()
def PySem.W.Fast.tw15275595292589561771 : Unit := ()
def PySem.W.Fast.tw642124762651805830 : Unit := ()
def PySem.W.Fast.tw13772941783827227480 : Unit := ()
def PySem.W.Fast.tw18246601601118377616 : Unit := ()
def PySem.W.Fast.tw17900053127326693672 : Unit := ()
def PySem.W.Fast.tw10608602984020679494 : Unit := ()
def PySem.W.Fast.tw4505457258741133389 : Unit := ()
def PySem.W.Fast.tw9322812329497576725 : Unit := ()
def PySem.W.Fast.tw9232200607673701795 : Unit := ()
def PySem.W.Fast.tw15077559606085557280 : Unit := ()
def PySem.W.Fast.tw14295633616462658139 : Unit := ()
def PySem.W.Fast.tw17052207024901412068 : Unit := ()
def PySem.W.Fast.tw13570744101873591899 : Unit := ()
def PySem.W.Fast.tw4015854721961284081 : Unit := ()
def PySem.W.Fast.tw6189381725441278142 : Unit := ()
def PySem.W.Fast.tw16180431587254396472 : Unit := ()
def PySem.W.Fast.tw15209449053426926143 : Unit := ()
def PySem.W.Fast.tw10220070820175728375 : Unit := ()
def PySem.W.Fast.tw7475192349609749230 : Unit := ()
def PySem.W.Fast.tw17625746170132687910 : Unit := ()
def PySem.W.Fast.tw10202025630366297664 : Unit := ()
def PySem.W.Fast.tw1461807310478643949 : Unit := ()
def PySem.W.Fast.tw15321379631633169883 : Unit := ()
def PySem.W.Fast.tw15129733089224141209 : Unit := ()
def PySem.W.Fast.tw1100466028107763811 : Unit := ()
def PySem.W.Fast.tw16736946130188669401 : Unit := ()
def PySem.W.Fast.tw17987275247346883261 : Unit := ()
def PySem.W.Fast.tw4731536304882676527 : Unit := ()
def PySem.W.Fast.tw6111840018083557164 : Unit := ()
def PySem.W.Fast.tw17266191695994455829 : Unit := ()
def PySem.W.Fast.tw7646072895070408189 : Unit := ()
def PySem.W.Fast.tw7849750613537036634 : Unit := ()
def PySem.W.Fast.tw2625993928825776885 : Unit := ()
def PySem.W.Fast.tw5068804032148985649 : Unit := ()
def PySem.W.Fast.tw2831380374053325483 : Unit := ()
def PySem.W.Fast.tw15934529490304653677 : Unit := ()
def PySem.W.Fast.tw4554284142460112202 : Unit := ()
def PySem.W.Fast.tw3573061968988718565 : Unit := ()
def PySem.W.Fast.tw12930064794884710419 : Unit := ()
def PySem.W.Fast.tw15748557841504135420 : Unit := ()
def PySem.W.Fast.tw1786817540475184716 : Unit := ()
def PySem.W.Fast.tw2770259795453336466 : Unit := ()
open PySem PySem.W PyProof.Rows
set_option maxRecDepth 100000 in
set_option maxHeartbeats 0 in
theorem PySem.Challenge.cw_rowjudge_k29_tables_refused_holds : PySem.Challenge.rw_rowjudge_k29_tables_refused.Holds := by
  w_on; o_law; k_head; (case hw => w_witness2)
  k_fill
  refine My.walk (l := PySem.Challenge.rw_rowjudge_k29_tables_refused) rfl rfl (fun w h Y => PySem.W.kIn_of Y) ?F
  case F =>
    intro w mg fa h KX G hmg
    refine' My.all_mk KX G hmg ?n_TableError ?n_BadName ?n_TooMany ?n_BadWay ?n_BadRow ?n_Way ?n_First ?n_Only ?n_Like ?n_Low ?n_High ?n_Sum ?n_Domain ?n_Numbers ?n_Words ?n_Table ?a0 ?l0 ?c0 ?k0 ?a1 ?l1 ?c1 ?k1 ?a2 ?l2 ?c2 ?k2 ?a3 ?l3 ?c3 ?k3 ?a4 ?l4 ?c4 ?k4 ?a5 ?l5 ?c5 ?k5 ?a6 ?l6 ?c6 ?k6 ?a7 ?l7 ?c7 ?k7 ?a8 ?l8 ?c8 ?k8 ?a9 ?l9 ?c9 ?k9 ?a10 ?l10 ?c10 ?k10 ?a11 ?l11 ?c11 ?k11 ?a12 ?l12 ?c12 ?k12 ?a13 ?l13 ?c13 ?k13 ?a14 ?l14 ?c14 ?k14 ?a15 ?l15 ?c15 ?k15 ?a16 ?l16 ?c16 ?k16 ?a17 ?l17 ?c17 ?k17 ?a18 ?l18 ?c18 ?k18 ?a19 ?l19 ?c19 ?k19 ?a20 ?l20 ?c20 ?k20 ?a21 ?l21 ?c21 ?k21 ?a22 ?l22 ?c22 ?k22 ?a23 ?l23 ?c23 ?k23 ?a24 ?l24 ?c24 ?k24 ?i25 ?if25 ?im25 ?ik25 ?l25 ?c25 ?k25 ?i26 ?if26 ?im26 ?ik26 ?l26 ?c26 ?k26 ?b_s27 ?b_r27 ?b_a27 ?l27 ?c27 ?k27 ?i28 ?if28 ?im28 ?ik28 ?l28 ?c28 ?k28 ?b_s29 ?b_r29 ?b_a29 ?l29 ?c29 ?k29 ?i30 ?if30 ?im30 ?ik30 ?l30 ?c30 ?k30 ?b_s31 ?b_r31 ?b_a31 ?l31 ?c31 ?k31 ?i32 ?if32 ?im32 ?ik32 ?l32 ?c32 ?k32 ?b_s33 ?b_r33 ?b_a33 ?l33 ?c33 ?k33 ?i34 ?if34 ?im34 ?ik34 ?l34 ?c34 ?k34 ?b_s35 ?b_r35 ?b_a35 ?l35 ?c35 ?k35 ?i36 ?if36 ?im36 ?ik36 ?l36 ?c36 ?k36 ?b_s37 ?b_r37 ?b_a37 ?l37 ?c37 ?k37 ?m38 ?mf38 ?l38 ?c38 ?k38 ?m39 ?mf39 ?l39 ?c39 ?k39 ?i40 ?if40 ?im40 ?ik40 ?l40 ?c40 ?k40 ?b_s41 ?b_r41 ?b_a41 ?l41 ?c41 ?k41 ?i42 ?if42 ?im42 ?ik42 ?l42 ?c42 ?k42 ?b_s43 ?b_r43 ?b_a43 ?l43 ?c43 ?k43 ?a44 ?l44 ?c44 ?k44 ?z0 ?z1 ?z2 ?z3 ?z4 ?z5 ?z6 ?z7 ?z8 ?z9 ?z10 ?z11 ?y0 ?x0 ?y1 ?x1 ?y2 ?x2 ?y3 ?x3 ?y4 ?x4 ?x_BadName ?l0_BadName ?l1_BadName ?l2_BadName ?l3_BadName ?l4_BadName ?l5_BadName ?l6_BadName ?l7_BadName ?x_TooMany ?l0_TooMany ?l1_TooMany ?l2_TooMany ?l3_TooMany ?l4_TooMany ?l5_TooMany ?l6_TooMany ?l7_TooMany ?x_BadWay ?l0_BadWay ?l1_BadWay ?l2_BadWay ?l3_BadWay ?l4_BadWay ?l5_BadWay ?l6_BadWay ?l7_BadWay ?x_BadRow ?l0_BadRow ?l1_BadRow ?l2_BadRow ?l3_BadRow ?l4_BadRow ?l5_BadRow ?l6_BadRow ?l7_BadRow ?pg_First ?hd_First ?po_First ?sa_First ?pg_Only ?hd_Only ?po_Only ?sa_Only ?pg_Like ?hd_Like ?po_Like ?sa_Like ?pg_Low ?hd_Low ?po_Low ?sa_Low ?pg_High ?hd_High ?po_High ?sa_High ?pg_Sum ?hd_Sum ?po_Sum ?sa_Sum ?pg_Numbers ?hd_Numbers ?po_Numbers ?sa_Numbers ?pg_Words ?hd_Words ?po_Words ?sa_Words ?pg_Table ?hd_Table ?po_Table ?sa_Table ?ta_First ?tn_First ?tt_First ?tm_First ?ta_Only ?tn_Only ?tt_Only ?tm_Only ?ta_Like ?tn_Like ?tt_Like ?tm_Like ?ta_Low ?tn_Low ?tt_Low ?tm_Low ?ta_High ?tn_High ?tt_High ?tm_High ?ta_Sum ?tn_Sum ?tt_Sum ?tm_Sum ?ta_Numbers ?tn_Numbers ?tt_Numbers ?tm_Numbers ?ta_Words ?tn_Words ?tt_Words ?tm_Words ?ta_Table ?tn_Table ?tt_Table ?tm_Table ?na_First_called ?na_Only_called ?na_Like_called ?na_Low_called ?na_High_called ?na_Sum_called ?na_Numbers_low ?na_Numbers_high ?na_Words_low ?na_Words_high ?na_Words_words ?na_Table_name ?na_Table_names ?na_Table_domains ?na_Table_outcome ?na_Table_way ?na_Table_rows ?f_none ?f_nw ?f_ww ?f_tt ?e_BadName ?v_BadName ?g_BadName_BadName ?g_BadName_TooMany ?g_BadName_BadWay ?g_BadName_BadRow ?e_TooMany ?v_TooMany ?g_TooMany_BadName ?g_TooMany_TooMany ?g_TooMany_BadWay ?g_TooMany_BadRow ?e_BadWay ?v_BadWay ?g_BadWay_BadName ?g_BadWay_TooMany ?g_BadWay_BadWay ?g_BadWay_BadRow ?e_BadRow ?v_BadRow ?g_BadRow_BadName ?g_BadRow_TooMany ?g_BadRow_BadWay ?g_BadRow_BadRow
    (case n_TableError => k_is)
    (case n_BadName => k_is)
    (case n_TooMany => k_is)
    (case n_BadWay => k_is)
    (case n_BadRow => k_is)
    (case n_Way => k_is)
    (case n_First => k_is)
    (case n_Only => k_is)
    (case n_Like => k_is)
    (case n_Low => k_is)
    (case n_High => k_is)
    (case n_Sum => k_is)
    (case n_Domain => k_is)
    (case n_Numbers => k_is)
    (case n_Words => k_is)
    (case n_Table => k_is)
    (case a0 => k_is); (case l0 => k_is); (case c0 => k_is); (case k0 => k_is)
    (case a1 => k_is); (case l1 => k_is); (case c1 => k_is); (case k1 => k_is)
    (case a2 => k_is); (case l2 => k_is); (case c2 => k_is); (case k2 => k_is)
    (case a3 => k_is); (case l3 => k_is); (case c3 => k_is); (case k3 => k_is)
    (case a4 => k_is); (case l4 => k_is); (case c4 => k_is); (case k4 => k_is)
    (case a5 => k_is); (case l5 => k_is); (case c5 => k_is); (case k5 => k_is)
    (case a6 => k_is); (case l6 => k_is); (case c6 => k_is); (case k6 => k_is)
    (case a7 => k_is); (case l7 => k_is); (case c7 => k_is); (case k7 => k_is)
    (case a8 => k_is); (case l8 => k_is); (case c8 => k_is); (case k8 => k_is)
    (case a9 => k_is); (case l9 => k_is); (case c9 => k_is); (case k9 => k_is)
    (case a10 => k_is); (case l10 => k_is); (case c10 => k_is); (case k10 => k_is)
    (case a11 => k_is); (case l11 => k_is); (case c11 => k_is); (case k11 => k_is)
    (case a12 => k_is); (case l12 => k_is); (case c12 => k_is); (case k12 => k_is)
    (case a13 => k_is); (case l13 => k_is); (case c13 => k_is); (case k13 => k_is)
    (case a14 => k_is); (case l14 => k_is); (case c14 => k_is); (case k14 => k_is)
    (case a15 => k_is); (case l15 => k_is); (case c15 => k_is); (case k15 => k_is)
    (case a16 => k_is); (case l16 => k_is); (case c16 => k_is); (case k16 => k_is)
    (case a17 => k_is); (case l17 => k_is); (case c17 => k_is); (case k17 => k_is)
    (case a18 => k_is); (case l18 => k_is); (case c18 => k_is); (case k18 => k_is)
    (case a19 => k_is); (case l19 => k_is); (case c19 => k_is); (case k19 => k_is)
    (case a20 => k_is); (case l20 => k_is); (case c20 => k_is); (case k20 => k_is)
    (case a21 => k_is); (case l21 => k_is); (case c21 => k_is); (case k21 => k_is)
    (case a22 => k_is); (case l22 => k_is); (case c22 => k_is); (case k22 => k_is)
    (case a23 => k_is); (case l23 => k_is); (case c23 => k_is); (case k23 => k_is)
    (case a24 => k_is); (case l24 => k_is); (case c24 => k_is); (case k24 => k_is)
    (case i25 => k_is); (case if25 => k_is); (case im25 => k_is); (case ik25 => k_is); (case l25 => k_is); (case c25 => k_is); (case k25 => k_is)
    (case i26 => k_is); (case if26 => k_is); (case im26 => k_is); (case ik26 => k_is); (case l26 => k_is); (case c26 => k_is); (case k26 => k_is)
    (case b_s27 => k_is); (case b_r27 => k_is); (case b_a27 => k_is); (case l27 => k_is); (case c27 => k_is); (case k27 => k_is)
    (case i28 => k_is); (case if28 => k_is); (case im28 => k_is); (case ik28 => k_is); (case l28 => k_is); (case c28 => k_is); (case k28 => k_is)
    (case b_s29 => k_is); (case b_r29 => k_is); (case b_a29 => k_is); (case l29 => k_is); (case c29 => k_is); (case k29 => k_is)
    (case i30 => k_is); (case if30 => k_is); (case im30 => k_is); (case ik30 => k_is); (case l30 => k_is); (case c30 => k_is); (case k30 => k_is)
    (case b_s31 => k_is); (case b_r31 => k_is); (case b_a31 => k_is); (case l31 => k_is); (case c31 => k_is); (case k31 => k_is)
    (case i32 => k_is); (case if32 => k_is); (case im32 => k_is); (case ik32 => k_is); (case l32 => k_is); (case c32 => k_is); (case k32 => k_is)
    (case b_s33 => k_is); (case b_r33 => k_is); (case b_a33 => k_is); (case l33 => k_is); (case c33 => k_is); (case k33 => k_is)
    (case i34 => k_is); (case if34 => k_is); (case im34 => k_is); (case ik34 => k_is); (case l34 => k_is); (case c34 => k_is); (case k34 => k_is)
    (case b_s35 => k_is); (case b_r35 => k_is); (case b_a35 => k_is); (case l35 => k_is); (case c35 => k_is); (case k35 => k_is)
    (case i36 => k_is); (case if36 => k_is); (case im36 => k_is); (case ik36 => k_is); (case l36 => k_is); (case c36 => k_is); (case k36 => k_is)
    (case b_s37 => k_is); (case b_r37 => k_is); (case b_a37 => k_is); (case l37 => k_is); (case c37 => k_is); (case k37 => k_is)
    (case m38 => k_is); (case mf38 => k_is); (case l38 => k_is); (case c38 => k_is); (case k38 => k_is)
    (case m39 => k_is); (case mf39 => k_is); (case l39 => k_is); (case c39 => k_is); (case k39 => k_is)
    (case i40 => k_is); (case if40 => k_is); (case im40 => k_is); (case ik40 => k_is); (case l40 => k_is); (case c40 => k_is); (case k40 => k_is)
    (case b_s41 => k_is); (case b_r41 => k_is); (case b_a41 => k_is); (case l41 => k_is); (case c41 => k_is); (case k41 => k_is)
    (case i42 => k_is); (case if42 => k_is); (case im42 => k_is); (case ik42 => k_is); (case l42 => k_is); (case c42 => k_is); (case k42 => k_is)
    (case b_s43 => k_is); (case b_r43 => k_is); (case b_a43 => k_is); (case l43 => k_is); (case c43 => k_is); (case k43 => k_is)
    (case a44 => k_is); (case l44 => k_is); (case c44 => k_is); (case k44 => k_is)
    (case z0 => k_is)
    (case z1 => k_is)
    (case z2 => k_is)
    (case z3 => k_is)
    (case z4 => k_is)
    (case z5 => k_is)
    (case z6 => k_is)
    (case z7 => k_is)
    (case z8 => k_is)
    (case z9 => k_is)
    (case z10 => k_is)
    (case z11 => k_is)
    (case y0 => k_is)
    (case x0 => exact ⟨_, rfl⟩)
    (case y1 => k_is)
    (case x1 => exact ⟨_, rfl⟩)
    (case y2 => k_is)
    (case x2 => exact ⟨_, rfl⟩)
    (case y3 => k_is)
    (case x3 => exact ⟨_, rfl⟩)
    (case y4 => k_is)
    (case x4 => exact ⟨_, rfl⟩)
    (case pg_First => first | k_is | rfl | with_unfolding_all rfl)
    (case hd_First => first | k_is | rfl | with_unfolding_all rfl)
    (case po_First => first | k_is | rfl | with_unfolding_all rfl)
    (case sa_First => first | k_is | rfl | with_unfolding_all rfl)
    (case pg_Only => first | k_is | rfl | with_unfolding_all rfl)
    (case hd_Only => first | k_is | rfl | with_unfolding_all rfl)
    (case po_Only => first | k_is | rfl | with_unfolding_all rfl)
    (case sa_Only => first | k_is | rfl | with_unfolding_all rfl)
    (case pg_Like => first | k_is | rfl | with_unfolding_all rfl)
    (case hd_Like => first | k_is | rfl | with_unfolding_all rfl)
    (case po_Like => first | k_is | rfl | with_unfolding_all rfl)
    (case sa_Like => first | k_is | rfl | with_unfolding_all rfl)
    (case pg_Low => first | k_is | rfl | with_unfolding_all rfl)
    (case hd_Low => first | k_is | rfl | with_unfolding_all rfl)
    (case po_Low => first | k_is | rfl | with_unfolding_all rfl)
    (case sa_Low => first | k_is | rfl | with_unfolding_all rfl)
    (case pg_High => first | k_is | rfl | with_unfolding_all rfl)
    (case hd_High => first | k_is | rfl | with_unfolding_all rfl)
    (case po_High => first | k_is | rfl | with_unfolding_all rfl)
    (case sa_High => first | k_is | rfl | with_unfolding_all rfl)
    (case pg_Sum => first | k_is | rfl | with_unfolding_all rfl)
    (case hd_Sum => first | k_is | rfl | with_unfolding_all rfl)
    (case po_Sum => first | k_is | rfl | with_unfolding_all rfl)
    (case sa_Sum => first | k_is | rfl | with_unfolding_all rfl)
    (case pg_Numbers => first | k_is | rfl | with_unfolding_all rfl)
    (case hd_Numbers => first | k_is | rfl | with_unfolding_all rfl)
    (case po_Numbers => first | k_is | rfl | with_unfolding_all rfl)
    (case sa_Numbers => first | k_is | rfl | with_unfolding_all rfl)
    (case pg_Words => first | k_is | rfl | with_unfolding_all rfl)
    (case hd_Words => first | k_is | rfl | with_unfolding_all rfl)
    (case po_Words => first | k_is | rfl | with_unfolding_all rfl)
    (case sa_Words => first | k_is | rfl | with_unfolding_all rfl)
    (case pg_Table => first | k_is | rfl | with_unfolding_all rfl)
    (case hd_Table => first | k_is | rfl | with_unfolding_all rfl)
    (case po_Table => first | k_is | rfl | with_unfolding_all rfl)
    (case sa_Table => first | k_is | rfl | with_unfolding_all rfl)
    (case ta_First => first | k_is | rfl | with_unfolding_all rfl)
    (case tn_First => first | k_is | rfl | with_unfolding_all rfl)
    (case tt_First => first | k_is | rfl | with_unfolding_all rfl)
    (case tm_First => first | k_is | rfl | with_unfolding_all rfl)
    (case ta_Only => first | k_is | rfl | with_unfolding_all rfl)
    (case tn_Only => first | k_is | rfl | with_unfolding_all rfl)
    (case tt_Only => first | k_is | rfl | with_unfolding_all rfl)
    (case tm_Only => first | k_is | rfl | with_unfolding_all rfl)
    (case ta_Like => first | k_is | rfl | with_unfolding_all rfl)
    (case tn_Like => first | k_is | rfl | with_unfolding_all rfl)
    (case tt_Like => first | k_is | rfl | with_unfolding_all rfl)
    (case tm_Like => first | k_is | rfl | with_unfolding_all rfl)
    (case ta_Low => first | k_is | rfl | with_unfolding_all rfl)
    (case tn_Low => first | k_is | rfl | with_unfolding_all rfl)
    (case tt_Low => first | k_is | rfl | with_unfolding_all rfl)
    (case tm_Low => first | k_is | rfl | with_unfolding_all rfl)
    (case ta_High => first | k_is | rfl | with_unfolding_all rfl)
    (case tn_High => first | k_is | rfl | with_unfolding_all rfl)
    (case tt_High => first | k_is | rfl | with_unfolding_all rfl)
    (case tm_High => first | k_is | rfl | with_unfolding_all rfl)
    (case ta_Sum => first | k_is | rfl | with_unfolding_all rfl)
    (case tn_Sum => first | k_is | rfl | with_unfolding_all rfl)
    (case tt_Sum => first | k_is | rfl | with_unfolding_all rfl)
    (case tm_Sum => first | k_is | rfl | with_unfolding_all rfl)
    (case ta_Numbers => first | k_is | rfl | with_unfolding_all rfl)
    (case tn_Numbers => first | k_is | rfl | with_unfolding_all rfl)
    (case tt_Numbers => first | k_is | rfl | with_unfolding_all rfl)
    (case tm_Numbers => first | k_is | rfl | with_unfolding_all rfl)
    (case ta_Words => first | k_is | rfl | with_unfolding_all rfl)
    (case tn_Words => first | k_is | rfl | with_unfolding_all rfl)
    (case tt_Words => first | k_is | rfl | with_unfolding_all rfl)
    (case tm_Words => first | k_is | rfl | with_unfolding_all rfl)
    (case ta_Table => first | k_is | rfl | with_unfolding_all rfl)
    (case tn_Table => first | k_is | rfl | with_unfolding_all rfl)
    (case tt_Table => first | k_is | rfl | with_unfolding_all rfl)
    (case tm_Table => first | k_is | rfl | with_unfolding_all rfl)
    (case na_First_called => first | k_is | rfl | with_unfolding_all rfl)
    (case na_Only_called => first | k_is | rfl | with_unfolding_all rfl)
    (case na_Like_called => first | k_is | rfl | with_unfolding_all rfl)
    (case na_Low_called => first | k_is | rfl | with_unfolding_all rfl)
    (case na_High_called => first | k_is | rfl | with_unfolding_all rfl)
    (case na_Sum_called => first | k_is | rfl | with_unfolding_all rfl)
    (case na_Numbers_low => first | k_is | rfl | with_unfolding_all rfl)
    (case na_Numbers_high => first | k_is | rfl | with_unfolding_all rfl)
    (case na_Words_low => first | k_is | rfl | with_unfolding_all rfl)
    (case na_Words_high => first | k_is | rfl | with_unfolding_all rfl)
    (case na_Words_words => first | k_is | rfl | with_unfolding_all rfl)
    (case na_Table_name => first | k_is | rfl | with_unfolding_all rfl)
    (case na_Table_names => first | k_is | rfl | with_unfolding_all rfl)
    (case na_Table_domains => first | k_is | rfl | with_unfolding_all rfl)
    (case na_Table_outcome => first | k_is | rfl | with_unfolding_all rfl)
    (case na_Table_way => first | k_is | rfl | with_unfolding_all rfl)
    (case na_Table_rows => first | k_is | rfl | with_unfolding_all rfl)
    (case x_BadName => first | rfl | with_unfolding_all rfl)
    (case l0_BadName => first | k_is | rfl | with_unfolding_all rfl)
    (case l1_BadName => first | k_is | rfl | with_unfolding_all rfl)
    (case l2_BadName => first | k_is | rfl | with_unfolding_all rfl)
    (case l3_BadName => first | k_is | rfl | with_unfolding_all rfl)
    (case l4_BadName => first | k_is | rfl | with_unfolding_all rfl)
    (case l5_BadName => first | k_is | rfl | with_unfolding_all rfl)
    (case l6_BadName => first | k_is | rfl | with_unfolding_all rfl)
    (case l7_BadName => first | k_is | rfl | with_unfolding_all rfl)
    (case x_TooMany => first | rfl | with_unfolding_all rfl)
    (case l0_TooMany => first | k_is | rfl | with_unfolding_all rfl)
    (case l1_TooMany => first | k_is | rfl | with_unfolding_all rfl)
    (case l2_TooMany => first | k_is | rfl | with_unfolding_all rfl)
    (case l3_TooMany => first | k_is | rfl | with_unfolding_all rfl)
    (case l4_TooMany => first | k_is | rfl | with_unfolding_all rfl)
    (case l5_TooMany => first | k_is | rfl | with_unfolding_all rfl)
    (case l6_TooMany => first | k_is | rfl | with_unfolding_all rfl)
    (case l7_TooMany => first | k_is | rfl | with_unfolding_all rfl)
    (case x_BadWay => first | rfl | with_unfolding_all rfl)
    (case l0_BadWay => first | k_is | rfl | with_unfolding_all rfl)
    (case l1_BadWay => first | k_is | rfl | with_unfolding_all rfl)
    (case l2_BadWay => first | k_is | rfl | with_unfolding_all rfl)
    (case l3_BadWay => first | k_is | rfl | with_unfolding_all rfl)
    (case l4_BadWay => first | k_is | rfl | with_unfolding_all rfl)
    (case l5_BadWay => first | k_is | rfl | with_unfolding_all rfl)
    (case l6_BadWay => first | k_is | rfl | with_unfolding_all rfl)
    (case l7_BadWay => first | k_is | rfl | with_unfolding_all rfl)
    (case x_BadRow => first | rfl | with_unfolding_all rfl)
    (case l0_BadRow => first | k_is | rfl | with_unfolding_all rfl)
    (case l1_BadRow => first | k_is | rfl | with_unfolding_all rfl)
    (case l2_BadRow => first | k_is | rfl | with_unfolding_all rfl)
    (case l3_BadRow => first | k_is | rfl | with_unfolding_all rfl)
    (case l4_BadRow => first | k_is | rfl | with_unfolding_all rfl)
    (case l5_BadRow => first | k_is | rfl | with_unfolding_all rfl)
    (case l6_BadRow => first | k_is | rfl | with_unfolding_all rfl)
    (case l7_BadRow => first | k_is | rfl | with_unfolding_all rfl)
    (case f_none => first | k_is | rfl | with_unfolding_all rfl)
    (case f_nw => first | k_is | rfl | with_unfolding_all rfl)
    (case f_ww => first | k_is | rfl | with_unfolding_all rfl)
    (case f_tt => first | k_is | rfl | with_unfolding_all rfl)
    (case e_BadName => first | k_is | rfl | with_unfolding_all rfl)
    (case v_BadName => first | k_is | rfl | with_unfolding_all rfl)
    (case g_BadName_BadName => first | k_is | rfl | with_unfolding_all rfl)
    (case g_BadName_TooMany => first | k_is | rfl | with_unfolding_all rfl)
    (case g_BadName_BadWay => first | k_is | rfl | with_unfolding_all rfl)
    (case g_BadName_BadRow => first | k_is | rfl | with_unfolding_all rfl)
    (case e_TooMany => first | k_is | rfl | with_unfolding_all rfl)
    (case v_TooMany => first | k_is | rfl | with_unfolding_all rfl)
    (case g_TooMany_BadName => first | k_is | rfl | with_unfolding_all rfl)
    (case g_TooMany_TooMany => first | k_is | rfl | with_unfolding_all rfl)
    (case g_TooMany_BadWay => first | k_is | rfl | with_unfolding_all rfl)
    (case g_TooMany_BadRow => first | k_is | rfl | with_unfolding_all rfl)
    (case e_BadWay => first | k_is | rfl | with_unfolding_all rfl)
    (case v_BadWay => first | k_is | rfl | with_unfolding_all rfl)
    (case g_BadWay_BadName => first | k_is | rfl | with_unfolding_all rfl)
    (case g_BadWay_TooMany => first | k_is | rfl | with_unfolding_all rfl)
    (case g_BadWay_BadWay => first | k_is | rfl | with_unfolding_all rfl)
    (case g_BadWay_BadRow => first | k_is | rfl | with_unfolding_all rfl)
    (case e_BadRow => first | k_is | rfl | with_unfolding_all rfl)
    (case v_BadRow => first | k_is | rfl | with_unfolding_all rfl)
    (case g_BadRow_BadName => first | k_is | rfl | with_unfolding_all rfl)
    (case g_BadRow_TooMany => first | k_is | rfl | with_unfolding_all rfl)
    (case g_BadRow_BadWay => first | k_is | rfl | with_unfolding_all rfl)
    (case g_BadRow_BadRow => first | k_is | rfl | with_unfolding_all rfl)


