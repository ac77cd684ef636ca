import PyProof.Rows.All
import Wide.All
import OpenK.AllK
import Wide.FinOn
import Lean
import PyProof.EqAt
import PyProof.EqKinds
import PyProof.TupleCall
import KE.KIntText
import KE.KTryMore
import KE.KIsAll
import PySem.Challenge.RW_rowjudge_k92_verdicts_shown
set_option Elab.async false
set_option linter.all false
set_option maxRecDepth 100000
/-! THE HAND LAYER, for ints, bools, texts, own classes, LISTS and tuples (index, slices, in, append, pop ..), calls, loops. Paste it whole ahead of your own text; what your proof does not reach may be deleted. -/
namespace L2
open PySem PySem.Spec PyProof.Rows

/-- a key: an int or a str -/
abbrev Key := Sum Int Str
def keyIs : Key → Value → Bool
  | .inl k, v => Value.isInt k v
  | .inr x, v => Value.isStrOf x v
def keyH (w : World) : Key → Int
  | .inl k => hashInt k
  | .inr x => hashStr w x
theorem keyIs_shape : ∀ {k : Key} {v : Value}, keyIs k v = true → (∃ i t, k = Sum.inl i ∧ v = Value.int i t) ∨ (∃ x t, k = Sum.inr x ∧ v = Value.str x t)
  | .inl i, v, h => by
    obtain ⟨t, e⟩ := Value.isInt_shape (k := i) (v := v) h
    exact .inl ⟨i, t, rfl, e⟩
  | .inr x, v, h => by
    obtain ⟨t, e⟩ := Value.isStrOf_shape (x := x) (v := v) h
    exact .inr ⟨x, t, rfl, e⟩
theorem key_ll (a b : Int) : decide ((Sum.inl a : Key) = Sum.inl b) = (a == b) := by
  by_cases e : a = b
  · subst e; simp
  · have h : ¬ (Sum.inl a : Key) = Sum.inl b := fun q => e (Sum.inl.inj q)
    rw [decide_eq_false h]
    exact (beq_eq_false_iff_ne.mpr e).symm
theorem key_rr (a b : Str) : decide ((Sum.inr a : Key) = Sum.inr b) = decide (a = b) := by
  by_cases e : a = b
  · subst e; simp
  · have h : ¬ (Sum.inr a : Key) = Sum.inr b := fun q => e (Sum.inr.inj q)
    rw [decide_eq_false h, decide_eq_false e]
theorem key_lr (a : Int) (b : Str) : decide ((Sum.inl a : Key) = Sum.inr b) = false := decide_eq_false (fun q => nomatch q)
theorem key_rl (a : Str) (b : Int) : decide ((Sum.inr a : Key) = Sum.inl b) = false := decide_eq_false (fun q => nomatch q)

def mixKind (prog : Program) (w : World) : PySem.KeyKind prog w Key where
  is := keyIs
  hash := keyH w
  inj := fun v a b ha hb => by
    rcases keyIs_shape ha with ⟨i, t, rfl, rfl⟩ | ⟨x, t, rfl, rfl⟩
    · rcases keyIs_shape hb with ⟨j, u, rfl, e⟩ | ⟨y, u, rfl, e⟩
      · injection e with e1 _; rw [e1]
      · exact nomatch e
    · rcases keyIs_shape hb with ⟨j, u, rfl, e⟩ | ⟨y, u, rfl, e⟩
      · exact nomatch e
      · injection e with e1 _; rw [e1]
  byValue := fun k v h => by
    rcases keyIs_shape h with ⟨i, t, rfl, rfl⟩ | ⟨x, t, rfl, rfl⟩ <;> rfl
  pyHash := fun hv h => by
    rcases keyIs_shape hv with ⟨i, t, rfl, rfl⟩ | ⟨x, t, rfl, rfl⟩
    · exact wpAny_pyHash_int h
    · exact wpAny_pyHash_str h
  eqBool := fun hu hv h => by
    rcases keyIs_shape hu with ⟨i, t, rfl, rfl⟩ | ⟨x, t, rfl, rfl⟩
    · rcases keyIs_shape hv with ⟨j, u, rfl, rfl⟩ | ⟨y, u, rfl, rfl⟩
      · rw [key_ll] at h; exact wpAny_eqBool_int h
      · rw [key_lr] at h; exact SeqAt.EqAt.int_str i t y u _ _ _ _ h
    · rcases keyIs_shape hv with ⟨j, u, rfl, rfl⟩ | ⟨y, u, rfl, rfl⟩
      · rw [key_rl] at h; exact SeqAt.EqAt.str_int x t j u _ _ _ _ h
      · rw [key_rr] at h; exact wpAny_eqBool_str h
  «strs» := fun k x t v h => by
    rcases keyIs_shape h with ⟨i, u, rfl, e⟩ | ⟨y, u, rfl, e⟩
    · exact nomatch e
    · injection e with e1 _
      subst e1
      cases v <;> rfl

end L2

namespace L2
open PySem PySem.Spec PyProof.Rows

/-- a value, without the heap -/
inductive V where
  | non | bl (b : Bool) | int (i : Int) | str (x : Str) | byt (b : Array UInt8) | flt (b : UInt64) | ref (a : Addr) | ty (n : String)
  deriving DecidableEq

def RelV : V → Value → Prop
  | .non, u => u = Value.none
  | .bl b, u => u = Value.bool b
  | .int i, u => ∃ t, u = Value.int i t
  | .str x, u => ∃ t, u = Value.str x t
  | .byt b, u => ∃ t, u = Value.bytes b t
  | .flt b, u => ∃ t, u = Value.float b t
  | .ref a, u => u = Value.ref a
  | .ty n, u => u = Value.type n

abbrev Vals : List V → List Value → Prop := Paired RelV
theorem Vals.length {xs : List V} {us : List Value} (r : Vals xs us) : xs.length = us.length := Paired.length r
theorem Vals.get : ∀ {xs : List V} {us : List Value} {i : Nat} {x : V}, Vals xs us → xs[i]? = some x → ∃ u, us[i]? = some u ∧ RelV x u
  | _, _, _, _, .nil, e => by simp at e
  | _, _, 0, _, .cons r _, e => by simp at e; subst e; exact ⟨_, rfl, r⟩
  | _, _, i + 1, x, .cons _ t, e => by
    obtain ⟨u, h1, h2⟩ := Vals.get (i := i) (x := x) t (by simpa using e)
    exact ⟨u, by simpa using h1, h2⟩
theorem Vals.append : ∀ {xs ys : List V} {us ws : List Value}, Vals xs us → Vals ys ws → Vals (xs ++ ys) (us ++ ws)
  | _, _, _, _, .nil, s => s
  | _, _, _, _, .cons r t, s => .cons r (Vals.append t s)
theorem Vals.take : ∀ {xs : List V} {us : List Value} (n : Nat), Vals xs us → Vals (xs.take n) (us.take n)
  | _, _, 0, _ => .nil
  | _, _, _ + 1, .nil => .nil
  | _, _, n + 1, .cons r t => .cons r (Vals.take n t)
theorem Vals.drop : ∀ {xs : List V} {us : List Value} (n : Nat), Vals xs us → Vals (xs.drop n) (us.drop n)
  | _, _, 0, r => r
  | _, _, _ + 1, .nil => .nil
  | _, _, n + 1, .cons _ t => Vals.drop n t
def RelO : Option V → Option Value → Prop
  | some v, some u => RelV v u
  | none, none => True
  | _, _ => False
def KV {κ : Type} : List (κ × V) → List (κ × Value) → Prop := Paired fun (p : κ × V) (q : κ × Value) => p.1 = q.1 ∧ RelV p.2 q.2

/-- a key of a dict (00_mix): an int or a text -/
def kV : Key → V
  | .inl i => .int i
  | .inr x => .str x

/-- what stands at a tracked address -/
inductive HO where
  /-- a list -/
  | lst (xs : List V)
  /-- a tuple (never changes) -/
  | tup (xs : List V)
  /-- a dict whose keys are ints and texts; one whose keys are tuples of ints and texts (the empty one is both) -/
  | dK (kvs : List (Key × V)) | dT (kvs : List (List Key × V))
  /-- a set of ints: its members, its size -/
  | set (S : Int → Bool) (n : Nat)
  /-- an instance of the class at C, its dict at dx, its attributes -/
  | ins (C dx : Addr) (fs : List (Str × V))
  /-- the dict of the instance at x -/
  | own (x : Addr)
  /-- the dict of an exception -/
  | xd (fs : List (Str × V))
  /-- a bound method, f of x -/
  | met (f x : Addr)
  /-- a range object lo, lo + 1, .. below hi -/
  | rng (lo hi : Int)
  /-- a thing that is known to the object (the script; a dict while a loop walks it): read, never written while it is so -/
  | frz (o : Obj) (u : HO)
  /-- a code object's table -/
  | tbl (ps : Array Value)
  /-- any other thing, by what is true of its one object (a def of one's own: SetO a S n := HO.ext fun h => ..) -/
  | ext (φ : Heap → Prop)

abbrev Hp := Addr → Option HO
def upd (H : Hp) (a : Addr) (o : HO) : Hp := fun b => if b = a then some o else H b
theorem upd_same {H : Hp} {a : Addr} {o : HO} : upd H a o a = some o := by unfold upd; rw [if_pos rfl]
theorem upd_ne {H : Hp} {a b : Addr} {o : HO} (h : b ≠ a) : upd H a o b = H b := by unfold upd; rw [if_neg h]
/-- two objects of different content stand apart -/
theorem ne_of {H : Hp} {a b : Addr} {o u : HO} (h : H a = some o) (h' : H b = some u) (d : o ≠ u) : a ≠ b := by
  intro e; subst e; rw [h] at h'; exact d (Option.some.inj h')
theorem ne_of_none {H : Hp} {a b : Addr} {o : HO} (h : H a = some o) (h' : H b = none) : a ≠ b := by
  intro e; subst e; rw [h] at h'; cases h'

section
variable (P : Program) (w : World)
def ObjOk (H : Hp) (h : Heap) (a : Addr) : HO → Prop
  | .lst xs => xs.length ≤ sizeLine ∧ ∃ (its : List Value) (n : Nat), Vals xs its ∧ h.get? a = some { cls := .type "list", data := .seq its.toArray n }
  | .tup xs => xs.length ≤ sizeLine ∧ ∃ its : List Value, Vals xs its ∧ IsTup h a its.toArray
  | .dK kvs => kvs.length ≤ sizeLine ∧ (a == sysModules) = false ∧ ∃ vs, KV kvs vs ∧ h.DictOf (mixKind P w) a vs
  | .dT kvs => kvs.length ≤ sizeLine ∧ (a == sysModules) = false ∧ ∃ xs : List (List Key × Addr × Value),
      Paired (fun (p : List Key × V) (q : List Key × Addr × Value) => p.1 = q.1 ∧ H q.2.1 = some (.tup (p.1.map kV)) ∧ RelV p.2 q.2.2) kvs xs ∧
      ∃ o es ep, h.get? a = some o ∧ o.ExactDict ∧ o.data = .dict es ep ∧ es.toList = xs.map (entryOfKey (tupleKind (mixKind P w))) ∧ (xs.map (·.1)).Nodup
  | .set S n => h.SetOf (intKind P w) a S n
  | .ins C dx fs => H dx = some (.own a) ∧ fs.length ≤ 1000 ∧ dx ≠ a ∧ h.get? a = some (PySem.W.instObj C dx) ∧
      ∃ mA, h.Ns1 dx mA ∧ (∀ f, RelO (fs.lookup f) (mA f)) ∧ PySem.Within mA (fs.map (·.1))
  | .own _ => ∃ o, h.get? a = some o
  | .xd fs => ∃ mA, h.Ns1 a mA ∧ ∀ f, RelO (fs.lookup f) (mA f)
  | .rng lo hi => ∃ t u v, h.get? a = some { cls := .type "range", data := .fields #[.int lo t, .int hi u, .int 1 v] }
  | .frz o u => h.get? a = some o ∧ ObjOk H h a u
  | .tbl ps => h.get? a = some { cls := .none, data := .fields ps }
  | .met f x => h.get? a = some (PySem.W.methodObj (.ref f) (.ref x))
  | .ext φ => φ h ∧ (∃ o, h.get? a = some o) ∧ ∀ h1 h2 : Heap, φ h1 → (∀ o, h1.get? a = some o → h2.get? a = some o) → φ h2
/-- the abstract heap is held -/
def HOk (H : Hp) (h : Heap) : Prop := ∀ a o, H a = some o → ObjOk P w H h a o
end

section
variable {P : Program} {w : World} {H H' : Hp} {h h' : Heap} {a : Addr} {o : HO}
theorem ObjOk.lt (x : ObjOk P w H h a o) : a < h.objs.size := by
  cases o with
  | lst xs => obtain ⟨_, _, _, _, e⟩ := x; exact Heap.lt_size e
  | tup xs => obtain ⟨_, _, _, p⟩ := x; exact p.lt
  | dK kvs => obtain ⟨_, _, _, _, o, _, _, e, _⟩ := x; exact Heap.lt_size e
  | dT kvs => obtain ⟨_, _, _, _, o, _, _, e, _⟩ := x; exact Heap.lt_size e
  | set S n => obtain ⟨o, _, _, _, e, _⟩ := x; exact Heap.lt_size e
  | ins C dx fs => obtain ⟨_, _, _, e, _⟩ := x; exact Heap.lt_size e
  | own y => obtain ⟨_, e⟩ := x; exact Heap.lt_size e
  | xd fs => obtain ⟨_, ⟨_, _, _, e, _⟩, _⟩ := x; exact Heap.lt_size e
  | rng lo hi => obtain ⟨_, _, _, e⟩ := x; exact Heap.lt_size e
  | frz ob u => obtain ⟨e, _⟩ := x; exact Heap.lt_size e
  | tbl ps => exact Heap.lt_size (show h.get? a = some _ from x)
  | met f y => exact Heap.lt_size (show h.get? a = some _ from x)
  | ext φ => obtain ⟨_, ⟨_, e⟩, _⟩ := x; exact Heap.lt_size e
theorem Paired.mapP {α β : Type} {F G : α → β → Prop} : ∀ {l₁ : List α} {l₂ : List β}, Paired F l₁ l₂ → (∀ a b, F a b → G a b) → Paired G l₁ l₂
  | _, _, .nil, _ => .nil
  | _, _, .cons r t, f => .cons (f _ _ r) (Paired.mapP t f)
/-- what an object's description leans on: its own object, its own dict, the tuples -/
theorem ObjOk.stay (x : ObjOk P w H h a o) (k : ∀ b u, (b = a ∨ H b = some (.own a)) → h.get? b = some u → h'.get? b = some u)
    (ho : ∀ b, H b = some (.own a) → H' b = some (.own a)) (ht : ∀ b xs, H b = some (.tup xs) → H' b = some (.tup xs)) : ObjOk P w H' h' a o := by
  induction o with
  | lst xs => obtain ⟨z, its, n, r, e⟩ := x; exact ⟨z, its, n, r, k _ _ (.inl rfl) e⟩
  | tup xs => obtain ⟨z, its, r, ob, e, c⟩ := x; exact ⟨z, its, r, ob, k _ _ (.inl rfl) e, c⟩
  | dK kvs => obtain ⟨z, y, vs, r, ob, es, ep, e, c⟩ := x; exact ⟨z, y, vs, r, ob, es, ep, k _ _ (.inl rfl) e, c⟩
  | dT kvs =>
    obtain ⟨z, y, xs, r, ob, es, ep, e, c⟩ := x
    exact ⟨z, y, xs, Paired.mapP r fun p q z => ⟨z.1, ht _ _ z.2.1, z.2.2⟩, ob, es, ep, k _ _ (.inl rfl) e, c⟩
  | set S n => obtain ⟨ob, es, ep, t, e, c⟩ := x; exact ⟨ob, es, ep, t, k _ _ (.inl rfl) e, c⟩
  | ins C dx fs =>
    obtain ⟨d, z, ne, e, mA, ⟨od, es, ep, e2, c⟩, r⟩ := x
    exact ⟨ho _ d, z, ne, k _ _ (.inl rfl) e, mA, ⟨od, es, ep, k _ _ (.inr d) e2, c⟩, r⟩
  | own y => obtain ⟨ob, e⟩ := x; exact ⟨ob, k _ _ (.inl rfl) e⟩
  | xd fs => obtain ⟨mA, ⟨od, es, ep, e, c⟩, r⟩ := x; exact ⟨mA, ⟨od, es, ep, k _ _ (.inl rfl) e, c⟩, r⟩
  | rng lo hi => obtain ⟨t, u, v, e⟩ := x; exact ⟨t, u, v, k _ _ (.inl rfl) e⟩
  | frz ob u ih => obtain ⟨e, q⟩ := x; exact ⟨k _ _ (.inl rfl) e, ih q⟩
  | tbl ps =>
    have e : h.get? a = some { cls := .none, data := .fields ps } := x
    show h'.get? a = some { cls := .none, data := .fields ps }
    exact k a _ (.inl rfl) e
  | met f y =>
    have e : h.get? a = some (PySem.W.methodObj (.ref f) (.ref y)) := x
    show h'.get? a = some (PySem.W.methodObj (.ref f) (.ref y))
    exact k a _ (.inl rfl) e
  | ext φ => obtain ⟨p, ⟨o, e⟩, st⟩ := x; exact ⟨st _ _ p fun o q => k _ _ (.inl rfl) q, ⟨o, k _ _ (.inl rfl) e⟩, st⟩
theorem HOk.lt (x : HOk P w H h) (e : H a = some o) : a < h.objs.size := (x a o e).lt
theorem HOk.fresh (x : HOk P w H h) (e : h.objs.size ≤ a) : H a = none := by
  cases q : H a with
  | none => rfl
  | some u => exact absurd (Nat.lt_of_lt_of_le (x.lt q) e) (Nat.lt_irrefl _)
/-- every object of the heap is kept -/
theorem HOk.kept (x : HOk P w H h) (k : ∀ b u, h.get? b = some u → h'.get? b = some u) : HOk P w H h' := fun a o e =>
  (x a o e).stay (fun b u _ q => k b u q) (fun _ q => q) fun _ _ q => q
/-- a new object is laid and tracked -/
theorem HOk.laid (x : HOk P w H h) (k : ∀ b u, h.get? b = some u → h'.get? b = some u) (hp : h.objs.size ≤ a) (new : ObjOk P w (upd H a o) h' a o) : HOk P w (upd H a o) h' := fun b u e => by
  have hn := x.fresh hp
  by_cases hb : b = a
  · subst hb; rw [upd_same] at e; cases e; exact new
  · rw [upd_ne hb] at e
    exact (x b u e).stay (fun c v _ q => k c v q) (fun c q => by rw [upd_ne (ne_of_none q hn)]; exact q) fun c xs q => by rw [upd_ne (ne_of_none q hn)]; exact q
end

/-- what may be read as u: it is u, or a known u -/
def Rd (H : Hp) (a : Addr) (u : HO) : Prop := H a = some u ∨ ∃ o, H a = some (.frz o u)
theorem Rd.ok {P : Program} {w : World} {H : Hp} {h : Heap} {a : Addr} {u : HO} (r : Rd H a u) (x : HOk P w H h) : ObjOk P w H h a u := by
  rcases r with r | ⟨o, r⟩
  · exact x a u r
  · obtain ⟨_, q⟩ := x a _ r
    exact q
/-- what may be written -/
def Mut : Option HO → Prop
  | some (.lst _) => True
  | some (.dK _) => True
  | some (.dT _) => True
  | some (.set _ _) => True
  | some (.ins _ _ _) => True
  | some (.ext _) => True
  | _ => False
section
variable {P : Program} {w : World} {H : Hp} {h h' : Heap} {x e : Addr} {o' : HO}
/-- the object at e is changed: x itself, or the dict of the instance x -/
theorem HOk.write (ok : HOk P w H h) (mu : Mut (H x)) (he : e = x ∨ H e = some (.own x)) (k : ∀ b u, b ≠ e → h.get? b = some u → h'.get? b = some u) (heo : ∃ u, h'.get? e = some u)
    (new : ObjOk P w (upd H x o') h' x o') : HOk P w (upd H x o') h' := fun b u q => by
  have nown : ∀ c y, H c = some (.own y) → c ≠ x := fun c y r z => by subst z; rw [r] at mu; exact mu
  have ntup : ∀ c xs, H c = some (.tup xs) → c ≠ x := fun c xs r z => by subst z; rw [r] at mu; exact mu
  by_cases hb : b = x
  · subst hb; rw [upd_same] at q; cases q; exact new
  · rw [upd_ne hb] at q
    by_cases hbe : b = e
    · have q' : H b = some (.own x) := by
        rcases he with z | z
        · exact absurd (hbe.trans z) hb
        · rw [hbe]; exact z
      rw [q] at q'; cases q'
      obtain ⟨v, hv⟩ := heo
      exact ⟨v, by rw [hbe]; exact hv⟩
    · refine (ok b u q).stay (fun c v hc r => k c v ?_ r) (fun c r => by rw [upd_ne (nown c b r)]; exact r) fun c xs r => by rw [upd_ne (ntup c xs r)]; exact r
      rcases hc with rfl | hc
      · exact hbe
      · rintro rfl
        rcases he with z | z
        · exact nown c b hc z
        · rw [hc] at z; cases z; exact hb rfl
end

/-! ### kept unless tracked; of the frames at fs (the callers') the slots may change (an exception that passes writes there); of the records at ex (iterators) nothing is said -/
structure Un (fs ex : List Addr) (H H' : Hp) (h h' : Heap) : Prop where
  keep : ∀ b o, h.get? b = some o → H b = none → b ∉ fs → b ∉ ex → h'.get? b = some o
  slot : ∀ b o, h.get? b = some o → H b = none → b ∈ fs → b ∉ ex → ∃ sl, h'.get? b = some { o with slots := sl }
  free : ∀ b o, h.get? b = some o → H b = none → b ∉ ex → H' b = none
  there : ∀ b o, h.get? b = some o → b ∉ ex → ∃ o', h'.get? b = some o'
  tups : ∀ b xs, H b = some (.tup xs) → H' b = some (.tup xs)
  frzs : ∀ b o u, H b = some (.frz o u) → H' b = some (.frz o u)
  tbls : ∀ b ps, H b = some (.tbl ps) → ∃ more, H' b = some (.tbl (ps ++ more))
section
variable {fs fs' ex ex' : List Addr} {H H1 H2 : Hp} {h h1 h2 h' : Heap} {a x e : Addr} {o : HO}
theorem Un.any (u : Un fs ex H H1 h h1) {b : Addr} {ob : Obj} (q : h.get? b = some ob) (n : H b = none) (hx : b ∉ ex) : ∃ sl, h1.get? b = some { ob with slots := sl } := by
  by_cases hb : b ∈ fs
  · exact u.slot b ob q n hb hx
  · exact ⟨ob.slots, u.keep b ob q n hb hx⟩
theorem Un.kept (k : ∀ b u, h.get? b = some u → h'.get? b = some u) : Un fs ex H H h h' :=
  ⟨fun b ob q _ _ _ => k b ob q, fun b ob q _ _ _ => ⟨ob.slots, k b ob q⟩, fun _ _ _ n _ => n, fun b ob q _ => ⟨ob, k b ob q⟩, fun _ _ q => q, fun _ _ _ q => q, fun _ ps q => ⟨#[], by rw [q]; simp⟩⟩
theorem Un.refl : Un fs ex H H h h := Un.kept fun _ _ q => q
theorem Un.laid (k : ∀ b u, h.get? b = some u → h'.get? b = some u) (hp : h.objs.size ≤ a) (hn : H a = none) : Un fs ex H (upd H a o) h h' where
  keep := fun b u q _ _ _ => k b u q
  slot := fun b u q _ _ _ => ⟨u.slots, k b u q⟩
  free := fun b u q n _ => by rw [upd_ne (Nat.ne_of_lt (Nat.lt_of_lt_of_le (Heap.lt_size q) hp))]; exact n
  there := fun b u q _ => ⟨u, k b u q⟩
  tups := fun b xs q => by rw [upd_ne (ne_of_none q hn)]; exact q
  frzs := fun b u xs q => by rw [upd_ne (ne_of_none q hn)]; exact q
  tbls := fun b ps q => ⟨#[], by rw [upd_ne (ne_of_none q hn), q]; simp⟩
theorem Un.write (mu : Mut (H x)) (he : e = x ∨ H e = some (.own x)) (k : ∀ b u, b ≠ e → h.get? b = some u → h'.get? b = some u) (heo : ∃ u, h'.get? e = some u) : Un fs ex H (upd H x o) h h' := by
  have hx : ∀ b, H b = none → b ≠ x := fun b n z => by subst z; rw [n] at mu; exact mu
  have hb : ∀ b, H b = none → b ≠ e := fun b n z => by
    subst z
    rcases he with r | r
    · exact hx b n r
    · rw [n] at r; cases r
  have hm : ∀ b u, H b = some u → ¬ Mut (some u) → b ≠ x := fun b u q nm z => by subst z; rw [q] at mu; exact nm mu
  refine ⟨fun b u q n _ _ => k b u (hb b n) q, fun b u q n _ _ => ⟨u.slots, k b u (hb b n) q⟩, fun b u q n _ => by rw [upd_ne (hx b n)]; exact n, fun b u q _ => ?_,
    fun b xs q => by rw [upd_ne (hm b _ q fun z => z)]; exact q, fun b u xs q => by rw [upd_ne (hm b _ q fun z => z)]; exact q, fun b ps q => ⟨#[], by rw [upd_ne (hm b _ q fun z => z), q]; simp⟩⟩
  by_cases hbe : b = e
  · subst hbe; exact heo
  · exact ⟨u, k b u hbe q⟩
end

/-! ### the heap without what is tracked -/
def trk (h : Heap) (H : Hp) : List Addr := (List.range h.objs.size).filter fun a => (H a).isSome
def hidT (h : Heap) (H : Hp) : Heap := PySem.W.hideAll h (trk h H)
theorem hidT_size (h : Heap) (H : Hp) : (hidT h H).objs.size = h.objs.size := PySem.W.hideAll_size _ _
theorem hidT_get {h : Heap} {H : Hp} {b : Addr} {o : Obj} (e : h.get? b = some o) (n : H b = none) : (hidT h H).get? b = some o :=
  PySem.W.hideAll_get _ e fun hm => by
    have q : (H b).isSome = true := (List.mem_filter.mp hm).2
    rw [n] at q; simp at q
theorem of_hidT {h : Heap} {H : Hp} {b : Addr} {o : Obj} (e : (hidT h H).get? b = some o) : h.get? b = some o ∧ H b = none := by
  have e' : h.get? b = some o := PySem.W.of_hideAll (trk h H) e
  refine ⟨e', ?_⟩
  cases q : H b with
  | none => rfl
  | some x =>
    have hm : b ∈ trk h H := List.mem_filter.mpr ⟨List.mem_range.mpr (Heap.lt_size e'), by simp [q]⟩
    have z : (hidT h H).get? b = none := PySem.W.hideAll_none (trk h H) hm
    rw [z] at e; cases e

/-! ### OpenK's ledger, filled with every new object but one -/
def allNews (g h : Heap) (L : Addr) : List (Addr × Obj) := (List.range h.objs.size).filterMap fun a => if a = L ∨ (g.get? a).isSome = true then none else (h.get? a).map fun o => (a, o)
def rest (g h : Heap) (L d : Addr) : List (Addr × Obj) := (allNews g h L).filter fun p => decide (p.1 ≠ d)
end L2

namespace L2
open PySem PySem.Spec PyProof.Rows

/-- the module's facts, over the base: the heap at the law's entry without what is tracked there -/
structure Mod (K : PySem.W.Frag) (mg : Str → Option Value) (base : Heap) : Prop where
  kin : K.In base
  glob : base.Ns mainGlobals mg
  blt : ∃ mb, base.Ns builtinsNs mb ∧ ∀ x : Str, x ≠ "__name__" → mb x = bootBuiltins x
  nolimit : base.NoLimit

/-- the context: a def's body (or a comprehension's block) running. base: fixed through the whole law; s₀, H₀: the entry; outer: the frames whose slots others may change (a def's callers); stack: all frames that run;
   ex: iterators that were made ahead of the entry and are walked here (a comprehension's); fn: the names whose cells were made at the entry (a def: all; a comprehension's block: its own); calm: not within an except suite; pn: pins that every state bears; xe: what is wanted of an exception that leaves the code -/
structure Cx where
  prog : Program
  w : World
  K : PySem.W.Frag
  mg : Str → Option Value
  base : Heap
  A : Around
  N : List Str
  s₀ : Shared
  H₀ : Hp
  env : Env
  outer : List Env
  stack : List Env
  ex : List Addr
  fn : Str → Bool
  calm : Bool
  pn : List (Addr × Obj)
  xe : Value → Shared → Prop
/-- the callers' frames -/
def frs (l : List Env) : List Addr := l.filterMap (·.frame)
abbrev Cx.fs (X : Cx) : List Addr := frs X.outer

def Vis (sc : Scope) (x : Str) : Prop := sc.names.lookup x = some .local ∨ sc.names.lookup x = some .cell ∨ sc.names.lookup x = some .free
def Loc (sc : Scope) (x : Str) : Prop := sc.names.lookup x = some .local ∨ sc.names.lookup x = some .cell
def Look (env : Env) (h : Heap) (m : Str → Option Value) (x : Str) (u : Value) : Prop :=
  (env.kindOf x = some .local ∧ m x = some u) ∨ ((env.kindOf x = some .cell ∨ env.kindOf x = some .free) ∧ ∃ c, env.cells.lookup x = some c ∧ h.IsCell c (some u))

structure Cx.Ok (X : Cx) : Prop where
  mod : Mod X.K X.mg X.base
  kind : X.env.scope.kind = .function
  glob : X.env.globals = mainGlobals
  blt : X.env.builtins = builtinsNs
  above : X.s₀.heap.objs.size ≤ X.env.locals
  inj : ∀ x y c, X.env.cells.lookup x = some c → X.env.cells.lookup y = some c → x = y
  has : ∀ x, (X.env.kindOf x = some .cell ∨ X.env.kindOf x = some .free) → ∃ c, X.env.cells.lookup x = some c
  cab : ∀ x c, X.fn x = true → X.env.cells.lookup x = some c → X.s₀.heap.objs.size ≤ c
  hd : X.calm = true → X.A.handled = none
  frames : X.A.frames = some X.stack
  stk : X.stack = X.outer ∨ (X.stack = X.env :: X.outer ∧ X.env.frame = some X.env.locals)
  exf : ∀ b ∈ X.ex, b ≠ X.env.locals ∧ ∀ x c, X.env.cells.lookup x = some c → c ≠ b
  bs : ∀ b o, X.base.get? b = some o → X.s₀.heap.get? b = some o ∧ X.H₀ b = none
  bsz : X.base.objs.size ≤ X.s₀.heap.objs.size
  noex : ∀ b o, X.base.get? b = some o → b ∉ X.ex
  exfs : ∀ b ∈ X.ex, b ∉ X.fs
  funs : X.s₀.heap.FunFrames X.base X.outer
  frf : ∀ b ∈ X.fs, X.H₀ b = none

structure Inv (X : Cx) (pins : List (Addr × Obj)) (σ : List (Option V)) (H : Hp) (s : Shared) : Prop where
  ok : X.Ok
  os : s.os = X.s₀.os
  bare : AllBare s.gens
  base : Un X.fs X.ex X.H₀ H X.s₀.heap s.heap
  loc : ∃ m, s.heap.Ns X.env.locals m ∧ ∀ (i : Nat) (x : Str) (v : V), X.N[i]? = some x → σ[i]? = some (some v) → Vis X.env.scope x → ∃ u, RelV v u ∧ Look X.env s.heap m x u
  cell : ∀ x c, X.env.cells.lookup x = some c → ∃ v, s.heap.IsCell c v
  free : H X.env.locals = none
  freeC : ∀ x c, X.env.cells.lookup x = some c → H c = none
  pin : ∀ p ∈ X.pn ++ pins, s.heap.get? p.1 = some p.2 ∧ H p.1 = none ∧ p.1 ≠ X.env.locals ∧ p.1 ∉ X.fs ∧ ∀ v, p.2.data ≠ .cell v
  hok : HOk X.prog X.w H s.heap
  len : σ.length = X.N.length

section
variable {X : Cx} {pins : List (Addr × Obj)} {σ : List (Option V)} {H H' : Hp} {s : Shared} {h' : Heap}

theorem Cx.Ok.nofr (ok : X.Ok) {b : Addr} {o : Obj} (e : X.base.get? b = some o) : b ∉ X.fs := fun hb => by
  have := (ok.funs.mem hb).1
  rw [e] at this; cases this
theorem Inv.bs (I : Inv X pins σ H s) : ∀ b o, X.base.get? b = some o → s.heap.get? b = some o ∧ H b = none := fun b o e =>
  ⟨I.base.keep b o (I.ok.bs b o e).1 (I.ok.bs b o e).2 (I.ok.nofr e) (I.ok.noex b o e), I.base.free b o (I.ok.bs b o e).1 (I.ok.bs b o e).2 (I.ok.noex b o e)⟩
theorem Inv.bk (I : Inv X pins σ H s) : ∀ b o, X.base.get? b = some o → s.heap.get? b = some o := fun b o e => (I.bs b o e).1
theorem Inv.mod (I : Inv X pins σ H s) : Mod X.K X.mg X.base := I.ok.mod
theorem Inv.kIn (I : Inv X pins σ H s) : X.K.In s.heap := I.ok.mod.kin.keeps I.bk
theorem Inv.lt (I : Inv X pins σ H s) : X.env.locals < s.heap.objs.size := let ⟨_, hn, _⟩ := I.loc; hn.lt
theorem Inv.sz (I : Inv X pins σ H s) : X.s₀.heap.objs.size ≤ s.heap.objs.size := Nat.le_trans I.ok.above (Nat.le_of_lt I.lt)
theorem Inv.nofs (I : Inv X pins σ H s) {a : Addr} (h : s.heap.objs.size ≤ a) : a ∉ X.fs := fun hb => by
  obtain ⟨_, o, ho, _⟩ := I.ok.funs.mem hb
  exact absurd (Nat.lt_of_lt_of_le (Heap.lt_size ho) (Nat.le_trans I.sz h)) (Nat.lt_irrefl _)
theorem Inv.cne (I : Inv X pins σ H s) : ∀ x c, X.env.cells.lookup x = some c → c ≠ X.env.locals := fun x c e z => by
  obtain ⟨v, o, ho, hd⟩ := I.cell x c e
  obtain ⟨m, ⟨o', es, ep, ho', hd', _⟩, _⟩ := I.loc
  rw [z, ho'] at ho; cases ho; rw [hd'] at hd; cases hd
theorem Inv.funs (I : Inv X pins σ H s) : s.heap.FunFrames X.base X.outer := by
  have all : ∀ (l : List Env), (∀ b ∈ frs l, b ∈ X.fs) → X.s₀.heap.FunFrames X.base l → s.heap.FunFrames X.base l := by
    intro l
    induction l with
    | nil => intro _ _; trivial
    | cons env r ih =>
      intro hs hl
      obtain ⟨hk, ⟨L, o, hf, hn, ho, hd⟩, hr⟩ := hl
      have hL : L ∈ X.fs := hs L (by unfold frs; rw [List.filterMap_cons, hf]; exact List.mem_cons_self)
      obtain ⟨sl, e⟩ := I.base.slot L o ho (I.ok.frf L hL) hL fun z => I.ok.exfs L z hL
      exact ⟨hk, ⟨L, _, hf, hn, e, hd⟩, ih (fun b hb => hs b (by unfold frs; rw [List.filterMap_cons, hf]; exact List.mem_cons_of_mem _ hb)) hr⟩
  exact all X.outer (fun _ hb => hb) I.ok.funs

/-- the frames that run, for a call -/
theorem Inv.stack (I : Inv X pins σ H s) : s.heap.FunFrames X.base X.stack := by
  rcases I.ok.stk with e | ⟨e, hf⟩
  · rw [e]; exact I.funs
  · rw [e]
    obtain ⟨m, hn, _⟩ := I.loc
    refine .cons (by rw [I.ok.kind]; decide) hf hn ?_ I.funs
    exact Heap.get?_none_of_le (Nat.le_trans I.ok.bsz I.ok.above)
theorem Inv.stkSub (I : Inv X pins σ H s) : ∀ b ∈ frs X.stack, b ∈ X.env.locals :: X.fs := fun b hb => by
  rcases I.ok.stk with e | ⟨e, hf⟩
  · rw [e] at hb; exact List.mem_cons_of_mem _ hb
  · rw [e] at hb
    unfold frs at hb
    rw [List.filterMap_cons, hf] at hb
    exact hb
theorem Inv.stkFree (I : Inv X pins σ H s) : ∀ b ∈ frs X.stack, H b = none := fun b hb => by
  rcases List.mem_cons.mp (I.stkSub b hb) with e | hb
  · rw [e]; exact I.free
  · obtain ⟨_, o, ho, _⟩ := I.ok.funs.mem hb
    exact I.base.free b o ho (I.ok.frf b hb) fun z => I.ok.exfs b z hb

/-- THE STEP: the untracked objects but the frame and the records at ch are kept (the callers' frames up to slots), the frame's map is kept, the new abstract heap is held -/
theorem Inv.step {g' : Array GenState} {t' : Nat} {d' : Drawn} {ch : List Addr} (I : Inv X pins σ H s)
    (hch : ∀ b ∈ ch, (b ∈ X.ex ∨ X.s₀.heap.objs.size ≤ b) ∧ b ≠ X.env.locals ∧ (∀ x c, X.env.cells.lookup x = some c → c ≠ b) ∧ ∀ p ∈ X.pn ++ pins, p.1 ≠ b)
    (keep : ∀ b o, b ≠ X.env.locals → b ∉ X.fs → b ∉ ch → s.heap.get? b = some o → H b = none → h'.get? b = some o)
    (slot : ∀ b o, b ≠ X.env.locals → b ∈ X.fs → b ∉ ch → s.heap.get? b = some o → H b = none → ∃ sl, h'.get? b = some { o with slots := sl }) (free : ∀ b o, b ∉ ch → s.heap.get? b = some o → H b = none → H' b = none)
    (there : ∀ b o, b ∉ ch → s.heap.get? b = some o → ∃ o', h'.get? b = some o')
    (tups : ∀ b xs, H b = some (.tup xs) → H' b = some (.tup xs)) (frzs : ∀ b o u, H b = some (.frz o u) → H' b = some (.frz o u)) (tbls : ∀ b ps, H b = some (.tbl ps) → ∃ more, H' b = some (.tbl (ps ++ more)))
    (ns : ∀ m, s.heap.Ns X.env.locals m → h'.Ns X.env.locals m) (hok : HOk X.prog X.w H' h') (hg : AllBare g') :
    Inv X pins σ H' { s with heap := h', gens := g', drawn := d', toks := t' } := by
  have neL : ∀ b o, X.s₀.heap.get? b = some o → b ≠ X.env.locals := fun b o e => Nat.ne_of_lt (Nat.lt_of_lt_of_le (Heap.lt_size e) I.ok.above)
  have neC : ∀ b o, X.s₀.heap.get? b = some o → b ∉ X.ex → b ∉ ch := fun b o e hx hb => by
    rcases (hch b hb).1 with z | z
    · exact hx z
    · exact absurd (Nat.lt_of_lt_of_le (Heap.lt_size e) z) (Nat.lt_irrefl _)
  have cellK : ∀ x c, X.env.cells.lookup x = some c → ∀ v, s.heap.IsCell c v → h'.IsCell c v := fun x c e v ⟨o, ho, hd⟩ => by
    have nch : c ∉ ch := fun z => (hch c z).2.2.1 x c e rfl
    by_cases hc : c ∈ X.fs
    · obtain ⟨sl, q⟩ := slot c o (I.cne x c e) hc nch ho (I.freeC x c e)
      exact ⟨_, q, hd⟩
    · exact ⟨o, keep c o (I.cne x c e) hc nch ho (I.freeC x c e), hd⟩
  refine ⟨I.ok, I.os, hg, ⟨fun b o e n hb hx => ?_, fun b o e n hb hx => ?_, fun b o e n hx => ?_, fun b o e hx => ?_, fun b xs e => tups b xs (I.base.tups b xs e), fun b o xs e => frzs b o xs (I.base.frzs b o xs e), fun b ps e => ?_⟩, ?_, fun x c e => ?_, ?_, fun x c e => ?_, fun p hp => ?_, hok, I.len⟩
  · exact keep b o (neL b o e) hb (neC b o e hx) (I.base.keep b o e n hb hx) (I.base.free b o e n hx)
  · obtain ⟨sl, e1⟩ := I.base.slot b o e n hb hx
    obtain ⟨sl', e2⟩ := slot b _ (neL b o e) hb (neC b o e hx) e1 (I.base.free b o e n hx)
    exact ⟨sl', e2⟩
  · obtain ⟨o', e1⟩ := I.base.there b o e hx
    exact free b o' (neC b o e hx) e1 (I.base.free b o e n hx)
  · obtain ⟨o', e1⟩ := I.base.there b o e hx
    exact there b o' (neC b o e hx) e1
  · obtain ⟨m1, e1⟩ := I.base.tbls b ps e
    obtain ⟨m2, e2⟩ := tbls b _ e1
    exact ⟨m1 ++ m2, by rw [e2, Array.append_assoc]⟩
  · obtain ⟨m, hn, hl⟩ := I.loc
    refine ⟨m, ns m hn, fun i x v e1 e2 e3 => ?_⟩
    obtain ⟨u, r, l⟩ := hl i x v e1 e2 e3
    refine ⟨u, r, ?_⟩
    rcases l with l | ⟨k, c, e, z⟩
    · exact .inl l
    · exact .inr ⟨k, c, e, cellK x c e _ z⟩
  · obtain ⟨v, z⟩ := I.cell x c e
    exact ⟨v, cellK x c e v z⟩
  · obtain ⟨m, ⟨o, _, _, ho, _⟩, _⟩ := I.loc
    exact free _ o (fun z => (hch _ z).2.1 rfl) ho I.free
  · obtain ⟨v, o, ho, hd⟩ := I.cell x c e
    exact free c o (fun z => (hch c z).2.2.1 x c e rfl) ho (I.freeC x c e)
  · obtain ⟨e, n, ne, nf, d⟩ := I.pin p hp
    have nch : p.1 ∉ ch := fun z => (hch p.1 z).2.2.2 p hp rfl
    exact ⟨keep p.1 p.2 ne nf nch e n, free p.1 p.2 nch e n, ne, nf, d⟩
/-- .. where the frame's own object is kept too -/
theorem Inv.un {t' : Nat} (I : Inv X pins σ H s) (u : Un X.fs [] H H' s.heap h') (hok : HOk X.prog X.w H' h') : Inv X pins σ H' { s with heap := h', toks := t' } := by
  obtain ⟨m, ⟨o, es, ep, ho, r⟩, _⟩ := id I.loc
  obtain ⟨sl, hL⟩ := u.any ho I.free (by simp)
  exact I.step (g' := s.gens) (d' := s.drawn) (ch := []) (fun _ z => nomatch z) (fun b o _ hb _ e n => u.keep b o e n hb (by simp)) (fun b o _ hb _ e n => u.slot b o e n hb (by simp)) (fun b o _ e n => u.free b o e n (by simp)) (fun b o _ e => u.there b o e (by simp)) u.tups u.frzs u.tbls (fun m' hm => by
    obtain ⟨o', es', ep', ho', r'⟩ := hm
    rw [ho] at ho'; cases ho'
    exact ⟨_, es', ep', hL, r'⟩) hok I.bare
/-- behind a call (or a comprehension's block): the slots of this frame may have changed too, the records at ch may have turned -/
theorem Inv.call {g' : Array GenState} {t' : Nat} {d' : Drawn} {ch : List Addr} (I : Inv X pins σ H s) (u : Un (frs X.stack) ch H H' s.heap h') (hok : HOk X.prog X.w H' h') (hg : AllBare g')
    (hch : ∀ b ∈ ch, (b ∈ X.ex ∨ X.s₀.heap.objs.size ≤ b) ∧ b ≠ X.env.locals ∧ (∀ x c, X.env.cells.lookup x = some c → c ≠ b) ∧ ∀ p ∈ X.pn ++ pins, p.1 ≠ b) :
    Inv X pins σ H' { s with heap := h', gens := g', drawn := d', toks := t' } := by
  obtain ⟨m, ⟨o, es, ep, ho, r⟩, _⟩ := id I.loc
  obtain ⟨sl, hL⟩ := u.any ho I.free fun z => (hch _ z).2.1 rfl
  exact I.step (ch := ch) hch (fun b o hL hb hc e n => u.keep b o e n (fun z => (List.mem_cons.mp (I.stkSub b z)).elim hL hb) hc) (fun b o _ _ hc e n => u.any e n hc) (fun b o hc e n => u.free b o e n hc) (fun b o hc e => u.there b o e hc) u.tups u.frzs u.tbls (fun m' hm => by
    obtain ⟨o', es', ep', ho', r'⟩ := hm
    rw [ho] at ho'; cases ho'
    exact ⟨_, es', ep', hL, r'⟩) hok hg
/-- an untracked record of ours (an iterator) has turned -/
theorem Inv.turned {t' : Nat} {it : Addr} (I : Inv X pins σ H s) (k : ∀ b o, b ≠ it → s.heap.get? b = some o → h'.get? b = some o) (hn : H it = none) (hL : it ≠ X.env.locals)
    (h1 : it ∈ X.ex ∨ X.s₀.heap.objs.size ≤ it) (h2 : ∀ x c, X.env.cells.lookup x = some c → c ≠ it) (h3 : ∀ p ∈ X.pn ++ pins, p.1 ≠ it) : Inv X pins σ H { s with heap := h', toks := t' } := by
  have nit : ∀ b u, H b = some u → b ≠ it := fun b u e z => by rw [z, hn] at e; cases e
  refine I.step (g' := s.gens) (d' := s.drawn) (ch := [it]) (fun b hb => ?_) (fun b o _ _ hc e _ => k b o (fun z => hc (by simp [z])) e) (fun b o _ _ hc e _ => ⟨o.slots, k b o (fun z => hc (by simp [z])) e⟩) (fun _ _ _ _ n => n)
    (fun b o hc e => ⟨o, k b o (fun z => hc (by simp [z])) e⟩) (fun _ _ e => e) (fun _ _ _ e => e) (fun b ps e => ⟨#[], by rw [e]; simp⟩) (fun m hm => ?_) (fun b u e => ?_) I.bare
  · have e : b = it := by simpa using hb
    subst e
    exact ⟨h1, hL, h2, h3⟩
  · obtain ⟨o, es, ep, ho, r⟩ := hm
    exact ⟨o, es, ep, k _ o (Ne.symm hL) ho, r⟩
  · refine (I.hok b u e).stay (fun c v hc q => k c v ?_ q) (fun _ q => q) fun _ _ q => q
    rcases hc with z | z
    · rw [z]; exact nit b u e
    · exact nit c _ z
theorem Inv.tok (I : Inv X pins σ H s) (t : Nat) : Inv X pins σ H { s with toks := t } := I.un (h' := s.heap) (t' := t) Un.refl I.hok
/-- all objects kept -/
theorem Inv.kept {t' : Nat} (I : Inv X pins σ H s) (k : ∀ b u, s.heap.get? b = some u → h'.get? b = some u) : Inv X pins σ H { s with heap := h', toks := t' } := I.un (Un.kept k) (I.hok.kept k)
/-- a new object laid and tracked -/
theorem Inv.laid {a : Addr} {o : HO} {t' : Nat} (I : Inv X pins σ H s) (k : ∀ b u, s.heap.get? b = some u → h'.get? b = some u) (hp : s.heap.objs.size ≤ a) (new : ObjOk X.prog X.w (upd H a o) h' a o) :
    Inv X pins σ (upd H a o) { s with heap := h', toks := t' } := I.un (Un.laid k hp (I.hok.fresh hp)) (I.hok.laid k hp new)
/-- an object written -/
theorem Inv.write {x e : Addr} {o : HO} {t' : Nat} (I : Inv X pins σ H s) (mu : Mut (H x)) (he : e = x ∨ H e = some (.own x)) (k : ∀ b u, b ≠ e → s.heap.get? b = some u → h'.get? b = some u) (heo : ∃ u, h'.get? e = some u)
    (new : ObjOk X.prog X.w (upd H x o) h' x o) : Inv X pins σ (upd H x o) { s with heap := h', toks := t' } := I.un (Un.write mu he k heo) (I.hok.write mu he k heo new)
theorem Inv.pins_of {pins' : List (Addr × Obj)} (I : Inv X pins σ H s) (h : ∀ p ∈ pins', s.heap.get? p.1 = some p.2 ∧ H p.1 = none ∧ p.1 ≠ X.env.locals ∧ p.1 ∉ X.fs ∧ ∀ v, p.2.data ≠ .cell v) : Inv X pins' σ H s :=
  ⟨I.ok, I.os, I.bare, I.base, I.loc, I.cell, I.free, I.freeC, fun p hp => (List.mem_append.mp hp).elim (fun z => I.pin p (List.mem_append_left _ z)) (h p), I.hok, I.len⟩

theorem nodup_ix {N : List Str} (hN : N.Nodup) {i j : Nat} {x : Str} (a : N[i]? = some x) (b : N[j]? = some x) : i = j := by
  obtain ⟨h1, e1⟩ := List.getElem?_eq_some_iff.mp a
  obtain ⟨h2, e2⟩ := List.getElem?_eq_some_iff.mp b
  exact (List.getElem_inj hN).mp (e1.trans e2.symm)

/-- a name is stored; what changed -/
theorem store_ok2 {M : Model} {A : Around} {E : Value → Shared → Prop} {i : Nat} {x : Str} {v : V} {u : Value} {Q : Unit → Shared → Prop} (I : Inv X pins σ H s) (hN : X.N.Nodup) (hi : X.N[i]? = some x) (hx : Loc X.env.scope x) (r : RelV v u)
    (h : ∀ s', Inv X pins (σ.set i (some v)) H s' → (∃ a, Heap.SameBut a s.heap s'.heap ∧ (a = X.env.locals ∨ X.env.cells.lookup x = some a)) → Q () s') (hf : X.fn x = true ∨ X.env.scope.names.lookup x = some .local := by first | exact .inl rfl | exact .inr rfl | assumption) : wpAny M A (storeName X.env x u) Q E s := by
  obtain ⟨m, hn, hl⟩ := id I.loc
  have hcls : (X.env.scope.kind == .class || (X.env.scope.kind == .module && X.env.locals != X.env.globals)) = false := by rw [I.ok.kind]; rfl
  have hiσ : i < σ.length := by rw [I.len]; exact (List.getElem?_eq_some_iff.mp hi).1
  have cne := I.cne
  have tracked : ∀ {a : Addr} {h' : Heap}, (∃ o, s.heap.get? a = some o ∧ H a = none) → Heap.SameBut a s.heap h' → HOk X.prog X.w H h' := fun {a h'} ha hs b ob e => by
    obtain ⟨_, _, hfree⟩ := ha
    refine (I.hok b ob e).stay (fun c w' hc q => (hs.2 c ?_).trans q) (fun _ q => q) fun _ _ q => q
    rintro rfl
    rcases hc with rfl | hc
    · rw [hfree] at e; cases e
    · rw [hfree] at hc; cases hc
  rcases hx with hk | hk
  · refine wpAny_storeName_local hk hn (fun h' hn' hs => ?_) hcls
    obtain ⟨oL, _, _, hoL, _⟩ := id hn
    refine h _ ⟨I.ok, I.os, I.bare, ⟨fun b o e n hb hx => ?_, fun b o e n hb hx => ?_, I.base.free, fun b o e hx => ?_, I.base.tups, I.base.frzs, I.base.tbls⟩, ⟨_, hn', fun j y v' e1 e2 e3 => ?_⟩, fun y c e => ?_, I.free, I.freeC, fun p hp => ?_, tracked ⟨oL, hoL, I.free⟩ hs, by simpa using I.len⟩ ⟨_, hs, .inl rfl⟩
    · exact (hs.2 b (Nat.ne_of_lt (Nat.lt_of_lt_of_le (Heap.lt_size e) I.ok.above))).trans (I.base.keep b o e n hb hx)
    · obtain ⟨sl, e1⟩ := I.base.slot b o e n hb hx
      exact ⟨sl, (hs.2 b (Nat.ne_of_lt (Nat.lt_of_lt_of_le (Heap.lt_size e) I.ok.above))).trans e1⟩
    · obtain ⟨o', e1⟩ := I.base.there b o e hx
      exact ⟨o', (hs.2 b (Nat.ne_of_lt (Nat.lt_of_lt_of_le (Heap.lt_size e) I.ok.above))).trans e1⟩
    · by_cases hj : j = i
      · subst hj
        rw [hi] at e1; cases e1
        rw [List.getElem?_set_self hiσ] at e2
        cases e2
        exact ⟨u, r, .inl ⟨hk, by simp⟩⟩
      · rw [List.getElem?_set_ne (Ne.symm hj)] at e2
        obtain ⟨u', r', q⟩ := hl j y v' e1 e2 e3
        refine ⟨u', r', ?_⟩
        rcases q with ⟨k, e⟩ | ⟨k, c, e, z⟩
        · refine .inl ⟨k, ?_⟩
          have : y ≠ x := fun e => hj (nodup_ix hN e1 (e ▸ hi))
          simp [this, e]
        · exact .inr ⟨k, c, e, z.sameBut hs (cne y c e)⟩
    · obtain ⟨w', z⟩ := I.cell y c e
      exact ⟨w', z.sameBut hs (cne y c e)⟩
    · obtain ⟨e, n, ne, nf, d⟩ := I.pin p hp
      exact ⟨(hs.2 p.1 ne).trans e, n, ne, nf, d⟩
  · have hfn : X.fn x = true := by
      rcases hf with z | z
      · exact z
      · rw [z] at hk; cases hk
    obtain ⟨c, hc⟩ := I.ok.has x (.inl hk)
    obtain ⟨w', z⟩ := I.cell x c hc
    refine wpAny_storeName_cell I.ok.kind hk hc z (fun h' hc' hs => ?_)
    obtain ⟨oc, hoc, hocd⟩ := id z
    refine h { s with heap := h' } ⟨I.ok, I.os, I.bare, ⟨fun b o e n hb hx => ?_, fun b o e n hb hx => ?_, I.base.free, fun b o e hx => ?_, I.base.tups, I.base.frzs, I.base.tbls⟩, ⟨m, hn.sameBut hs (Ne.symm (cne x c hc)), fun j y v' e1 e2 e3 => ?_⟩, fun y c' e => ?_, I.free, I.freeC, fun p hp => ?_, tracked ⟨oc, hoc, I.freeC x c hc⟩ hs, by simpa using I.len⟩ ⟨c, hs, .inr hc⟩
    · exact (hs.2 b (Nat.ne_of_lt (Nat.lt_of_lt_of_le (Heap.lt_size e) (I.ok.cab x c hfn hc)))).trans (I.base.keep b o e n hb hx)
    · obtain ⟨sl, e1⟩ := I.base.slot b o e n hb hx
      exact ⟨sl, (hs.2 b (Nat.ne_of_lt (Nat.lt_of_lt_of_le (Heap.lt_size e) (I.ok.cab x c hfn hc)))).trans e1⟩
    · obtain ⟨o', e1⟩ := I.base.there b o e hx
      exact ⟨o', (hs.2 b (Nat.ne_of_lt (Nat.lt_of_lt_of_le (Heap.lt_size e) (I.ok.cab x c hfn hc)))).trans e1⟩
    · by_cases hj : j = i
      · subst hj
        rw [hi] at e1; cases e1
        rw [List.getElem?_set_self hiσ] at e2
        cases e2
        exact ⟨u, r, .inr ⟨.inl hk, c, hc, hc'⟩⟩
      · rw [List.getElem?_set_ne (Ne.symm hj)] at e2
        obtain ⟨u', r', q⟩ := hl j y v' e1 e2 e3
        refine ⟨u', r', ?_⟩
        rcases q with q | ⟨k, c', e, z'⟩
        · exact .inl q
        · refine .inr ⟨k, c', e, z'.sameBut hs ?_⟩
          rintro rfl
          exact hj (nodup_ix hN e1 (I.ok.inj _ _ _ e hc ▸ hi))
    · by_cases hcc : c' = c
      · subst hcc; exact ⟨_, hc'⟩
      · obtain ⟨w2, z2⟩ := I.cell y c' e
        exact ⟨w2, z2.sameBut hs hcc⟩
    · obtain ⟨e, n, ne, nf, d⟩ := I.pin p hp
      refine ⟨(hs.2 p.1 ?_).trans e, n, ne, nf, d⟩
      intro q
      rw [q, hoc] at e
      have q' : oc = p.2 := Option.some.inj e
      exact d w' (by rw [← q']; exact hocd)
theorem store_ok {M : Model} {A : Around} {E : Value → Shared → Prop} {i : Nat} {x : Str} {v : V} {u : Value} {Q : Unit → Shared → Prop} (I : Inv X pins σ H s) (hN : X.N.Nodup) (hi : X.N[i]? = some x) (hx : Loc X.env.scope x) (r : RelV v u)
    (h : ∀ s', Inv X pins (σ.set i (some v)) H s' → Q () s') (hf : X.fn x = true ∨ X.env.scope.names.lookup x = some .local := by first | exact .inl rfl | exact .inr rfl | assumption) : wpAny M A (storeName X.env x u) Q E s :=
  store_ok2 I hN hi hx r (fun s' I' _ => h s' I') hf
end

/-! ### the judgements -/
/-- an exception: its class, its own dict's address (where it has one), the abstract heap behind it -/
abbrev XK := Value → Option Addr → Hp → Prop
abbrev St := List (Option V)
abbrev VK := V → Hp → Prop
/-- an expression's reading; a test's; an argument list's -/
abbrev TE := St → Hp → VK → Prop
abbrev TT := St → Hp → (Bool → Hp → Prop) → Prop
abbrev TA := St → Hp → (List V → Hp → Prop) → Prop
/-- what is wanted behind a statement -/
structure Ends where
  nx : St → Hp → Prop
  rt : VK
  bk : St → Hp → Prop := fun _ _ => False
  ct : St → Hp → Prop := fun _ _ => False
abbrev TS := Ends → St → Hp → Prop

def EP (X : Cx) (pins : List (Addr × Obj)) (σ : St) (Q : VK) (u : Value) (s' : Shared) : Prop := ∃ v H', Inv X pins σ H' s' ∧ RelV v u ∧ Q v H'
def TP (X : Cx) (pins : List (Addr × Obj)) (σ : St) (Q : Bool → Hp → Prop) (b : Bool) (s' : Shared) : Prop := ∃ H', Inv X pins σ H' s' ∧ Q b H'
def AP (X : Cx) (pins : List (Addr × Obj)) (σ : St) (Q : List V → Hp → Prop) (us : List Value) (s' : Shared) : Prop := ∃ vs H', Inv X pins σ H' s' ∧ Vals vs us ∧ Q vs H'
def SP (X : Cx) (pins : List (Addr × Obj)) (D : Ends) (f : Flow) (s' : Shared) : Prop :=
  match f with
  | .next => ∃ σ' H', Inv X pins σ' H' s' ∧ D.nx σ' H'
  | .brk => ∃ σ' H', Inv X pins σ' H' s' ∧ D.bk σ' H'
  | .cont => ∃ σ' H', Inv X pins σ' H' s' ∧ D.ct σ' H'
  | .ret u => ∃ v σ' H', Inv X pins σ' H' s' ∧ RelV v u ∧ D.rt v H'

def PE (X : Cx) (e : Expr) (t : TE) : Prop :=
  ∀ (pins : List (Addr × Obj)) (s : Shared) (σ : St) (H : Hp) (Q : VK), Inv X pins σ H s → t σ H Q → wpAny (model X.prog X.w) X.A (eval e X.env) (EP X pins σ Q) X.xe s
def PT (X : Cx) (e : Expr) (t : TT) : Prop :=
  ∀ (pins : List (Addr × Obj)) (s : Shared) (σ : St) (H : Hp) (Q : Bool → Hp → Prop), Inv X pins σ H s → t σ H Q → wpAny (model X.prog X.w) X.A (isTrue e X.env (eval e X.env)) (TP X pins σ Q) X.xe s
/-- a test whatever its 'whole' is (and, or) -/
def PW (X : Cx) (e : Expr) (t : TT) : Prop :=
  ∀ (whole : Sem Value) (pins : List (Addr × Obj)) (s : Shared) (σ : St) (H : Hp) (Q : Bool → Hp → Prop), Inv X pins σ H s → t σ H Q → wpAny (model X.prog X.w) X.A (isTrue e X.env whole) (TP X pins σ Q) X.xe s
/-- an argument list (no star), from the left -/
def PA (X : Cx) (es : List Expr) (t : TA) : Prop :=
  ∀ (pos : Pos) (pins : List (Addr × Obj)) (s : Shared) (σ : St) (H : Hp) (Q : List V → Hp → Prop), Inv X pins σ H s → t σ H Q → wpAny (model X.prog X.w) X.A (spliced (backTo pos (starEach es X.env))) (AP X pins σ Q) X.xe s
def PS (X : Cx) (st : Stmt) (t : TS) : Prop :=
  ∀ (pins : List (Addr × Obj)) (s : Shared) (σ : St) (H : Hp) (D : Ends), Inv X pins σ H s → t D σ H → wpAny (model X.prog X.w) X.A (exec st X.env) (SP X pins D) X.xe s
def PSs (X : Cx) (st : List Stmt) (t : TS) : Prop :=
  ∀ (pins : List (Addr × Obj)) (s : Shared) (σ : St) (H : Hp) (D : Ends), Inv X pins σ H s → t D σ H → wpAny (model X.prog X.w) X.A (execs st X.env) (SP X pins D) X.xe s
/-- weaken the end -/
theorem thn {α : Type} {t : Sem α} {Q Q' : α → Shared → Prop} {M : Model} {A : Around} {E : Value → Shared → Prop} {s : Shared} (h : wpAny M A t Q E s) (hQ : ∀ a s, Q a s → Q' a s) : wpAny M A t Q' E s := wpAny_mono h hQ fun _ _ x => x
end L2

namespace L2
open PySem PySem.Spec PyProof.Rows
section
variable {X : Cx}

/-! ### names and constants -/
def tVar (i : Nat) : TE := fun σ H Q => ∃ v, σ[i]? = some (some v) ∧ Q v H
def tC (v : V) : TE := fun _ H Q => Q v H
theorem pe_var {i : Nat} {x : Str} {pos : Pos} (hN : X.N[i]? = some x) (hv : Vis X.env.scope x) (hd : (x == ("__debug__" : Str)) = false := by decide) (hcd : (x == ("__classdict__" : Str)) = false := by decide) : PE X (.Name x pos) (tVar i) := by
  intro pins s σ H Q I h
  obtain ⟨v, e, h⟩ := h
  obtain ⟨m, hn, hl⟩ := I.loc
  obtain ⟨u, r, l⟩ := hl i x v hN e hv
  have fin : EP X pins σ Q u s := ⟨v, H, I, r, h⟩
  rcases l with ⟨hk, hm⟩ | ⟨hk, c, hc, hcell⟩
  · exact wpAny_Name (wpAny_loadName_local I.ok.kind hk hn hm fin) hd
  · rcases hk with hk | hk
    · exact wpAny_Name (wpAny_loadName_cell I.ok.kind hk hc hcell fin) hd
    · exact wpAny_Name (wpAny_loadName_free I.ok.kind hk hc hcell fin hcd) hd
theorem pe_int {i j pos} : PE X (.Constant (.int i) j pos) (tC (.int i)) := fun _ _ _ H _ I h => wpAny_Constant_int ⟨.int i, H, I.tok _, ⟨_, rfl⟩, h⟩
theorem pe_bl {b j pos} : PE X (.Constant (.bool b) j pos) (tC (.bl b)) := fun _ _ _ H _ I h => Constant_bool ⟨.bl b, H, I, rfl, h⟩
theorem pe_str {x j pos} : PE X (.Constant (.str x) j pos) (tC (.str x)) := fun _ _ _ H _ I h => Calls.Constant_str ⟨.str x, H, I.tok _, ⟨_, rfl⟩, h⟩

/-- a global name of the def -/
def Gl (X : Cx) (x : Str) : Prop := X.env.kindOf x = some .globalImplicit
theorem ld_glob {E : Value → Shared → Prop} {pins : List (Addr × Obj)} {s : Shared} {σ : St} {H : Hp} {x : Str} {u : Value} {pos : Pos} {Q : Value → Shared → Prop} (I : Inv X pins σ H s) (hg : Gl X x) (hm : X.mg x = some u) (h : Q u s)
    (hd : (x == ("__debug__" : Str)) = false := by decide) : wpAny (model X.prog X.w) X.A (eval (.Name x pos) X.env) Q E s :=
  Calls.Name_function_global I.ok.kind hg (Calls.loadGlobal_global (by rw [I.ok.glob]; exact I.mod.glob.keeps I.bk) hm h) hd
theorem ld_blt {E : Value → Shared → Prop} {pins : List (Addr × Obj)} {s : Shared} {σ : St} {H : Hp} {x : Str} {u : Value} {pos : Pos} {Q : Value → Shared → Prop} (I : Inv X pins σ H s) (hg : Gl X x) (hm : X.mg x = none) (hv : bootBuiltins x = some u) (h : Q u s)
    (hn : x ≠ "__name__" := by decide) (hd : (x == ("__debug__" : Str)) = false := by decide) : wpAny (model X.prog X.w) X.A (eval (.Name x pos) X.env) Q E s := by
  obtain ⟨mb, h1, h2⟩ := I.mod.blt
  exact Calls.Name_function_global I.ok.kind hg (Calls.loadGlobal_builtin (by rw [I.ok.glob]; exact I.mod.glob.keeps I.bk) hm (by rw [I.ok.blt]; exact h1.keeps I.bk) ((h2 x hn).trans hv) h) hd
/-- a module's constant, a class, a function, as a value -/
theorem pe_glob {x : Str} {v : V} {u : Value} {pos : Pos} (hg : Gl X x) (hm : X.mg x = some u) (r : RelV v u) (hd : (x == ("__debug__" : Str)) = false := by decide) : PE X (.Name x pos) (tC v) :=
  fun _ _ _ H _ I h => ld_glob I hg hm ⟨v, H, I, r, h⟩ hd
theorem pe_bltn {x : Str} {v : V} {u : Value} {pos : Pos} (hg : Gl X x) (hm : X.mg x = none) (hv : bootBuiltins x = some u) (r : RelV v u) (hn : x ≠ "__name__" := by decide) (hd : (x == ("__debug__" : Str)) = false := by decide) : PE X (.Name x pos) (tC v) :=
  fun _ _ _ H _ I h => ld_blt I hg hm hv ⟨v, H, I, r, h⟩ hn hd

/-! ### arithmetic -/
/-- two ints -/
def t2I (ta tb : TE) (k : Int → Int → Hp → Prop) : St → Hp → Prop := fun σ H => ta σ H fun x H1 => tb σ H1 fun y H2 => ∃ i j, x = .int i ∧ y = .int j ∧ k i j H2
def tAdd (ta tb : TE) : TE := fun σ H Q => t2I ta tb (fun i j H2 => Q (.int (i + j)) H2) σ H
def tSub (ta tb : TE) : TE := fun σ H Q => t2I ta tb (fun i j H2 => Q (.int (i - j)) H2) σ H
/-- the left factor below 2^64 -/
def tMul (ta tb : TE) : TE := fun σ H Q => t2I ta tb (fun i j H2 => (-(2 ^ 64) < i ∧ i < 2 ^ 64) ∧ Q (.int (i * j)) H2) σ H
variable {a b : Expr} {ta tb : TE} {pos : Pos}
/-! ### comparisons -/
def PC (X : Cx) (op : CmpOp) (a b : Expr) (t : TE) : Prop :=
  ∀ (pins : List (Addr × Obj)) (s : Shared) (σ : St) (H : Hp) (Q : VK), Inv X pins σ H s → t σ H Q →
    wpAny (model X.prog X.w) X.A (eval a X.env) (fun v s₁ => wpAny (model X.prog X.w) X.A (eval b X.env) (fun u s₂ => wpAny (model X.prog X.w) X.A (compareOp op v u) (EP X pins σ Q) X.xe s₂) X.xe s₁) X.xe s
def tCmp (p : Int → Int → Bool) (ta tb : TE) : TE := fun σ H Q => t2I ta tb (fun i j H2 => Q (.bl (p i j)) H2) σ H
abbrev tLt : TE → TE → TE := tCmp fun i j => decide (i < j)
abbrev tLe : TE → TE → TE := tCmp fun i j => decide (i ≤ j)
abbrev tGt : TE → TE → TE := tCmp fun i j => decide (j < i)
abbrev tGe : TE → TE → TE := tCmp fun i j => decide (j ≤ i)
abbrev tEqI : TE → TE → TE := tCmp fun i j => decide (i = j)
abbrev tNeI : TE → TE → TE := tCmp fun i j => !decide (i = j)
/-- is None -/
def tIsN (ta : TE) : TE := fun σ H Q => ta σ H fun x H1 => Q (.bl (decide (x = .non))) H1
def tNotN (ta : TE) : TE := fun σ H Q => ta σ H fun x H1 => Q (.bl (!decide (x = .non))) H1
/-- a comparison as a value, as a test -/
def tB (t : TE) : TT := fun σ H Q => t σ H fun x H1 => ∃ c, x = .bl c ∧ Q c H1
/-- an expression whose value is a bool, as a test -/
theorem pt_val {e : Expr} {t : TE} (h : PE X e t) (he : ∀ whole, isTrue e X.env whole = (do let v ← whole; standAt e.pos; holding [v] (truthy v)) := by intro _; rfl) : PT X e (tB t) := by
  intro pins s σ H Q I hw
  refine isTrue_plain (thn (h pins s σ H _ I hw) fun v s1 ⟨x, H1, I1, r1, q1⟩ => ?_) (he _)
  obtain ⟨d, rfl, q⟩ := q1
  cases r1
  exact wpAny_truthy_bool ⟨H1, I1, q⟩

/-! ### and, or, not -/
variable {tA tB' : TT} {rest : List Expr}
def tAnd (t u : TT) : TT := fun σ H Q => t σ H fun c H1 => if c = true then u σ H1 Q else Q false H1
def tOr (t u : TT) : TT := fun σ H Q => t σ H fun c H1 => if c = true then Q true H1 else u σ H1 Q
def tNot (t : TT) : TT := fun σ H Q => t σ H fun c H1 => Q (!c) H1
theorem pt_not (ha : PT X a tA) : PT X (.UnaryOp .Not a pos) (tNot tA) := by
  intro pins s σ H Q I h
  exact isTrue_not (ha pins s σ H (fun c H1 => Q (!c) H1) I h)
/-- .. as values (bools) -/
def tAndV (ta tb : TE) : TE := fun σ H Q => ta σ H fun x H1 => ∃ c, x = .bl c ∧ if c = true then tb σ H1 Q else Q (.bl false) H1
def tOrV (ta tb : TE) : TE := fun σ H Q => ta σ H fun x H1 => ∃ c, x = .bl c ∧ if c = true then Q (.bl true) H1 else tb σ H1 Q
def tNotV (ta : TE) : TE := fun σ H Q => ta σ H fun x H1 => ∃ c, x = .bl c ∧ Q (.bl (!c)) H1
theorem pe_one {op} {t : TE} (h : PE X a t) : PE X (.BoolOp op [a] pos) t := fun pins s σ H Q I hw => BoolOp_one (h pins s σ H Q I hw)
theorem pe_and (ha : PE X a ta) (hb : PE X (.BoolOp .And (b :: rest) pos) tb) : PE X (.BoolOp .And (a :: b :: rest) pos) (tAndV ta tb) := by
  intro pins s σ H Q I h
  refine BoolOp_and (thn (ha pins s σ H _ I h) fun v s1 ⟨x, H1, I1, r1, q1⟩ => ?_)
  obtain ⟨c, rfl, q1⟩ := q1
  cases r1
  refine wpAny_truthy_bool ?_
  cases c with
  | true => exact hb pins s1 σ H1 Q I1 q1
  | false => exact ⟨.bl false, H1, I1, rfl, q1⟩
theorem pe_not (ha : PE X a ta) : PE X (.UnaryOp .Not a pos) (tNotV ta) := by
  intro pins s σ H Q I h
  refine UnaryOp_ (thn (ha pins s σ H _ I h) fun v s1 ⟨x, H1, I1, r1, q1⟩ => ?_)
  obtain ⟨c, rfl, q1⟩ := q1
  cases r1
  exact not_of (wpAny_truthy_bool ⟨.bl (!c), H1, I1, rfl, q1⟩)
/-- a if t else b -/
def tIf (t : TT) (ta tb : TE) : TE := fun σ H Q => t σ H fun c H1 => if c = true then ta σ H1 Q else tb σ H1 Q
end
end L2

namespace L2
open PySem PySem.Spec PyProof.Rows

/-! ### a list, a tuple that is read: tracked, frozen, or an object of the module -/
def SqL (K : PySem.W.Frag) (H : Hp) (a : Addr) (xs : List V) : Prop :=
  Rd H a (.lst xs) ∨
    ∃ (o : Obj) (its : Array Value) (n : Nat), K.lookup a = some o ∧ o.cls = .type "list" ∧ o.dict = none ∧ o.data = .seq its n ∧ its.size ≤ sizeLine ∧ Vals xs its.toList
def SqT (K : PySem.W.Frag) (H : Hp) (a : Addr) (xs : List V) : Prop :=
  Rd H a (.tup xs) ∨
    ∃ (o : Obj) (its : Array Value) (n : Nat), K.lookup a = some o ∧ o.cls = .type "tuple" ∧ o.data = .seq its n ∧ its.size ≤ sizeLine ∧ Vals xs its.toList
def absV : Value → Option V
  | .none => some .non
  | .bool b => some (.bl b)
  | .int i _ => some (.int i)
  | .str x _ => some (.str x)
  | .bytes b _ => some (.byt b)
  | .float b _ => some (.flt b)
  | .ref a => some (.ref a)
  | .type n => some (.ty n)
  | _ => none
theorem RelV.abs {x : V} {u : Value} (r : RelV x u) : absV u = some x := by
  cases x with
  | non => cases r; rfl
  | bl _ => cases r; rfl
  | int _ => obtain ⟨t, rfl⟩ := r; rfl
  | str _ => obtain ⟨t, rfl⟩ := r; rfl
  | byt _ => obtain ⟨t, rfl⟩ := r; rfl
  | flt _ => obtain ⟨t, rfl⟩ := r; rfl
  | ref _ => cases r; rfl
  | ty _ => cases r; rfl
theorem RelV.inj {x y : V} {u : Value} (r : RelV x u) (q : RelV y u) : x = y := Option.some.inj (r.abs.symm.trans q.abs)
theorem Vals.inj : ∀ {xs ys : List V} {us : List Value}, Vals xs us → Vals ys us → xs = ys
  | _, _, _, .nil, .nil => rfl
  | _, _, _, .cons r t, .cons r' t' => by rw [r.inj r', Vals.inj t t']
section
variable {X : Cx} {pins : List (Addr × Obj)} {σ : St} {H : Hp} {s : Shared} {a : Addr} {xs ys : List V}
theorem SqL.of {K : PySem.W.Frag} (h : H a = some (.lst xs)) : SqL K H a xs := .inl (.inl h)
theorem SqT.of {K : PySem.W.Frag} (h : H a = some (.tup xs)) : SqT K H a xs := .inl (.inl h)
theorem Inv.list (I : Inv X pins σ H s) (h : SqL X.K H a xs) : ∃ its : List Value, Vals xs its ∧ PlainL s.heap a its.toArray ∧ xs.length ≤ sizeLine := by
  rcases h with h | ⟨o, its, n, hk, hc, hd, hs, hz, r⟩
  · obtain ⟨z, its, n, r, e⟩ := h.ok I.hok
    exact ⟨its, r, ⟨_, n, e, rfl, rfl, rfl⟩, z⟩
  · refine ⟨its.toList, r, ⟨o, n, I.kIn a o hk, hc, hd, by simpa using hs⟩, ?_⟩
    have e := r.length
    simp only [Array.length_toList] at e
    omega
theorem Inv.tuple (I : Inv X pins σ H s) (h : SqT X.K H a xs) : ∃ its : List Value, Vals xs its ∧ IsTup s.heap a its.toArray ∧ xs.length ≤ sizeLine := by
  rcases h with h | ⟨o, its, n, hk, hc, hs, hz, r⟩
  · obtain ⟨z, its, r, p⟩ := h.ok I.hok
    exact ⟨its, r, p, z⟩
  · refine ⟨its.toList, r, ⟨o, I.kIn a o hk, hc, n, by simpa using hs⟩, ?_⟩
    have e := r.length
    simp only [Array.length_toList] at e
    omega
theorem Inv.list_inj (I : Inv X pins σ H s) (h : SqL X.K H a xs) (h' : SqL X.K H a ys) : xs = ys := by
  obtain ⟨its, r, ⟨o, n, e, _, _, d⟩, _⟩ := I.list h
  obtain ⟨its', r', ⟨o', n', e', _, _, d'⟩, _⟩ := I.list h'
  rw [e] at e'; cases e'
  rw [d] at d'
  injection d' with d1 _
  have : its = its' := by simpa using congrArg Array.toList d1
  subst this
  exact r.inj r'
end

/-! ### another wish about exceptions -/
abbrev Cx.wish (X : Cx) (E : Value → Shared → Prop) : Cx := { X with xe := E }
/-- no exception leaves -/
abbrev Cx.nox (X : Cx) : Cx := X.wish fun _ _ => False
theorem Cx.Ok.wish {X : Cx} (ok : X.Ok) (E : Value → Shared → Prop) : (X.wish E).Ok :=
  ⟨ok.mod, ok.kind, ok.glob, ok.blt, ok.above, ok.inj, ok.has, ok.cab, ok.hd, ok.frames, ok.stk, ok.exf, ok.bs, ok.bsz, ok.noex, ok.exfs, ok.funs, ok.frf⟩
theorem Cx.Ok.unwish {X : Cx} {E : Value → Shared → Prop} (ok : (X.wish E).Ok) : X.Ok :=
  ⟨ok.mod, ok.kind, ok.glob, ok.blt, ok.above, ok.inj, ok.has, ok.cab, ok.hd, ok.frames, ok.stk, ok.exf, ok.bs, ok.bsz, ok.noex, ok.exfs, ok.funs, ok.frf⟩
section
variable {X : Cx} {pins : List (Addr × Obj)} {σ : St} {H : Hp} {s : Shared} {E : Value → Shared → Prop}
theorem Inv.wish (I : Inv X pins σ H s) (E : Value → Shared → Prop) : Inv (X.wish E) pins σ H s := ⟨I.ok.wish E, I.os, I.bare, I.base, I.loc, I.cell, I.free, I.freeC, I.pin, I.hok, I.len⟩
theorem Inv.unwish (I : Inv (X.wish E) pins σ H s) : Inv X pins σ H s := ⟨I.ok.unwish, I.os, I.bare, I.base, I.loc, I.cell, I.free, I.freeC, I.pin, I.hok, I.len⟩
theorem SP.unwish {D : Ends} {f : Flow} {s' : Shared} (h : SP (X.wish E) pins D f s') : SP X pins D f s' := by
  cases f with
  | next => obtain ⟨σ', H', I, q⟩ := h; exact ⟨σ', H', I.unwish, q⟩
  | brk => obtain ⟨σ', H', I, q⟩ := h; exact ⟨σ', H', I.unwish, q⟩
  | cont => obtain ⟨σ', H', I, q⟩ := h; exact ⟨σ', H', I.unwish, q⟩
  | ret u => obtain ⟨v, σ', H', I, r, q⟩ := h; exact ⟨v, σ', H', I.unwish, r, q⟩
theorem PSs.nox {st : List Stmt} {t : TS} (h : PSs X.nox st t) : PSs X st t := fun pins s σ H D I hw =>
  wpAny_mono (h pins s σ H D (I.wish _) hw) (fun _ _ q => q.unwish) fun _ _ z => False.elim z
end

/-! ### blocks and small statements -/
section
variable {X : Cx} {st : Stmt} {rest : List Stmt} {t u : TS} {e : Expr} {te : TE} {pos : Pos}
def tNext : TS := fun D σ H => D.nx σ H
def tSeq (t u : TS) : TS := fun D σ H => t { D with nx := u D } σ H
theorem pss_nil : PSs X [] tNext := fun _ _ σ H _ I h => wpAny_execs_nil ⟨σ, H, I, h⟩
theorem pss_cons (h1 : PS X st t) (h2 : PSs X rest u) : PSs X (st :: rest) (tSeq t u) := by
  intro pins s σ H D I h
  refine wpAny_execs_cons (thn (h1 pins s σ H { D with nx := u D } I h) fun f s1 q => ?_)
  cases f with
  | next =>
    obtain ⟨σ', H', I', q⟩ := q
    exact h2 pins s1 σ' H' D I' q
  | ret v => exact q
  | brk => exact q
  | cont => exact q
theorem pss_one (h1 : PS X st t) : PSs X [st] t := by
  intro pins s σ H D I h
  refine wpAny_execs_cons (thn (h1 pins s σ H D I h) fun f s1 q => ?_)
  cases f with
  | next => exact wpAny_execs_nil q
  | ret v => exact q
  | brk => exact q
  | cont => exact q
def tBreak : TS := fun D σ H => D.bk σ H
def tCont : TS := fun D σ H => D.ct σ H
/-- in a def's body nothing is shown -/
theorem Inv.quiet {pins : List (Addr × Obj)} {σ : St} {H : Hp} {s : Shared} (I : Inv X pins σ H s) : interactive X.env = false := by simp [interactive, I.ok.kind]
/-- an expression whose value is dropped -/
def tDrop (te : TE) : TS := fun D σ H => te σ H fun _ H1 => D.nx σ H1
theorem ps_expr (he : PE X e te) (hs : swapsWith e none pos.line X.env = pure false := by rfl) : PS X (.Expr e pos) (tDrop te) := by
  intro pins s σ H D I h
  exact wpAny_Expr_any (thn (he pins s σ H _ I h) fun v s1 ⟨x, H1, I1, r1, q1⟩ => ⟨σ, H1, I1, q1⟩) I.quiet hs
def tRet (te : TE) : TS := fun D σ H => te σ H D.rt
theorem ps_ret (he : PE X e te) : PS X (.Return (some e) pos) (tRet te) := by
  intro pins s σ H D I h
  exact wpAny_Return_some (thn (he pins s σ H _ I h) fun v s1 ⟨x, H1, I1, r1, q1⟩ => ⟨x, σ, H1, I1, r1, q1⟩)
def tRetN : TS := fun D _ H => D.rt .non H
def tIfS (c : TT) (t u : TS) : TS := fun D σ H => c σ H fun b H1 => if b = true then t D σ H1 else u D σ H1
theorem ps_if {c : Expr} {a b : List Stmt} {tc : TT} (hc : PT X c tc) (ha : PSs X a t) (hb : PSs X b u) : PS X (.If c a b pos) (tIfS tc t u) := by
  intro pins s σ H D I h
  refine wpAny_If (thn (hc pins s σ H _ I h) fun d s1 ⟨H1, I1, q1⟩ => ?_)
  cases d with
  | true => exact ha pins s1 σ H1 D I1 q1
  | false => exact hb pins s1 σ H1 D I1 q1
/-- code that the proof never comes to -/
def tNever : TS := fun _ _ _ => False
theorem ps_never : PS X st tNever := fun _ _ _ _ _ _ h => h.elim
end

/-! ### targets -/
abbrev TG := V → St → Hp → (St → Hp → Prop) → Prop
abbrev TGs := List V → St → Hp → (St → Hp → Prop) → Prop
def PG (X : Cx) (target : Expr) (t : TG) : Prop :=
  ∀ (pins : List (Addr × Obj)) (s : Shared) (σ : St) (H : Hp) (v : V) (u : Value) (Q : St → Hp → Prop), Inv X pins σ H s → RelV v u → t v σ H Q →
    wpAny (model X.prog X.w) X.A (assign target X.env u) (fun _ s' => ∃ σ' H', Inv X pins σ' H' s' ∧ Q σ' H') X.xe s
/-- several targets, one after another -/
def PGs (X : Cx) (ts : List Expr) (t : TGs) : Prop :=
  ∀ (pins : List (Addr × Obj)) (s : Shared) (σ : St) (H : Hp) (vs : List V) (us : List Value) (Q : St → Hp → Prop), Inv X pins σ H s → Vals vs us → t vs σ H Q →
    wpAny (model X.prog X.w) X.A (assignInOrder ((assignEach ts X.env).map (·.2)) us) (fun _ s' => ∃ σ' H', Inv X pins σ' H' s' ∧ Q σ' H') X.xe s
/-- o[i] = v, by values -/
abbrev TSet := V → V → V → Hp → (Hp → Prop) → Prop
def PSet (X : Cx) (t : TSet) : Prop :=
  ∀ (pins : List (Addr × Obj)) (s : Shared) (σ : St) (H : Hp) (o i v : V) (ov iv u : Value) (Q : Hp → Prop), Inv X pins σ H s → RelV o ov → RelV i iv → RelV v u → t o i v H Q →
    wpAny (model X.prog X.w) X.A (setItem ov iv u) (fun _ s' => ∃ H', Inv X pins σ H' s' ∧ Q H') X.xe s
/-- a op= b, by values -/
abbrev TIp := V → V → Hp → VK → Prop
def PIp (X : Cx) (op : Operator) (t : TIp) : Prop :=
  ∀ (pins : List (Addr × Obj)) (s : Shared) (σ : St) (H : Hp) (x y : V) (v u : Value) (Q : VK), Inv X pins σ H s → RelV x v → RelV y u → t x y H Q →
    wpAny (model X.prog X.w) X.A (inplaceOp op v u) (EP X pins σ Q) X.xe s
section
variable {X : Cx} {pos : Pos}
def gName (i : Nat) : TG := fun v σ H Q => Q (σ.set i (some v)) H
theorem pg_name {i : Nat} {x : Str} (hN : X.N.Nodup) (hi : X.N[i]? = some x) (hx : Loc X.env.scope x) (hf : X.fn x = true ∨ X.env.scope.names.lookup x = some .local := by first | exact .inl rfl | exact .inr rfl | assumption) : PG X (.Name x pos) (gName i) := by
  intro pins s σ H v u Q I r h
  exact wpAny_assign_Name (store_ok I hN hi hx r (fun s' I' => ⟨_, H, I', h⟩) hf)
def gNil : TGs := fun vs σ H Q => vs = [] ∧ Q σ H
def gCons (t : TG) (u : TGs) : TGs := fun vs σ H Q => ∃ v r, vs = v :: r ∧ t v σ H fun σ' H' => u r σ' H' Q
/-- (a, b, ..) = a tuple of that length -/
def gTup (K : PySem.W.Frag) (n : Nat) (t : TGs) : TG := fun v σ H Q => ∃ a xs, v = .ref a ∧ SqT K H a xs ∧ xs.length = n ∧ t xs σ H Q
/-- o[i] = .. -/
def gSub (to ti : TE) (t : TSet) : TG := fun v σ H Q => to σ H fun o H1 => ti σ H1 fun i H2 => t o i v H2 fun H3 => Q σ H3
/-- target = value -/
def tAsg (te : TE) (g : TG) : TS := fun D σ H => te σ H fun x H1 => g x σ H1 D.nx
/-- name = value -/
theorem ps_set {i : Nat} {x : Str} {e : Expr} {te : TE} {pos' : Pos} (hN : X.N.Nodup) (hi : X.N[i]? = some x) (hx : Loc X.env.scope x) (he : PE X e te) (hs : swapsWith e (some (.Name x pos')) pos.line X.env = pure false := by rfl) (hf : X.fn x = true ∨ X.env.scope.names.lookup x = some .local := by first | exact .inl rfl | exact .inr rfl | assumption) :
    PS X (.Assign [.Name x pos'] e pos) (tAsg te (gName i)) := by
  intro pins s σ H D I h
  refine wpAny_Assign_Name (thn (he pins s σ H _ I h) fun v s1 ⟨y, H1, I1, r1, q1⟩ => ?_) hs
  exact store_ok I1 hN hi hx r1 (fun s2 I2 => ⟨_, H1, I2, q1⟩) hf
/-- a, b = x, y with plain local names: stored from the right; the pair itself is not tracked (the opening rows as in PyProof/Rows/TupAssign.lean:23) -/
def tPar (i j : Nat) (ta : TA) : TS := fun D σ H => ta σ H fun vs H1 => ∃ v w, vs = [v, w] ∧ D.nx ((σ.set i (some v)).set j (some w)) H1
/-- name op= e -/
def tAug (i : Nat) (te : TE) (ti : TIp) : TS := fun D σ H => ∃ x, σ[i]? = some (some x) ∧ te σ H fun y H1 => ti x y H1 fun z H2 => D.nx (σ.set i (some z)) H2
/-- o[i] op= e -/
def tAugS (to ti te : TE) (tget : V → V → Hp → VK → Prop) (tip : TIp) (tset : TSet) : TS := fun D σ H => to σ H fun o H1 => ti σ H1 fun i H2 => tget o i H2 fun x H3 => te σ H3 fun y H4 => tip x y H4 fun z H5 => tset o i z H5 fun H6 => D.nx σ H6
/-- o[i], by values -/
def PGet (X : Cx) (t : V → V → Hp → VK → Prop) : Prop :=
  ∀ (pins : List (Addr × Obj)) (s : Shared) (σ : St) (H : Hp) (o i : V) (ov iv : Value) (Q : VK), Inv X pins σ H s → RelV o ov → RelV i iv → t o i H Q →
    wpAny (model X.prog X.w) X.A (getItem ov iv) (EP X pins σ Q) X.xe s
/-- ints -/
def ipI (f : Int → Int → Int) : TIp := fun x y H Q => ∃ i j, x = .int i ∧ y = .int j ∧ Q (.int (f i j)) H
end

/-! ### while -/
section
variable {X : Cx} {pos : Pos}
/-- the invariant W with its measure -/
def tWhile (c : TT) (tb : TS) : TS := fun D σ H => ∃ W : Nat → St → Hp → Prop, (∃ m, W m σ H) ∧ ∀ m σ H, W m σ H →
  c σ H fun b H1 => if b = true then ∃ N : St → Hp → Prop, (∀ σ' H', N σ' H' → ∃ m', m' < m ∧ W m' σ' H') ∧ tb { D with nx := N, ct := N, bk := D.nx } σ H1 else D.nx σ H1
end

/-! ### what a loop or a comprehension walks -/
/-- at turn i: it yields x (the heap may grow), or it stops -/
structure It where
  go : Nat → Hp → Prop
  yld : Nat → Hp → V → Hp → Prop
  stop : Nat → Hp → Prop
/-- the iterator's own objects may turn: they are not the frame's, not pinned, younger than the entry (or a comprehension's own) -/
def FpOk (X : Cx) (pins : List (Addr × Obj)) (H : Hp) (b : Addr) : Prop :=
  H b = none ∧ b ≠ X.env.locals ∧ b ∉ X.fs ∧ (b ∈ X.ex ∨ X.s₀.heap.objs.size ≤ b) ∧ (∀ x c, X.env.cells.lookup x = some c → c ≠ b) ∧ ∀ p ∈ X.pn ++ pins, p.1 ≠ b
theorem Inv.fpOk {X : Cx} {pins : List (Addr × Obj)} {σ : St} {H H' : Hp} {s : Shared} {b : Addr} (I : Inv X pins σ H s) (hb : s.heap.objs.size ≤ b) (hn : H' b = none) : FpOk X pins H' b := by
  refine ⟨hn, Nat.ne_of_gt (Nat.lt_of_lt_of_le I.lt hb), I.nofs hb, .inr (Nat.le_trans I.sz hb), fun x c e z => ?_, fun p hp z => ?_⟩
  · obtain ⟨v, q⟩ := I.cell x c e
    exact absurd (Nat.lt_of_lt_of_le q.lt (by rw [z]; exact hb)) (Nat.lt_irrefl _)
  · exact absurd (Nat.lt_of_lt_of_le (Heap.lt_size (I.pin p hp).1) (by rw [z]; exact hb)) (Nat.lt_irrefl _)
structure Turn (P : Program) (w : World) (K : PySem.W.Frag) (tg : Expr) (J : It) (fp : List Addr) (it : Addr) (tn : Nat → Heap → Prop) : Prop where
  mem : it ∈ fp
  obj : ∀ i h, tn i h → ∀ b ∈ fp, ∃ o, h.get? b = some o ∧ ∀ v, o.data ≠ .cell v
  keep : ∀ i h h', tn i h → (∀ b ∈ fp, ∀ o, h.get? b = some o → h'.get? b = some o) → tn i h'
  item : ∀ (X : Cx), X.prog = P → X.w = w → X.K = K → X.calm = true → ∀ (i : Nat) (pins : List (Addr × Obj)) (s : Shared) (σ : St) (H : Hp) (E : Value → Shared → Prop), Inv X pins σ H s → (∀ b ∈ fp, FpOk X pins H b) → tn i s.heap → J.go i H →
    wpAny (model P w) X.A (pyNext (.ref it)) (fun r s1 => ∃ u, r = some u ∧
      wpAny (model P w) X.A (letOwnedTupleGo tg (.ref it) u) (fun _ s2 => ∃ x H', Inv X pins σ H' s2 ∧ RelV x u ∧ J.yld i H x H' ∧ tn (i + 1) s2.heap ∧ ∀ b ∈ fp, H' b = none) E s1) E s
  done : ∀ (X : Cx), X.prog = P → X.w = w → X.K = K → X.calm = true → ∀ (i : Nat) (pins : List (Addr × Obj)) (s : Shared) (σ : St) (H : Hp) (E : Value → Shared → Prop), Inv X pins σ H s → (∀ b ∈ fp, FpOk X pins H b) → tn i s.heap → J.stop i H →
    wpAny (model P w) X.A (pyNext (.ref it)) (fun r s1 => r = none ∧ Inv X pins σ H s1) E s
  self : ∀ (A : Around) (i : Nat) (s : Shared) (Q : Value → Shared → Prop) (E : Value → Shared → Prop), tn i s.heap → Q (.ref it) s → wpAny (model P w) A (pyIter (.ref it)) Q E s
abbrev TI := St → Hp → (It → Hp → Prop) → Prop
/-- an iterator has come -/
def PIE (X : Cx) (pins : List (Addr × Obj)) (σ : St) (tg : Expr) (R : It → Hp → Prop) (itv : Value) (s2 : Shared) : Prop :=
  ∃ (it : Addr) (fp : List Addr) (tn : Nat → Heap → Prop) (J : It) (H' : Hp), itv = .ref it ∧ Inv X pins σ H' s2 ∧ Turn X.prog X.w X.K tg J fp it tn ∧ tn 0 s2.heap ∧ (∀ b ∈ fp, FpOk X pins H' b) ∧ R J H'
def PI (X : Cx) (tg iter : Expr) (wi : TI) : Prop :=
  ∀ (pins : List (Addr × Obj)) (s : Shared) (σ : St) (H : Hp) (R : It → Hp → Prop), Inv X pins σ H s → wi σ H R →
    wpAny (model X.prog X.w) X.A (eval iter X.env) (fun v s1 => wpAny (model X.prog X.w) X.A (pyIter v) (PIE X pins σ tg R) X.xe s1) X.xe s

/-- the step ahead of the store is nothing for an iterator that keeps no tuple -/
theorem go_of {M : Model} {A : Around} {E : Value → Shared → Prop} {s : Shared} {tg : Expr} {it : Addr} {u : Value} {o : Obj} {n : String} {vs : Array Value} {Q : Unit → Shared → Prop} (ho : s.heap.get? it = some o) (hc : o.cls = .type n) (hd : o.data = .fields vs)
    (hn : ["enumerate", "zip", "dict_itemiterator", "dict_reverseitemiterator", "odict_iterator", "itertools.zip_longest", "itertools.pairwise"].contains n = false) (hQ : Q () s) : wpAny M A (letOwnedTupleGo tg (.ref it) u) Q E s := by
  unfold letOwnedTupleGo
  cases tg <;> first
    | exact wpAny_pure hQ
    | (cases u <;> first
        | exact wpAny_pure hQ
        | (refine wpAny_bind (wpAny_load ho ?_)
           rw [hc, hd]
           show wpAny M A (if (["enumerate", "zip", "dict_itemiterator", "dict_reverseitemiterator", "odict_iterator", "itertools.zip_longest", "itertools.pairwise"].contains n && vs[0]? == some (rawInt _)) = true then _ else _) Q E s
           rw [if_neg (by intro h; rw [hn, Bool.false_and] at h; cases h)]
           exact wpAny_pure hQ))

/-- the list at a, as it stands at each turn (a loop may append to it) -/
def Itl (K : PySem.W.Frag) (a : Addr) : It :=
  ⟨fun i H => ∃ xs x, SqL K H a xs ∧ xs[i]? = some x, fun i H x H' => H' = H ∧ ∀ xs, SqL K H a xs → xs[i]? = some x, fun i H => ∃ xs, SqL K H a xs ∧ xs.length ≤ i⟩
def Itt (K : PySem.W.Frag) (a : Addr) : It :=
  ⟨fun i H => ∃ xs x, SqT K H a xs ∧ xs[i]? = some x, fun i H x H' => H' = H ∧ ∀ xs, SqT K H a xs → xs[i]? = some x, fun i H => ∃ xs, SqT K H a xs ∧ xs.length ≤ i⟩
/-- lo, lo + 1, .. (n of them) -/
def Itr (lo : Int) (n : Nat) : It := ⟨fun i _ => i < n, fun i H x H' => H' = H ∧ x = .int (lo + i), fun i _ => n ≤ i⟩
theorem turn_list {P : Program} {w : World} {K : PySem.W.Frag} {tg : Expr} (a it : Addr) : Turn P w K tg (Itl K a) [it] it (fun i h => h.IsListIter it a i) where
  mem := by simp
  obj := fun i h st b hb => by
    have e : b = it := by simpa using hb
    subst e
    obtain ⟨o, e, c, d⟩ := st
    exact ⟨o, e, fun v z => by rw [d] at z; cases z⟩
  keep := fun i h h' st k => st.at fun o e => k it (by simp) o e
  item := by
    intro X hP hw hK hc i pins s σ H E I hf st hg
    subst hP hw hK
    obtain ⟨xs, x, hq, hx⟩ := hg
    obtain ⟨its, rv, p, hz⟩ := I.list hq
    obtain ⟨u, hu, ru⟩ := rv.get hx
    obtain ⟨f0, f1, f2, f3, f4, f5⟩ := hf it (by simp)
    refine wpAny_pyNext_list_item st p.isList (x := u) (by simpa using hu) fun h' st' sb => ?_
    have I1 : Inv X pins σ H { s with heap := h' } := I.turned (t' := s.toks) (fun b o hb e => (sb.2 b hb).trans e) f0 f1 f3 f4 f5
    obtain ⟨o, e, c, d⟩ := id st'
    exact ⟨u, rfl, go_of (s := { s with heap := h' }) e c d (by decide) ⟨x, H, I1, ru, ⟨rfl, fun ys hy => by rw [I.list_inj hy hq]; exact hx⟩, st', fun b hb => (hf b hb).1⟩⟩
  done := by
    intro X hP hw hK hc i pins s σ H E I hf st hg
    subst hP hw hK
    obtain ⟨xs, hq, hx⟩ := hg
    obtain ⟨its, rv, p, hz⟩ := I.list hq
    obtain ⟨f0, f1, f2, f3, f4, f5⟩ := hf it (by simp)
    have hl := rv.length
    exact wpAny_pyNext_list_end (I.ok.hd hc) st p.isList (by simp; omega) fun h' eb => ⟨rfl, I.turned (t' := s.toks) (fun b o hb e => eb b o hb e) f0 f1 f3 f4 f5⟩
  self := fun _ _ _ _ _ st h => wpAny_pyIter_listiter st h
theorem turn_range {P : Program} {w : World} {K : PySem.W.Frag} {tg : Expr} (it : Addr) (lo : Int) (n : Nat) : Turn P w K tg (Itr lo n) [it] it (fun i h => IsRangeIter h it (lo + (i : Nat) * 1) ((n : Int) - (i : Nat)) 1) where
  mem := by simp
  obj := fun i h st b hb => by
    have e : b = it := by simpa using hb
    subst e
    exact ⟨_, st, fun v z => by
      have z' : Data.fields _ = Data.cell v := z
      cases z'⟩
  keep := fun i h h' st k => k it (by simp) _ st
  item := by
    intro X hP hw hK hc i pins s σ H E I hf st hg
    subst hP hw hK
    obtain ⟨f0, f1, f2, f3, f4, f5⟩ := hf it (by simp)
    have W := Walks.range (prog := X.prog) (w := X.w) (I.ok.hd hc) it lo 1 n
    refine W.item i s _ _ hg st fun v h' tk hv st' kk => ?_
    obtain ⟨t, rfl⟩ := hv
    have I1 : Inv X pins σ H { s with heap := h', toks := tk } := I.turned (fun b o hb e => kk b o (by simpa using hb) e) f0 f1 f3 f4 f5
    refine ⟨_, rfl, go_of (s := { s with heap := h', toks := tk }) (n := "range_iterator") st' rfl rfl (by decide) ⟨.int (lo + i), H, I1, ⟨t, ?_⟩, ⟨rfl, rfl⟩, st', fun b hb => (hf b hb).1⟩⟩
    rw [Int.mul_one]
  done := by
    intro X hP hw hK hc i pins s σ H E I hf st hg
    subst hP hw hK
    obtain ⟨f0, f1, f2, f3, f4, f5⟩ := hf it (by simp)
    exact wpAny_pyNext_range_end (I.ok.hd hc) st (by have : n ≤ i := hg; omega) fun h' eb => ⟨rfl, I.turned (t' := s.toks) (fun b o hb e => eb b o hb e) f0 f1 f3 f4 f5⟩
  self := fun _ _ _ _ _ st h => wpAny_pyIter_rangeiter st h
end L2

namespace L2
open PySem PySem.Spec PyProof.Rows
section
variable {X : Cx} {tg : Expr}
def iList (K : PySem.W.Frag) (tl : TE) : TI := fun σ H R => tl σ H fun x H1 => ∃ a, x = .ref a ∧ (∃ xs, SqL K H1 a xs) ∧ R (Itl K a) H1
def iTup (K : PySem.W.Frag) (tl : TE) : TI := fun σ H R => tl σ H fun x H1 => ∃ a, x = .ref a ∧ (∃ xs, SqT K H1 a xs) ∧ R (Itt K a) H1
theorem pi_list {l : Expr} {tl : TE} (hl : PE X l tl) : PI X tg l (iList X.K tl) := by
  intro pins s σ H R I h
  refine thn (hl pins s σ H _ I h) fun v s1 ⟨x, H1, I1, r1, q1⟩ => ?_
  obtain ⟨a, e, ⟨xs, hq⟩, q⟩ := q1
  subst e
  cases r1
  obtain ⟨its, rv, p, hz⟩ := I1.list hq
  refine wpAny_pyIter_list p.isList ?_
  refine ⟨s1.heap.objs.size, [s1.heap.objs.size], _, _, H1, rfl, I1.kept (t' := s1.toks) fun b o e => Heap.get?_push_of_some _ e, turn_list a _, ⟨_, Heap.get?_push_size _ rfl, rfl, rfl⟩, fun b hb => ?_, q⟩
  have e : b = s1.heap.objs.size := by simpa using hb
  subst e
  exact I1.fpOk (Nat.le_refl _) (I1.hok.fresh (Nat.le_refl _))
/-- a range object just made, walked -/
theorem range_it {pins : List (Addr × Obj)} {σ : St} {H : Hp} {s : Shared} {R : It → Hp → Prop} {E : Value → Shared → Prop} {lo hi : Int} {t u v : Tok} {tk : Nat} (I : Inv X pins σ H s) (h1 : -(2 ^ 62) ≤ lo) (h2 : lo < 2 ^ 62) (h3 : -(2 ^ 62) ≤ hi) (h4 : hi < 2 ^ 62)
    (q : R (Itr lo (hi - lo).toNat) H) : wpAny (model X.prog X.w) X.A (pyIter (.ref s.heap.objs.size)) (PIE X pins σ tg R) E { s with heap := s.heap.push { cls := .type "range", data := .fields #[.int lo t, .int hi u, .int 1 v] }, toks := tk } := by
  refine wpAny_pyIter_range (IsRange.new ..) (small_one h1 h2 h3 h4) ?_
  have I1 : Inv X pins σ H { s with heap := s.heap.push { cls := .type "range", data := .fields #[.int lo t, .int hi u, .int 1 v] }, toks := tk } := I.kept fun b o e => Heap.get?_push_of_some _ e
  refine ⟨(s.heap.push { cls := .type "range", data := .fields #[.int lo t, .int hi u, .int 1 v] }).objs.size, [(s.heap.push { cls := .type "range", data := .fields #[.int lo t, .int hi u, .int 1 v] }).objs.size], _, _, H, rfl,
    I1.kept (t' := tk) fun b o e => Heap.get?_push_of_some _ e, turn_range _ lo (hi - lo).toNat, ?_, fun b hb => ?_, q⟩
  · have e1 : lo + ((0 : Nat) : Int) * 1 = lo := by simp
    have e2 : (((hi - lo).toNat : Nat) : Int) - ((0 : Nat) : Int) = Builtin.Range.rangeSize lo hi 1 := by rw [rangeSize_one]; split <;> omega
    show IsRangeIter _ _ (lo + ((0 : Nat) : Int) * 1) ((((hi - lo).toNat : Nat) : Int) - ((0 : Nat) : Int)) 1
    rw [e1, e2]
    exact Heap.get?_push_size _ rfl
  · have e : b = (s.heap.push { cls := .type "range", data := .fields #[.int lo t, .int hi u, .int 1 v] }).objs.size := by simpa using hb
    subst e
    exact I1.fpOk (Nat.le_refl _) (I1.hok.fresh (Nat.le_refl _))
def iRng1 (ta : TA) : TI := fun σ H R => ta σ H fun vs H1 => ∃ j : Int, vs = [.int j] ∧ -(2 ^ 62) ≤ j ∧ j < 2 ^ 62 ∧ R (Itr 0 j.toNat) H1
def iRng2 (ta : TA) : TI := fun σ H R => ta σ H fun vs H1 => ∃ i j : Int, vs = [.int i, .int j] ∧ (-(2 ^ 62) ≤ i ∧ i < 2 ^ 62 ∧ -(2 ^ 62) ≤ j ∧ j < 2 ^ 62) ∧ R (Itr i (j - i).toNat) H1
theorem pi_range1 {a : Expr} {ta : TA} {p pos : Pos} (hg : Gl X "range") (hm : X.mg "range" = none) (ha : PA X [a] ta) (hs : starEach [a] X.env = [(false, eval a X.env)] := by rfl) : PI X tg (.Call (.Name "range" p) [a] [] pos) (iRng1 ta) := by
  intro pins s σ H R I h
  refine Call_ (ld_blt I hg hm boot_range (PyProof.Rows.callWith_type1 (thn (ha pos pins s σ H _ I h) fun us s1 ⟨vs, H1, I1, r1, q1⟩ => ?_) hs rfl))
  obtain ⟨j, e, q1, q2, q⟩ := q1
  subst e
  cases r1 with
  | cons r rr =>
    cases rr
    obtain ⟨t, rfl⟩ := r
    exact call_range_1 (range_it I1 (by omega) (by omega) q1 q2 (by simpa using q))
/-! ### for -/
/-- W: the invariant by the turn and a measure; N: what the body is to reach -/
def tFor (wi : TI) (g : TG) (tb : TS) : TS := fun D σ H => wi σ H fun J H1 => ∃ W : Nat → Nat → St → Hp → Prop, (∃ m, W 0 m σ H1) ∧ ∀ i m σ H, W i m σ H →
  (J.stop i H ∧ D.nx σ H) ∨ (J.go i H ∧ ∃ N : St → Hp → Prop, (∀ σ' H', N σ' H' → ∃ m', m' < m ∧ W (i + 1) m' σ' H') ∧ ∀ x H', J.yld i H x H' → g x σ H' fun σ2 H2 => tb { D with nx := N, ct := N, bk := D.nx } σ2 H2)
/-- the records at fp as they stand -/
def pinsAt (fp : List Addr) (h : Heap) : List (Addr × Obj) := fp.filterMap fun b => (h.get? b).map fun o => (b, o)
theorem mem_pinsAt {fp : List Addr} {h : Heap} {b : Addr} {o : Obj} (hb : b ∈ fp) (e : h.get? b = some o) : (b, o) ∈ pinsAt fp h := List.mem_filterMap.mpr ⟨b, hb, by rw [e]; rfl⟩
theorem of_pinsAt {fp : List Addr} {h : Heap} {p : Addr × Obj} (hp : p ∈ pinsAt fp h) : p.1 ∈ fp ∧ h.get? p.1 = some p.2 := by
  obtain ⟨b, hb, e⟩ := List.mem_filterMap.mp hp
  cases q : h.get? b with
  | none => rw [q] at e; cases e
  | some o =>
    rw [q] at e
    have e' : (b, o) = p := Option.some.inj e
    subst e'
    exact ⟨hb, q⟩
theorem Inv.pinned {pins : List (Addr × Obj)} {σ : St} {H : Hp} {s : Shared} {fp : List Addr} (I : Inv X pins σ H s) (hf : ∀ b ∈ fp, FpOk X pins H b) (ho : ∀ b ∈ fp, ∃ o, s.heap.get? b = some o ∧ ∀ v, o.data ≠ .cell v) : Inv X (pins ++ pinsAt fp s.heap) σ H s :=
  I.pins_of fun p hp => (List.mem_append.mp hp).elim (fun z => I.pin p (List.mem_append_right _ z)) fun z => by
    obtain ⟨hb, e⟩ := of_pinsAt z
    obtain ⟨f0, f1, f2, _⟩ := hf p.1 hb
    obtain ⟨o, e', d⟩ := ho p.1 hb
    rw [e] at e'; cases e'
    exact ⟨e, f0, f1, f2, d⟩
theorem Inv.unpinned {pins pl : List (Addr × Obj)} {σ : St} {H : Hp} {s : Shared} (I : Inv X (pins ++ pl) σ H s) : Inv X pins σ H s := I.pins_of fun p hp => I.pin p (List.mem_append_right _ (List.mem_append_left _ hp))
theorem ps_for {iter : Expr} {body : List Stmt} {wi : TI} {g : TG} {tb : TS} {pos : Pos} (hp : PassesOwn (model X.prog X.w) X.A X.env X.xe) (hc : X.calm = true) (hi : PI X tg iter wi) (hg : PG X tg g) (hb : PSs X body tb)
    (hs : ∀ x, foldedSetIterable iter X.env x = pure x := by intro _; rfl) : PS X (.For tg iter body [] pos) (tFor wi g tb) := by
  intro pins s σ H D I h
  refine wpAny_For (thn (hi pins s σ H _ I h) fun v s1 h1 => thn h1 fun itv s2 h2 => ?_) hs
  obtain ⟨it, fp, tn, J, H2, e, I2, T, st2, f2, W, ⟨m0, w0⟩, turn⟩ := h2
  subst e
  -- what stays true of the iterator's objects through the loop
  have stat : ∀ {H' : Hp}, (∀ b ∈ fp, H' b = none) → ∀ b ∈ fp, FpOk X pins H' b := fun hn b hb => ⟨hn b hb, (f2 b hb).2⟩
  refine codeAny_forLoop_any (fun n s' => ∃ i σ' H', Inv X pins σ' H' s' ∧ tn i s'.heap ∧ (∀ b ∈ fp, H' b = none) ∧ W i n σ' H') ?_ m0 ⟨0, σ, H2, I2, st2, fun b hb => (f2 b hb).1, w0⟩
  rintro n s3 ⟨i, σ3, H3, I3, st3, fr3, w3⟩
  rcases turn i n σ3 H3 w3 with ⟨stop, qn⟩ | ⟨go, N, hN, step⟩
  · refine wpAny_passesOwn hp (thn (T.done X rfl rfl rfl hc i pins s3 σ3 H3 X.xe I3 (stat fr3) st3 stop) fun r s4 ⟨hr, I4⟩ => ?_)
    subst hr
    exact wpAny_execs_nil ⟨σ3, H3, I4, qn⟩
  · refine wpAny_passesOwn hp (thn (T.item X rfl rfl rfl hc i pins s3 σ3 H3 X.xe I3 (stat fr3) st3 go) fun r s4 ⟨u, hr, h4⟩ => ?_)
    subst hr
    refine wpAny_passesOwn hp (thn h4 fun _ s5 ⟨x, H5, I5, r5, y5, st5, fr5⟩ => ?_)
    have I5' := I5.pinned (stat fr5) (T.obj _ _ st5)
    refine wpAny_passesOwn hp (thn (hg _ s5 σ3 H5 x u _ I5' r5 (step x H5 y5)) fun _ s6 ⟨σ6, H6, I6, q6⟩ => ?_)
    refine wpAny_passesOwn hp (thn (hb _ s6 σ6 H6 _ I6 q6) fun f s7 q7 => ?_)
    have again : ∀ {σ7 : St} {H7 : Hp}, Inv X (pins ++ pinsAt fp s5.heap) σ7 H7 s7 → N σ7 H7 → ∃ m, m < n ∧ ∃ i σ' H', Inv X pins σ' H' s7 ∧ tn i s7.heap ∧ (∀ b ∈ fp, H' b = none) ∧ W i m σ' H' := fun {σ7 H7} I7 n7 => by
      obtain ⟨m', hm, w7⟩ := hN σ7 H7 n7
      refine ⟨m', hm, i + 1, σ7, H7, I7.unpinned, T.keep _ _ _ st5 fun b hb o e => (I7.pin (b, o) (List.mem_append_right _ (List.mem_append_right _ (mem_pinsAt hb e)))).1, fun b hb => ?_, w7⟩
      obtain ⟨o, e, d⟩ := T.obj _ _ st5 b hb
      exact (I7.pin (b, o) (List.mem_append_right _ (List.mem_append_right _ (mem_pinsAt hb e)))).2.1
    cases f with
    | next => obtain ⟨σ7, H7, I7, n7⟩ := q7; exact again I7 n7
    | cont => obtain ⟨σ7, H7, I7, n7⟩ := q7; exact again I7 n7
    | brk => obtain ⟨σ7, H7, I7, q7⟩ := q7; exact ⟨σ7, H7, I7.unpinned, q7⟩
    | ret v => obtain ⟨x7, σ7, H7, I7, r7, q7⟩ := q7; exact ⟨x7, σ7, H7, I7.unpinned, r7, q7⟩
end

/-! ### the forms one uses -/
/-- over a list that the body leaves as it is -/
theorem for_list {K : PySem.W.Frag} {a : Addr} {xs : List V} {g : TG} {tb : TS} {D : Ends} {σ : St} {H : Hp} (Pv : Nat → St → Hp → Prop) (h0 : Pv 0 σ H) (hl : ∀ i σ H, i ≤ xs.length → Pv i σ H → SqL K H a xs)
    (hs : ∀ i x σ H, xs[i]? = some x → Pv i σ H → g x σ H fun σ2 H2 => tb { D with nx := Pv (i + 1), ct := Pv (i + 1), bk := D.nx } σ2 H2) (hd : ∀ σ H, Pv xs.length σ H → D.nx σ H) :
    ∃ W : Nat → Nat → St → Hp → Prop, (∃ m, W 0 m σ H) ∧ ∀ i m σ H, W i m σ H →
      ((Itl K a).stop i H ∧ D.nx σ H) ∨ ((Itl K a).go i H ∧ ∃ N : St → Hp → Prop, (∀ σ' H', N σ' H' → ∃ m', m' < m ∧ W (i + 1) m' σ' H') ∧ ∀ x H', (Itl K a).yld i H x H' → g x σ H' fun σ2 H2 => tb { D with nx := N, ct := N, bk := D.nx } σ2 H2) := by
  refine ⟨fun i m σ H => m = xs.length - i ∧ i ≤ xs.length ∧ Pv i σ H, ⟨xs.length, by simp, Nat.zero_le _, h0⟩, ?_⟩
  rintro i m σ H ⟨rfl, hi, p⟩
  have q := hl i σ H hi p
  by_cases hlt : i < xs.length
  · refine .inr ⟨⟨xs, xs[i], q, by simp [hlt]⟩, Pv (i + 1), fun σ' H' p' => ⟨xs.length - (i + 1), by omega, rfl, hlt, p'⟩, fun x H' y => ?_⟩
    obtain ⟨e, y⟩ := y
    subst e
    exact hs i x σ _ (y xs q) p
  · have e : i = xs.length := by omega
    subst e
    exact .inl ⟨⟨xs, q, Nat.le_refl _⟩, hd σ H p⟩
theorem for_range {lo : Int} {n : Nat} {g : TG} {tb : TS} {D : Ends} {σ : St} {H : Hp} (Pv : Nat → St → Hp → Prop) (h0 : Pv 0 σ H)
    (hs : ∀ i σ H, i < n → Pv i σ H → g (.int (lo + i)) σ H fun σ2 H2 => tb { D with nx := Pv (i + 1), ct := Pv (i + 1), bk := D.nx } σ2 H2) (hd : ∀ σ H, Pv n σ H → D.nx σ H) :
    ∃ W : Nat → Nat → St → Hp → Prop, (∃ m, W 0 m σ H) ∧ ∀ i m σ H, W i m σ H →
      ((Itr lo n).stop i H ∧ D.nx σ H) ∨ ((Itr lo n).go i H ∧ ∃ N : St → Hp → Prop, (∀ σ' H', N σ' H' → ∃ m', m' < m ∧ W (i + 1) m' σ' H') ∧ ∀ x H', (Itr lo n).yld i H x H' → g x σ H' fun σ2 H2 => tb { D with nx := N, ct := N, bk := D.nx } σ2 H2) := by
  refine ⟨fun i m σ H => m = n - i ∧ i ≤ n ∧ Pv i σ H, ⟨n, by simp, Nat.zero_le _, h0⟩, ?_⟩
  rintro i m σ H ⟨rfl, hi, p⟩
  by_cases hlt : i < n
  · refine .inr ⟨hlt, Pv (i + 1), fun σ' H' p' => ⟨n - (i + 1), by omega, rfl, hlt, p'⟩, fun x H' y => ?_⟩
    obtain ⟨e, y⟩ := y
    subst e y
    exact hs i σ _ hlt p
  · have e : i = n := by omega
    subst e
    exact .inl ⟨Nat.le_refl _, hd σ H p⟩
end L2

namespace L2
open PySem PySem.Spec PyProof.Rows

abbrev R2 := V → V → Hp → VK → Prop
/-- a two-place operation on values: f is binaryOp op, inplaceOp op or compareOp op -/
def OpR (X : Cx) (f : Value → Value → Sem Value) (r : R2) : Prop :=
  ∀ (pins : List (Addr × Obj)) (s : Shared) (σ : St) (H : Hp) (x y : V) (v u : Value) (Q : VK), Inv X pins σ H s → RelV x v → RelV y u → r x y H Q →
    wpAny (model X.prog X.w) X.A (f v u) (EP X pins σ Q) X.xe s
/-- a one-place operation -/
def UnR (X : Cx) (f : Value → Sem Value) (r : V → Hp → VK → Prop) : Prop :=
  ∀ (pins : List (Addr × Obj)) (s : Shared) (σ : St) (H : Hp) (x : V) (v : Value) (Q : VK), Inv X pins σ H s → RelV x v → r x H Q →
    wpAny (model X.prog X.w) X.A (f v) (EP X pins σ Q) X.xe s
/-- a call of a value that is known (a builtin, a type) with values -/
def CallR (X : Cx) (f : Value) (r : List V → Hp → VK → Prop) : Prop :=
  ∀ (pins : List (Addr × Obj)) (s : Shared) (σ : St) (H : Hp) (xs : List V) (us : List Value) (Q : VK), Inv X pins σ H s → Vals xs us → r xs H Q →
    wpAny (model X.prog X.w) X.A (call f us) (EP X pins σ Q) X.xe s
/-- a value's truth -/
def TruR (X : Cx) (r : V → Hp → (Bool → Hp → Prop) → Prop) : Prop :=
  ∀ (pins : List (Addr × Obj)) (s : Shared) (σ : St) (H : Hp) (x : V) (v : Value) (Q : Bool → Hp → Prop), Inv X pins σ H s → RelV x v → r x H Q →
    wpAny (model X.prog X.w) X.A (truthy v) (TP X pins σ Q) X.xe s

def tOp (r : R2) (ta tb : TE) : TE := fun σ H Q => ta σ H fun x H1 => tb σ H1 fun y H2 => r x y H2 Q
def tUn (r : V → Hp → VK → Prop) (ta : TE) : TE := fun σ H Q => ta σ H fun x H1 => r x H1 Q
/-- ints in, under C, and a value out -/
def rI (C : Int → Int → Prop) (g : Int → Int → V) : R2 := fun x y H Q => ∃ i j, x = .int i ∧ y = .int j ∧ C i j ∧ Q (g i j) H
def rI0 (g : Int → Int → V) : R2 := fun x y H Q => ∃ i j, x = .int i ∧ y = .int j ∧ Q (g i j) H
def rU (g : Int → V) : V → Hp → VK → Prop := fun x H Q => ∃ i, x = .int i ∧ Q (g i) H

section
variable {X : Cx} {a b c : Expr} {ta tb tc : TE} {pos : Pos}

theorem binT (ha : PE X a ta) (hb : PE X b tb) {pins : List (Addr × Obj)} {s : Shared} {σ : St} {H : Hp} {R : V → V → Hp → Prop} (I : Inv X pins σ H s)
    (h : ta σ H fun x H1 => tb σ H1 fun y H2 => R x y H2) {Q : Value → Shared → Prop} {f : Value → Value → Sem Value}
    (hf : ∀ v u s2 x y H2, Inv X pins σ H2 s2 → RelV x v → RelV y u → R x y H2 → wpAny (model X.prog X.w) X.A (f v u) Q X.xe s2) :
    wpAny (model X.prog X.w) X.A (eval a X.env) (fun v s₁ => wpAny (model X.prog X.w) X.A (eval b X.env) (fun u s₂ => wpAny (model X.prog X.w) X.A (f v u) Q X.xe s₂) X.xe s₁) X.xe s := by
  refine thn (ha pins s σ H _ I h) fun v s1 ⟨x, H1, I1, r1, q1⟩ => ?_
  refine thn (hb pins s1 σ H1 _ I1 q1) fun u s2 ⟨y, H2, I2, r2, q2⟩ => ?_
  exact hf v u s2 x y H2 I2 r1 r2 q2

theorem pe_op {op : Operator} {r : R2} (ho : OpR X (binaryOp op) r) (ha : PE X a ta) (hb : PE X b tb) : PE X (.BinOp a op b pos) (tOp r ta tb) := by
  intro pins s σ H Q I h
  exact wpAny_BinOp (binT ha hb I h fun v u s2 x y H2 I2 rx ry q => ho pins s2 σ H2 x y v u Q I2 rx ry q)
/-! ### ints -/
theorem opI {f : Value → Value → Sem Value} {C : Int → Int → Prop} {g : Int → Int → Int}
    (rule : ∀ (i j : Int) (t u : Tok) (s : Shared) (Q : Value → Shared → Prop) (E : Value → Shared → Prop), C i j → Q (.int (g i j) s.toks) { s with toks := s.toks + 1 } → wpAny (model X.prog X.w) X.A (f (.int i t) (.int j u)) Q E s) :
    OpR X f (rI C fun i j => .int (g i j)) := by
  intro pins s σ H x y v u Q I rx ry h
  obtain ⟨i, j, rfl, rfl, hc, q⟩ := h
  obtain ⟨t, rfl⟩ := rx
  obtain ⟨t', rfl⟩ := ry
  exact rule i j t t' s _ _ hc ⟨.int (g i j), H, I.tok _, ⟨_, rfl⟩, q⟩
theorem opI0 {f : Value → Value → Sem Value} {g : Int → Int → Int}
    (rule : ∀ (i j : Int) (t u : Tok) (s : Shared) (Q : Value → Shared → Prop) (E : Value → Shared → Prop), Q (.int (g i j) s.toks) { s with toks := s.toks + 1 } → wpAny (model X.prog X.w) X.A (f (.int i t) (.int j u)) Q E s) :
    OpR X f (rI0 fun i j => .int (g i j)) := by
  intro pins s σ H x y v u Q I rx ry h
  obtain ⟨i, j, rfl, rfl, q⟩ := h
  obtain ⟨t, rfl⟩ := rx
  obtain ⟨t', rfl⟩ := ry
  exact rule i j t t' s _ _ ⟨.int (g i j), H, I.tok _, ⟨_, rfl⟩, q⟩
theorem opB0 {f : Value → Value → Sem Value} {g : Int → Int → Bool}
    (rule : ∀ (i j : Int) (t u : Tok) (s : Shared) (Q : Value → Shared → Prop) (E : Value → Shared → Prop), Q (.bool (g i j)) s → wpAny (model X.prog X.w) X.A (f (.int i t) (.int j u)) Q E s) :
    OpR X f (rI0 fun i j => .bl (g i j)) := by
  intro pins s σ H x y v u Q I rx ry h
  obtain ⟨i, j, rfl, rfl, q⟩ := h
  obtain ⟨t, rfl⟩ := rx
  obtain ⟨t', rfl⟩ := ry
  exact rule i j t t' s _ _ ⟨.bl (g i j), H, I, rfl, q⟩

def CDiv (i j : Int) : Prop := 0 < j ∧ j < 1073741824
def CDivN (i j : Int) : Prop := j ≠ 0 ∧ j.natAbs < 1073741824
def CPow (i j : Int) : Prop := 0 ≤ j ∧ j ≤ 1000000 ∧ i.natAbs < 2 ^ 64
def CMul (i j : Int) : Prop := (-(2 ^ 64) < i ∧ i < 2 ^ 64) ∨ (-(2 ^ 64) < j ∧ j < 2 ^ 64)
theorem CMul.ok {i j : Int} (h : CMul i j) : IntMulOk i j := by
  rcases h with ⟨h1, h2⟩ | ⟨h1, h2⟩
  · exact .of_left (intBits_le_64 h1 h2)
  · exact .of_right (intBits_le_64 h1 h2)
theorem op_add : OpR X (binaryOp .Add) (rI0 fun i j => .int (i + j)) := opI0 fun _ _ _ _ _ _ _ q => add_int q
theorem op_sub : OpR X (binaryOp .Sub) (rI0 fun i j => .int (i - j)) := opI0 fun _ _ _ _ _ _ _ q => sub_int q
theorem op_mul : OpR X (binaryOp .Mult) (rI CMul fun i j => .int (i * j)) := opI fun _ _ _ _ _ _ _ hc q => mul_int q hc.ok
/-- // by a positive divisor -/
theorem op_fdiv : OpR X (binaryOp .FloorDiv) (rI CDiv fun i j => .int (i / j)) := opI fun i j _ _ _ _ _ hc q => by
  have h1 : (0 : Int) < j := hc.1
  have h2 : j < 1073741824 := hc.2
  exact floordiv_int (by omega) (by rw [Int.fdiv_eq_ediv_of_nonneg i (by omega)]; exact q) (.inl (PyProof.noPylong_small (by omega)))
/-- % by a positive divisor of any size -/
theorem op_mod : OpR X (binaryOp .Mod) (rI (fun _ j => 0 < j) fun i j => .int (i % j)) := opI fun i j _ _ _ _ _ hc q => by
  have h1 : (0 : Int) < j := hc
  exact mod_int' (by omega) (by rw [Int.fmod_eq_emod_of_nonneg i (by omega)]; exact q)
theorem op_pow : OpR X (binaryOp .Pow) (rI CPow fun i j => .int (i ^ j.toNat)) := opI fun _ _ _ _ _ _ _ hc q => pow_int_small hc.1 hc.2.1 hc.2.2 q
/-! ### bools among ints: n += (a < b) -/
end

/-! ### comparisons -/
/-- the scalars that == tells apart as data does -/
def scal : V → V → Bool
  | .non, .non => true | .non, .int _ => true | .int _, .non => true | .non, .bl _ => true | .bl _, .non => true | .non, .str _ => true | .str _, .non => true
  | .int _, .int _ => true | .bl _, .bl _ => true | .str _, .str _ => true | .byt _, .byt _ => true
  | .int _, .str _ => true | .str _, .int _ => true | .bl _, .str _ => true | .str _, .bl _ => true
  | _, _ => false
def rEq : R2 := fun x y H Q => scal x y = true ∧ Q (.bl (decide (x = y))) H
def rNe : R2 := fun x y H Q => scal x y = true ∧ Q (.bl (!decide (x = y))) H

theorem dec_int {i j : Int} : decide (V.int i = V.int j) = (i == j) := by
  rw [Bool.eq_iff_iff]
  simp
theorem dec_bl {i j : Bool} : decide (V.bl i = V.bl j) = (i == j) := by
  rw [Bool.eq_iff_iff]
  simp
theorem dec_str {i j : Str} : decide (V.str i = V.str j) = (i == j) := by
  rw [Bool.eq_iff_iff]
  simp
theorem dec_byt {i j : Array UInt8} : decide (V.byt i = V.byt j) = (i.toList == j.toList) := by
  rw [Bool.eq_iff_iff]
  cases i
  cases j
  simp

section
variable {X : Cx} {a b c : Expr} {ta tb tc : TE} {pos : Pos}
theorem fin_bl {pins : List (Addr × Obj)} {σ : St} {H : Hp} {s : Shared} {Q : VK} {k k' : Bool} (I : Inv X pins σ H s) (q : Q (.bl k) H) (e : k = k') : EP X pins σ Q (.bool k') s := by
  subst e
  exact ⟨.bl k, H, I, rfl, q⟩
theorem op_eq : OpR X (compareOp .Eq) rEq := by
  intro pins s σ H x y v u Q I rx ry h
  obtain ⟨hs, q⟩ := h
  cases x with
  | non =>
    cases rx
    cases y with
    | non => cases ry; exact PySem.EqNone.eq_none_none (fin_bl I q (by simp))
    | bl j => cases ry; exact PySem.EqNone.eq_none_bool (fin_bl I q (by simp))
    | int j => obtain ⟨t', rfl⟩ := ry; exact PySem.EqNone.eq_none_int (fin_bl I q (by simp))
    | str j => obtain ⟨t', rfl⟩ := ry; exact PySem.EqNone.eq_none_str (fin_bl I q (by simp))
    | _ => exact absurd (show false = true from hs) Bool.false_ne_true
  | bl i =>
    cases rx
    cases y with
    | non => cases ry; exact PySem.EqNone.eq_bool_none (fin_bl I q (by simp))
    | bl j => cases ry; exact eq_bool (fin_bl I q dec_bl)
    | str j => obtain ⟨t', rfl⟩ := ry; exact PySem.EqMixed.eq_bool_str (fin_bl I q (by simp))
    | _ => exact absurd (show false = true from hs) Bool.false_ne_true
  | int i =>
    obtain ⟨t, rfl⟩ := rx
    cases y with
    | non => cases ry; exact PySem.EqNone.eq_int_none (fin_bl I q (by simp))
    | int j => obtain ⟨t', rfl⟩ := ry; exact eq_int (fin_bl I q dec_int)
    | str j => obtain ⟨t', rfl⟩ := ry; exact PySem.EqMixed.eq_int_str (fin_bl I q (by simp))
    | _ => exact absurd (show false = true from hs) Bool.false_ne_true
  | str i =>
    obtain ⟨t, rfl⟩ := rx
    cases y with
    | non => cases ry; exact PySem.EqNone.eq_str_none (fin_bl I q (by simp))
    | bl j => cases ry; exact PySem.EqMixed.eq_str_bool (fin_bl I q (by simp))
    | int j => obtain ⟨t', rfl⟩ := ry; exact PySem.EqMixed.eq_str_int (fin_bl I q (by simp))
    | str j => obtain ⟨t', rfl⟩ := ry; exact eq_str (fin_bl I q dec_str)
    | _ => exact absurd (show false = true from hs) Bool.false_ne_true
  | byt i =>
    obtain ⟨t, rfl⟩ := rx
    cases y with
    | byt j => obtain ⟨t', rfl⟩ := ry; exact PySem.W.eq_bytes (fin_bl I q dec_byt)
    | _ => exact absurd (show false = true from hs) Bool.false_ne_true
  | _ => cases y <;> exact absurd (show false = true from hs) Bool.false_ne_true
theorem op_ne : OpR X (compareOp .NotEq) rNe := by
  intro pins s σ H x y v u Q I rx ry h
  obtain ⟨hs, q⟩ := h
  cases x with
  | non =>
    cases rx
    cases y with
    | non => cases ry; exact PySem.EqNone.ne_none_none (fin_bl I q (by simp))
    | bl j => cases ry; exact PySem.EqNone.ne_none_bool (fin_bl I q (by simp))
    | int j => obtain ⟨t', rfl⟩ := ry; exact PySem.EqNone.ne_none_int (fin_bl I q (by simp))
    | str j => obtain ⟨t', rfl⟩ := ry; exact PySem.EqNone.ne_none_str (fin_bl I q (by simp))
    | _ => exact absurd (show false = true from hs) Bool.false_ne_true
  | bl i =>
    cases rx
    cases y with
    | non => cases ry; exact PySem.EqNone.ne_bool_none (fin_bl I q (by simp))
    | bl j => cases ry; exact ne_bool (fin_bl I q (congrArg not dec_bl))
    | str j => obtain ⟨t', rfl⟩ := ry; exact PySem.EqMixed.ne_bool_str (fin_bl I q (by simp))
    | _ => exact absurd (show false = true from hs) Bool.false_ne_true
  | int i =>
    obtain ⟨t, rfl⟩ := rx
    cases y with
    | non => cases ry; exact PySem.EqNone.ne_int_none (fin_bl I q (by simp))
    | int j => obtain ⟨t', rfl⟩ := ry; exact ne_int (fin_bl I q (congrArg not dec_int))
    | str j => obtain ⟨t', rfl⟩ := ry; exact PySem.EqMixed.ne_int_str (fin_bl I q (by simp))
    | _ => exact absurd (show false = true from hs) Bool.false_ne_true
  | str i =>
    obtain ⟨t, rfl⟩ := rx
    cases y with
    | non => cases ry; exact PySem.EqNone.ne_str_none (fin_bl I q (by simp))
    | bl j => cases ry; exact PySem.EqMixed.ne_str_bool (fin_bl I q (by simp))
    | int j => obtain ⟨t', rfl⟩ := ry; exact PySem.EqMixed.ne_str_int (fin_bl I q (by simp))
    | str j => obtain ⟨t', rfl⟩ := ry; exact ne_str (fin_bl I q (congrArg not dec_str))
    | _ => exact absurd (show false = true from hs) Bool.false_ne_true
  | byt i =>
    obtain ⟨t, rfl⟩ := rx
    cases y with
    | byt j => obtain ⟨t', rfl⟩ := ry; exact PySem.W.ne_bytes (fin_bl I q (congrArg not dec_byt))
    | _ => exact absurd (show false = true from hs) Bool.false_ne_true
  | _ => cases y <;> exact absurd (show false = true from hs) Bool.false_ne_true

theorem op_lt : OpR X (compareOp .Lt) (rI0 fun i j => .bl (decide (i < j))) := opB0 fun _ _ _ _ _ _ _ q => lt_int q
theorem op_le : OpR X (compareOp .LtE) (rI0 fun i j => .bl (decide (i ≤ j))) := opB0 fun _ _ _ _ _ _ _ q => le_int q
theorem op_gt : OpR X (compareOp .Gt) (rI0 fun i j => .bl (decide (j < i))) := opB0 fun _ _ _ _ _ _ _ q => gt_int q
theorem op_notin_str : OpR X (compareOp .NotIn) (fun x y H Q => ∃ i j, x = .str i ∧ y = .str j ∧ Q (.bl (!(!(Builtin.Str.occurrences j i 0 j.length 1).isEmpty))) H) := by
  intro pins s σ H x y v u Q I rx ry h
  obtain ⟨i, j, rfl, rfl, q⟩ := h
  obtain ⟨t, rfl⟩ := rx
  obtain ⟨t', rfl⟩ := ry
  exact notIn_str (fin_bl I q rfl)
/-- is, is not of two objects that are tracked lists or instances -/
def isObj : HO → Bool
  | .lst _ => true
  | .ins _ _ _ => true
  | _ => false
theorem nomark (b : Expr) {op : CmpOp} (h : op ≠ .In := by decide) (h2 : op ≠ .NotIn := by decide) : behindInMarks op b = false := by
  have e1 : (op == CmpOp.In) = false := by cases op <;> first | rfl | exact absurd rfl h
  have e2 : (op == CmpOp.NotIn) = false := by cases op <;> first | rfl | exact absurd rfl h2
  cases b <;> simp [behindInMarks, e1, e2]
/-- a comparison as a value; hm: nomark b, or (for in, not in) by with_unfolding_all rfl -/
theorem pe_cmpR {op : CmpOp} {r : R2} (ho : OpR X (compareOp op) r) (ha : PE X a ta) (hb : PE X b tb) (hm : behindInMarks op b = false) : PE X (.Compare a [op] [b] pos) (tOp r ta tb) := by
  intro pins s σ H Q I h
  exact wpAny_Compare1 (binT ha hb I h fun v u s2 x y H2 I2 rx ry q => ho pins s2 σ H2 x y v u Q I2 rx ry q) hm
/-- a reading of a value as a test -/
def tTest (t : TE) : TT := fun σ H Q => t σ H fun x H' => ∃ k, x = .bl k ∧ Q k H'
theorem pt_cmpR {op : CmpOp} {r : R2} (ho : OpR X (compareOp op) r) (ha : PE X a ta) (hb : PE X b tb) (hm : behindInMarks op b = false) : PT X (.Compare a [op] [b] pos) (tTest (tOp r ta tb)) := by
  intro pins s σ H Q I h
  refine wpAny_isTrue_Compare1 (thn (ha pins s σ H _ I h) fun v s1 ⟨x, H1, I1, r1, q1⟩ => thn (hb pins s1 σ H1 _ I1 q1) fun u s2 ⟨y, H2, I2, r2, q2⟩ =>
    thn (ho pins s2 σ H2 x y v u _ I2 r1 r2 q2) fun c s3 ⟨z, H3, I3, r3, k, e, q3⟩ => ?_) hm
  subst e
  cases r3
  exact wpAny_truthy_bool ⟨H3, I3, q3⟩
/-- a op1 b op2 c -/
def tChain (r r' : R2) (ta tb tc : TE) : TE := fun σ H Q => ta σ H fun x H1 => tb σ H1 fun y H2 => r x y H2 fun z H3 => ∃ k, z = .bl k ∧
  (if k = true then tc σ H3 fun w' H4 => r' y w' H4 Q else Q (.bl false) H3)
theorem pe_chain {op op' : CmpOp} {r r' : R2} (ho : OpR X (compareOp op) r) (ho' : OpR X (compareOp op') r') (ha : PE X a ta) (hb : PE X b tb) (hc : PE X c tc)
    (hm : lastMarks [op, op'] [b, c] = false := by with_unfolding_all rfl) : PE X (.Compare a [op, op'] [b, c] pos) (tChain r r' ta tb tc) := by
  intro pins s σ H Q I h
  refine Compare_chain (thn (ha pins s σ H _ I h) fun v s1 ⟨x, H1, I1, r1, q1⟩ => chain_link (thn (hb pins s1 σ H1 _ I1 q1) fun u s2 ⟨y, H2, I2, r2, q2⟩ =>
    thn (ho pins s2 σ H2 x y v u _ I2 r1 r2 q2) fun d s3 ⟨z, H3, I3, r3, k, e, q3⟩ => ?_)) hm
  subst e
  cases r3
  refine wpAny_truthy_bool ?_
  cases k with
  | false => exact ite_ff ⟨.bl false, H3, I3, rfl, q3⟩
  | true => exact ite_tt (chain_last (thn (hc pins s3 σ H3 _ I3 q3) fun w' s4 ⟨z', H4, I4, r4, q4⟩ => ho' pins s4 σ H4 y z' u w' Q I4 r2 r4 q4))
theorem pt_chain {op op' : CmpOp} {r r' : R2} (ho : OpR X (compareOp op) r) (ho' : OpR X (compareOp op') r') (ha : PE X a ta) (hb : PE X b tb) (hc : PE X c tc)
    (hm : lastMarks [op, op'] [b, c] = false := by with_unfolding_all rfl) : PT X (.Compare a [op, op'] [b, c] pos) (tTest (tChain r r' ta tb tc)) := by
  intro pins s σ H Q I h
  refine isTrue_chain (thn (ha pins s σ H _ I h) fun v s1 ⟨x, H1, I1, r1, q1⟩ => test_link (thn (hb pins s1 σ H1 _ I1 q1) fun u s2 ⟨y, H2, I2, r2, q2⟩ =>
    thn (ho pins s2 σ H2 x y v u _ I2 r1 r2 q2) fun d s3 ⟨z, H3, I3, r3, k, e, q3⟩ => ?_)) hm
  subst e
  cases r3
  refine wpAny_truthy_bool ?_
  cases k with
  | false =>
    obtain ⟨k', e', q'⟩ := q3
    cases e'
    exact ite_ff ⟨H3, I3, q'⟩
  | true =>
    refine ite_tt (test_last (thn (hc pins s3 σ H3 _ I3 q3) fun w' s4 ⟨z', H4, I4, r4, q4⟩ => thn (ho' pins s4 σ H4 y z' u w' _ I4 r2 r4 q4) fun d' s5 ⟨z2, H5, I5, r5, k2, e2, q5⟩ => ?_))
    subst e2
    cases r5
    exact wpAny_truthy_bool ⟨H5, I5, q5⟩

/-! ### truth -/
/-- a value's truth by the abstract heap -/
def TruV (K : PySem.W.Frag) (x : V) (H : Hp) (k : Bool) : Prop :=
  match x with
  | .non => k = false
  | .bl b => k = b
  | .int i => k = (i != 0)
  | .str y => y.length ≤ sizeLine ∧ k = ((y.length : Int) != 0)
  | .byt y => y.size ≤ sizeLine ∧ k = ((y.size : Int) != 0)
  | .ref p => (∃ xs, SqL K H p xs ∧ k = !xs.isEmpty) ∨ (∃ xs, SqT K H p xs ∧ k = !xs.isEmpty) ∨ ∃ kvs, H p = some (.dK kvs) ∧ k = !kvs.isEmpty
  | _ => False
theorem line63 : (sizeLine : Nat) < 2 ^ 63 := by rw [sizeLine_eq]; decide
/-! ### strs and bytes -/
theorem op_add_str : OpR X (binaryOp .Add) (fun x y H Q => ∃ i j, x = .str i ∧ y = .str j ∧ i.length + j.length ≤ sizeLine ∧ Q (.str (i ++ j)) H) := by
  intro pins s σ H x y v u Q I rx ry h
  obtain ⟨i, j, rfl, rfl, hz, q⟩ := h
  obtain ⟨t, rfl⟩ := rx
  obtain ⟨t', rfl⟩ := ry
  exact add_str (fun t' tk => ⟨.str (i ++ j), H, I.tok _, ⟨_, rfl⟩, q⟩) hz
theorem op_add_byt : OpR X (binaryOp .Add) (fun x y H Q => ∃ i j, x = .byt i ∧ y = .byt j ∧ i.size + j.size ≤ 16777216 ∧ Q (.byt (i ++ j)) H) := by
  intro pins s σ H x y v u Q I rx ry h
  obtain ⟨i, j, rfl, rfl, hz, q⟩ := h
  obtain ⟨t, rfl⟩ := rx
  obtain ⟨t', rfl⟩ := ry
  exact PySem.W.KBy.add_bytes hz (fun t' tk => ⟨.byt (i ++ j), H, I.tok _, ⟨_, rfl⟩, q⟩)

def PlainIxT (b : Expr) : Prop := ∀ o i, subscripted b false o i = operate [o, i] (getItem o i)
/-! ### scalar builtins, by CallR -/
theorem vals1 {x : V} {us : List Value} (r : Vals [x] us) : ∃ u, us = [u] ∧ RelV x u := by
  cases r with
  | cons r1 r2 => cases r2; exact ⟨_, rfl, r1⟩
theorem call_str_int : CallR X (.type "str") (fun xs H Q => ∃ i, xs = [.int i] ∧ i.natAbs.log2 < 1920 ∧ Q (.str (toString i)) H) := by
  intro pins s σ H xs us Q I r h
  obtain ⟨i, rfl, hz, q⟩ := h
  obtain ⟨u, rfl, t, rfl⟩ := vals1 r
  exact PySem.P.str_of_int hz ⟨.str _, H, I.tok _, ⟨_, rfl⟩, q⟩
/-- len of a str, a bytes, a list, a tuple -/
def LenV (K : PySem.W.Frag) (x : V) (H : Hp) (n : Nat) : Prop :=
  match x with
  | .str y => y.length ≤ sizeLine ∧ n = y.length
  | .byt y => y.size ≤ sizeLine ∧ n = y.size
  | .ref p => (∃ xs, SqL K H p xs ∧ n = xs.length) ∨ ∃ xs, SqT K H p xs ∧ n = xs.length
  | _ => False
end
end L2

namespace L2
open PySem PySem.Spec PyProof.Rows

/-! ### an instance, its attributes a map -/
structure ObjM (h : Heap) (x dx C : Addr) (mA : Str → Option Value) : Prop where
  obj : h.get? x = some (PySem.W.instObj C dx)
  ns : h.Ns1 dx mA
  ne : dx ≠ x

theorem lookIn_ns {h : Heap} {dx : Addr} {mA : Str → Option Value} (n : h.Ns1 dx mA) : ∃ od, h.get? dx = some od ∧ ∀ name, PySem.W.lookIn name od = some (mA name) := by
  obtain ⟨o, es, ep, ho, hd, hk, _, hm⟩ := n
  refine ⟨o, ho, fun name => ?_⟩
  have e := hm name
  unfold nsFind findBy at e
  rw [← Array.find?_toList] at e
  unfold PySem.W.lookIn
  rw [hd]
  dsimp only
  split
  · rename_i y q
    rw [q] at e
    exact congrArg some e
  · rename_i q
    rw [q] at e
    have a : es.toList.any (·.refKey) = false := by
      rw [List.any_eq_false]
      intro y hy
      obtain ⟨z, t, hkey⟩ := hk y (Array.mem_toList_iff.mp hy)
      simp [DictEntry.refKey, hkey]
    have a' : ¬ es.toList.any (·.refKey) = true := by rw [a]; exact Bool.false_ne_true
    rw [if_neg a']
    exact congrArg some e

theorem ObjM.look {h : Heap} {x dx C : Addr} {mA : Str → Option Value} (I : ObjM h x dx C mA) : ∃ od, PySem.W.InstAt h x (PySem.W.instObj C dx) C (some od) ∧ ∀ name, PySem.W.lookIn name od = some (mA name) :=
  let ⟨od, ho, hl⟩ := lookIn_ns I.ns
  ⟨od, ⟨I.obj, rfl, rfl, ho⟩, hl⟩

section
variable {prog : Program} {w : World} {A : Around} {E : Value → Shared → Prop} {s : Shared} {K : PySem.W.Frag} {x dx C f : Addr} {mA : Str → Option Value} {name : Str} {v : Value}

theorem get_map {expr : Bool} {Q : Value → Shared → Prop} (X : K.In s.heap) (I : ObjM s.heap x dx C mA) (hg : PySem.W.plainGet K C name = true) (hh : PySem.W.hasDictIn K C = true)
    (ha : PySem.W.findIn K (.ref C) name = some none) (hv : mA name = some v) (hv' : PySem.W.handedIn v = true) (h : Q v { s with toks := s.toks + 1 }) :
    wpAny (model prog w) A (getAttr (.ref x) name expr) Q E s := by
  obtain ⟨od, J, hl⟩ := I.look
  exact PySem.W.get_value X J (PySem.W.plainGet_of hg).1 (PySem.W.findObj_own hh ha rfl (by rw [hl, hv])) hv' h

theorem get_meth {pl : Sem Bool} {Q : Value × List Value → Shared → Prop} (X : K.In s.heap) (I : ObjM s.heap x dx C mA) (hg : PySem.W.plainGet K C name = true)
    (hf : PySem.W.findIn K (.ref C) name = some (some (.ref f))) (ht : PySem.W.isFn K (.ref f) = true) (hv : mA name = none) (h : Q (.ref f, [.ref x]) s) :
    wpAny (model prog w) A (getMethod (.ref x) name pl) Q E s := by
  obtain ⟨od, J, hl⟩ := I.look
  exact PySem.W.method_fn X J (PySem.W.plainGet_of hg).1 (PySem.W.plainGet_of hg).2 hf (beq_iff_eq.mp ht) (by show (PySem.W.lookIn name od).map (·.isSome) = some false; rw [hl, hv]; rfl) h

theorem set_map {ns : List Str} {Q : Unit → Shared → Prop} (X : K.In s.heap) (I : ObjM s.heap x dx C mA)
    (hs : PySem.W.findIn K (.ref C) "__setattr__" = some (some (.builtin "object.__setattr__"))) (hp : PySem.W.plainOver K C = true) (ht : PySem.W.takerIn K C name = some none) (hh : PySem.W.hasDictIn K C = true)
    (hw : PySem.Within mA ns) (hsz : ns.length ≤ sizeLine)
    (h : ∀ h', ObjM h' x dx C (fun y => if y = name then some v else mA y) → Heap.SameBut dx s.heap h' → Q () { s with heap := h', toks := s.toks + 2 }) :
    wpAny (model prog w) A (setAttr (.ref x) name v) Q E s := by
  obtain ⟨od, J, hl⟩ := I.look
  refine PySem.W.set_plain X J hs (PySem.W.osa_open (s := { s with toks := s.toks + 1 }) (r := none) X J hp ht fun b => ?_)
  obtain ⟨cd, hc, hd'⟩ := PySem.W.any_some hh
  have hx : s.heap.get? x = some ⟨.ref C, some dx, .plain, #[]⟩ := I.obj
  refine wpAny_bind (wpAny_pure (wpAny_bind (wpAny_bind (wpAny_loadPart hx (wpAny_bind (PySem.W.Looks.here (s := { s with toks := s.toks + 1 }) (PySem.W.looks_clsIn X hc) ?_))))))
  rw [hd']
  refine wpAny_pure (a := some dx) (wpAny_bind (wpAny_pure (wpAny_bind ?_)))
  refine wpAny_nsSet1 (s := { s with toks := s.toks + 1 }) I.ns fun h' hn2 hs2 => ?_
  obtain ⟨oD, esD, epD, hoD, hdD, hcD⟩ := hn2.count (PySem.Within.cons name v hw)
  refine wpAny_bind (wpAny_lookBehind hoD (by rw [hdD]; exact pastItsLine_dict (Nat.le_trans hcD (by rw [List.length_cons]; omega))) ?_)
  exact wpAny_pure (h _ ⟨(hs2.2 _ (Ne.symm I.ne)).trans I.obj, hn2, I.ne⟩ hs2)

/-- C(..): the dict at the heap's end, the instance behind it; then its __init__ -/
theorem make_map {R : Result → Shared → Prop} {vs : List Value} {kw : List (Str × Value)} (X : K.In s.heap) (hm : PySem.W.makesIn K C = true)
    (hi : PySem.W.findIn K (.ref C) "__init__" = some (some (.ref f))) (hf : PySem.W.typeIn K (.ref f) = some (.type "function"))
    (h : codeAny (model prog w) (A.under (.builtin "type.__call__" ⟨.ref C :: vs, kw⟩)) (.call (.ref f) ⟨.ref (s.heap.objs.size + 1) :: vs, kw⟩) (PySem.W.InitBack (s.heap.objs.size + 1) R)
      { s with heap := (s.heap.push PySem.W.emptyDict).push (PySem.W.instObj C s.heap.objs.size) }) :
    codeAny (model prog w) A (.call (.ref C) ⟨vs, kw⟩) R s := by
  obtain ⟨hh, g, d, t, os⟩ := s
  exact PySem.W.make_core (PySem.W.makes_of X hm) (PySem.W.looks_findIn X hi) (fun self => PySem.W.bind_fn X self hf) (.inl rfl) h
end

/-! ### the attributes as a list of pairs -/
def putF (f : Str) (v : V) : List (Str × V) → List (Str × V)
  | [] => [(f, v)]
  | (g, x) :: r => if g = f then (g, v) :: r else (g, x) :: putF f v r
theorem lookup_putF (f g : Str) (v : V) : ∀ fs : List (Str × V), (putF f v fs).lookup g = if g = f then some v else fs.lookup g
  | [] => by
    show List.lookup g [(f, v)] = _
    by_cases h : g = f
    · have hb : (g == f) = true := beq_iff_eq.mpr h
      simp only [List.lookup, hb, if_pos h]
    · have hb : (g == f) = false := beq_eq_false_iff_ne.mpr h
      simp only [List.lookup, hb, if_neg h]
  | (k, x) :: r => by
    have ih := lookup_putF f g v r
    rw [show putF f v ((k, x) :: r) = (if k = f then (k, v) :: r else (k, x) :: putF f v r) from rfl]
    by_cases hk : k = f
    · rw [if_pos hk]
      by_cases h : g = k
      · have hb : (g == k) = true := beq_iff_eq.mpr h
        simp only [List.lookup, hb, if_pos (h.trans hk)]
      · have hb : (g == k) = false := beq_eq_false_iff_ne.mpr h
        simp only [List.lookup, hb, if_neg (fun e : g = f => h (e.trans hk.symm))]
    · rw [if_neg hk]
      by_cases h : g = k
      · have hb : (g == k) = true := beq_iff_eq.mpr h
        simp only [List.lookup, hb, if_neg (fun e : g = f => hk (h.symm.trans e))]
      · have hb : (g == k) = false := beq_eq_false_iff_ne.mpr h
        simp only [List.lookup, hb]
        exact ih
theorem keys_putF (f : Str) (v : V) : ∀ fs : List (Str × V), f ∈ (putF f v fs).map (·.1) ∧ ∀ g, g ∈ fs.map (·.1) → g ∈ (putF f v fs).map (·.1)
  | [] => ⟨by simp [putF], fun g h => by simp at h⟩
  | (k, x) :: r => by
    obtain ⟨i1, i2⟩ := keys_putF f v r
    rw [show putF f v ((k, x) :: r) = (if k = f then (k, v) :: r else (k, x) :: putF f v r) from rfl]
    by_cases hk : k = f
    · rw [if_pos hk]
      subst hk
      exact ⟨by simp, fun g h => by simpa using h⟩
    · rw [if_neg hk]
      refine ⟨?_, fun g h => ?_⟩
      · rw [List.map_cons]
        exact List.mem_cons_of_mem _ i1
      · rw [List.map_cons] at h ⊢
        rcases List.mem_cons.mp h with e | e
        · exact List.mem_cons.mpr (.inl e)
        · exact List.mem_cons_of_mem _ (i2 g e)
theorem length_putF (f : Str) (v : V) : ∀ fs : List (Str × V), (putF f v fs).length ≤ fs.length + 1
  | [] => by simp [putF]
  | (k, x) :: r => by
    have ih := length_putF f v r
    rw [show putF f v ((k, x) :: r) = (if k = f then (k, v) :: r else (k, x) :: putF f v r) from rfl]
    by_cases hk : k = f
    · rw [if_pos hk, List.length_cons, List.length_cons]; omega
    · rw [if_neg hk, List.length_cons, List.length_cons]; omega

theorem RelO.some_of {v : V} {o : Option Value} (r : RelO (some v) o) : ∃ u, o = some u ∧ RelV v u := by
  cases o with
  | none => exact (show False from r).elim
  | some u => exact ⟨u, rfl, r⟩
theorem RelO.none_of {o : Option Value} (r : RelO none o) : o = none := by
  cases o with
  | none => rfl
  | some u => exact (show False from r).elim
theorem handed_of {v : V} {u : Value} (r : RelV v u) : PySem.W.handedIn u = true := by
  cases v with
  | non => cases (show u = Value.none from r); rfl
  | bl b => cases (show u = Value.bool b from r); rfl
  | int i => obtain ⟨t, e⟩ := (show ∃ t, u = Value.int i t from r); cases e; rfl
  | str x => obtain ⟨t, e⟩ := (show ∃ t, u = Value.str x t from r); cases e; rfl
  | byt b => obtain ⟨t, e⟩ := (show ∃ t, u = Value.bytes b t from r); cases e; rfl
  | flt b => obtain ⟨t, e⟩ := (show ∃ t, u = Value.float b t from r); cases e; rfl
  | ref a => cases (show u = Value.ref a from r); rfl
  | ty n => cases (show u = Value.type n from r); rfl

section
variable {P : Program} {w : World} {H H' : Hp} {h h' : Heap} {a C dx : Addr} {fs fs' : List (Str × V)}
theorem ins_get (hok : HOk P w H h) (e : H a = some (.ins C dx fs)) : ∃ mA, ObjM h a dx C mA ∧ (∀ f, RelO (fs.lookup f) (mA f)) ∧ PySem.Within mA (fs.map (·.1)) ∧ fs.length ≤ 1000 ∧ H dx = some (.own a) := by
  obtain ⟨d, z, ne, ob, mA, n, r, q⟩ := (show ObjOk P w H h a (.ins C dx fs) from hok a _ e)
  exact ⟨mA, ⟨ob, n, ne⟩, r, q, z, d⟩
end

/-! ### what of the text a class must have -/
structure Cls (K : PySem.W.Frag) (C : Addr) : Prop where
  pg : PySem.W.plainGet K C Str.empty = true
  hd : PySem.W.hasDictIn K C = true
  po : PySem.W.plainOver K C = true
  sa : PySem.W.findIn K (.ref C) "__setattr__" = some (some (.builtin "object.__setattr__"))
theorem Cls.get {K : PySem.W.Frag} {C : Addr} (c : Cls K C) (f : Str) : PySem.W.plainGet K C f = true := c.pg
/-- no class of it has the name -/
def NoAttr (K : PySem.W.Frag) (C : Addr) (f : Str) : Prop := PySem.W.findIn K (.ref C) f = some none
theorem NoAttr.taker {K : PySem.W.Frag} {C : Addr} {f : Str} (n : NoAttr K C f) : PySem.W.takerIn K C f = some none := by
  unfold PySem.W.takerIn
  rw [show PySem.W.findIn K (.ref C) f = some none from n]
  rfl
/-- a constant of the class -/
structure Con (K : PySem.W.Frag) (C : Addr) (f : Str) (v : V) (u : Value) : Prop where
  at_ : PySem.W.findIn K (.ref C) f = some (some u)
  rel : RelV v u
  get : PySem.W.specialIn K u "__get__" = some none
  cp : PySem.W.copiedNames.contains f = false
/-- a method: a plain def of the class or of one above it -/
structure Meth (K : PySem.W.Frag) (C : Addr) (m : Str) (f : Addr) : Prop where
  at_ : PySem.W.findIn K (.ref C) m = some (some (.ref f))
  fn : PySem.W.isFn K (.ref f) = true
  kp : PySem.W.keepIn K (.ref f) = true

section
variable {X : Cx} {pins : List (Addr × Obj)} {σ : St} {H : Hp} {s : Shared} {a C dx : Addr} {fs : List (Str × V)} {f : Str} {v : V} {A : Around} {E : Value → Shared → Prop}

theorem getattr_ok {b : Bool} {Q : Value → Shared → Prop} (I : Inv X pins σ H s) (e : H a = some (.ins C dx fs)) (c : Cls X.K C) (n : NoAttr X.K C f) (l : fs.lookup f = some v)
    (h : ∀ u s', Inv X pins σ H s' → RelV v u → Q u s') : wpAny (model X.prog X.w) A (getAttr (.ref a) f b) Q E s := by
  obtain ⟨mA, O, r, _, _, _⟩ := ins_get I.hok e
  obtain ⟨u, hu, ru⟩ := RelO.some_of (v := v) (o := mA f) (by rw [← l]; exact r f)
  exact get_map I.kIn O (c.get f) c.hd n hu (handed_of ru) (h u _ (I.tok _) ru)

theorem getmeth_ok {m : Str} {g : Addr} {pl : Sem Bool} {Q : Value × List Value → Shared → Prop} (I : Inv X pins σ H s) (e : H a = some (.ins C dx fs)) (c : Cls X.K C) (k : Meth X.K C m g) (l : fs.lookup m = none)
    (h : Q (.ref g, [.ref a]) s) : wpAny (model X.prog X.w) A (getMethod (.ref a) m pl) Q E s := by
  obtain ⟨mA, O, r, _, _, _⟩ := ins_get I.hok e
  have hn : mA m = none := RelO.none_of (by rw [← l]; exact r m)
  exact get_meth I.kIn O (c.get m) k.at_ k.fn hn h

theorem setattr_ok {y : V} {u : Value} {Q : Unit → Shared → Prop} (I : Inv X pins σ H s) (e : H a = some (.ins C dx fs)) (c : Cls X.K C) (n : NoAttr X.K C f) (hl : fs.length < 1000) (ry : RelV y u)
    (h : ∀ s', Inv X pins σ (upd H a (.ins C dx (putF f y fs))) s' → Q () s') : wpAny (model X.prog X.w) A (setAttr (.ref a) f u) Q E s := by
  obtain ⟨mA, O, r, wi, _, ho⟩ := ins_get I.hok e
  have hz : (fs.map (·.1)).length ≤ sizeLine := by rw [List.length_map, sizeLine_eq]; omega
  refine set_map I.kIn O c.sa c.po n.taker c.hd wi hz fun h' O' sb => h _ ?_
  have hd : ∃ o, h'.get? dx = some o := let ⟨o, _, _, e', _⟩ := O'.ns; ⟨o, e'⟩
  refine I.write (x := a) (e := dx) (by rw [e]; exact True.intro) (.inr ho) (fun b q hb z => (sb.2 b hb).trans z) hd ?_
  refine ⟨by rw [upd_ne O.ne]; exact ho, ?_, O.ne, O'.obj, _, O'.ns, fun g => ?_, fun g hg => ?_⟩
  · have := length_putF f y fs; omega
  · show RelO ((putF f y fs).lookup g) (if g = f then some u else mA g)
    rw [lookup_putF]
    by_cases q : g = f
    · rw [if_pos q, if_pos q]; exact ry
    · rw [if_neg q, if_neg q]; exact r g
  · by_cases q : g = f
    · rw [q]; exact (keys_putF f y fs).1
    · refine (keys_putF f y fs).2 g (wi g fun z => hg ?_)
      show (if g = f then some u else mA g) = none
      rw [if_neg q]; exact z

/-- a new instance, tracked, without attributes -/
theorem Inv.made (I : Inv X pins σ H s) : Inv X pins σ (upd (upd H s.heap.objs.size (.own (s.heap.objs.size + 1))) (s.heap.objs.size + 1) (.ins C s.heap.objs.size []))
    { s with heap := (s.heap.push PySem.W.emptyDict).push (PySem.W.instObj C s.heap.objs.size) } := by
  have e1 : (s.heap.push PySem.W.emptyDict).get? s.heap.objs.size = some PySem.W.emptyDict := Heap.get?_push_size s.heap rfl
  have e2 : ((s.heap.push PySem.W.emptyDict).push (PySem.W.instObj C s.heap.objs.size)).get? (s.heap.objs.size + 1) = some (PySem.W.instObj C s.heap.objs.size) := by
    have := Heap.get?_push_size (s.heap.push PySem.W.emptyDict) (o := PySem.W.instObj C s.heap.objs.size) rfl
    rwa [Heap.size_push] at this
  have e3 : (s.heap.push PySem.W.emptyDict).Ns s.heap.objs.size (fun _ => none) := ⟨PySem.W.emptyDict, #[], _, e1, rfl, (fun e he => absurd he (by simp)), fun _ => rfl⟩
  have I1 := I.laid (a := s.heap.objs.size) (o := .own (s.heap.objs.size + 1)) (h' := s.heap.push PySem.W.emptyDict) (t' := s.toks) (fun b u q => Heap.get?_push_of_some _ q) (Nat.le_refl _) ⟨_, e1⟩
  refine I1.laid (a := s.heap.objs.size + 1) (o := .ins C s.heap.objs.size []) (t' := s.toks) (fun b u q => Heap.get?_push_of_some _ q) (Nat.le_of_eq (Heap.size_push _ _)) ?_
  have ne : s.heap.objs.size ≠ s.heap.objs.size + 1 := Nat.ne_of_lt (Nat.lt_succ_self _)
  refine ⟨by rw [upd_ne ne, upd_same], Nat.zero_le _, ne, e2, fun _ => none, (Heap.Ns1.of_empty e3).at fun o q => Heap.get?_push_of_some _ q, fun _ => True.intro, fun y hy => absurd rfl hy⟩

/-- e.f where nothing but the object is asked: through attributeBase (super) and the last hold -/
theorem attr_of {prog : Program} {w : World} {env : Env} {e : Expr} {f : Str} {pos : Pos} {s : Shared} {Q : Value → Shared → Prop} (hb : attributeBase e f env (eval e env) = eval e env)
    (h : wpAny (model prog w) A (eval e env) (fun o s₁ => wpAny (model prog w) A (getAttr o f true) Q E s₁) E s) : wpAny (model prog w) A (eval (.Attribute e f pos) env) Q E s :=
  Attribute_any_ h (by rw [arm_eval_Attribute, hb])
end

/-! ### readings and rules -/
/-- e.f, an attribute of the instance -/
def tFld (K : PySem.W.Frag) (ta : TE) (f : Str) : TE := fun σ H Q => ta σ H fun x H1 => ∃ a C dx fs v, x = .ref a ∧ H1 a = some (.ins C dx fs) ∧ Cls K C ∧ NoAttr K C f ∧ fs.lookup f = some v ∧ Q v H1
/-- e.f, a constant of the class -/
def tCon (K : PySem.W.Frag) (ta : TE) (f : Str) : TE := fun σ H Q => ta σ H fun x H1 => ∃ a C dx fs v u, x = .ref a ∧ H1 a = some (.ins C dx fs) ∧ Cls K C ∧ Con K C f v u ∧ fs.lookup f = none ∧ Q v H1
/-- e.f = value -/
def sFld (K : PySem.W.Frag) (ta tv : TE) (f : Str) : TS := fun D σ H => tv σ H fun y H1 => ta σ H1 fun x H2 => ∃ a C dx fs, x = .ref a ∧ H2 a = some (.ins C dx fs) ∧ Cls K C ∧ NoAttr K C f ∧ fs.length < 1000 ∧
  D.nx σ (upd H2 a (.ins C dx (putF f y fs)))
/-- an augmented operator on two values -/
def InOp (X : Cx) (op : Operator) (rd : V → V → Hp → VK → Prop) : Prop :=
  ∀ (pins : List (Addr × Obj)) (s : Shared) (σ : St) (H : Hp) (x y : V) (u v : Value) (Q : VK), Inv X pins σ H s → RelV x u → RelV y v → rd x y H Q → wpAny (model X.prog X.w) X.A (inplaceOp op u v) (EP X pins σ Q) X.xe s
/-- e.f op= value -/
def sFldAug (K : PySem.W.Frag) (ta tv : TE) (rd : V → V → Hp → VK → Prop) (f : Str) : TS := fun D σ H => ta σ H fun x H1 => ∃ a C dx fs v, x = .ref a ∧ H1 a = some (.ins C dx fs) ∧ Cls K C ∧ NoAttr K C f ∧ fs.lookup f = some v ∧
  tv σ H1 fun y H2 => rd v y H2 fun z H3 => ∃ dx' fs', H3 a = some (.ins C dx' fs') ∧ fs'.length < 1000 ∧ D.nx σ (upd H3 a (.ins C dx' (putF f z fs')))

section
variable {X : Cx} {o e value : Expr} {f : Str} {pos pos' tpos : Pos} {ta tv : TE}
theorem pe_fld (he : PE X e ta) (hb : attributeBase e f X.env (eval e X.env) = eval e X.env) : PE X (.Attribute e f pos) (tFld X.K ta f) := by
  intro pins s σ H Q I h
  refine attr_of hb (thn (he pins s σ H _ I h) fun u s1 ⟨x, H1, I1, rx, a, C, dx, fs, v, ex, ea, c, n, l, q⟩ => ?_)
  subst ex
  obtain rfl : u = Value.ref a := rx
  exact getattr_ok I1 ea c n l fun u' s2 I2 ru => ⟨v, H1, I2, ru, q⟩
theorem ps_fld (ha : PE X o ta) (hv : PE X value tv) (hs : swapsWith value (some (.Attribute o f pos')) pos.line X.env = pure false) : PS X (.Assign [.Attribute o f pos'] value pos) (sFld X.K ta tv f) := by
  intro pins s σ H D I h
  refine plainObj_wpAny_Assign_Attribute (thn (hv pins s σ H _ I h) fun u s1 ⟨y, H1, I1, ry, q⟩ => thn (ha pins s1 σ H1 _ I1 q) fun ov s2 ⟨x, H2, I2, rx, a, C, dx, fs, ex, ea, c, n, l, q2⟩ => ?_) hs
  subst ex
  obtain rfl : ov = Value.ref a := rx
  exact setattr_ok I2 ea c n l ry fun s3 I3 => ⟨σ, _, I3, q2⟩
def rAdd : V → V → Hp → VK → Prop := fun x y H Q => ∃ i j, x = .int i ∧ y = .int j ∧ Q (.int (i + j)) H
def rSub : V → V → Hp → VK → Prop := fun x y H Q => ∃ i j, x = .int i ∧ y = .int j ∧ Q (.int (i - j)) H
end

/-! ### isinstance -/
section
variable {X : Cx} {pins : List (Addr × Obj)} {σ : St} {H : Hp} {s : Shared} {A : Around} {E : Value → Shared → Prop} {Q : Value → Shared → Prop} {c : Value} {b : Bool}
/-- the type of a value, as the fragment's deciders take it; for an instance its class -/
inductive TyOf (K : PySem.W.Frag) (H : Hp) : V → Value → Prop where
  | non : TyOf K H .non (.type "NoneType")
  | bl (x : Bool) : TyOf K H (.bl x) (.type "bool")
  | int (i : Int) : TyOf K H (.int i) (.type "int")
  | str (x : Str) : TyOf K H (.str x) (.type "str")
  | flt (x : UInt64) : TyOf K H (.flt x) (.type "float")
  | lst {a : Addr} {xs : List V} (e : H a = some (.lst xs)) : TyOf K H (.ref a) (.type "list")
  | frz {a : Addr} {o : Obj} {xs : List V} (e : H a = some (.frz o (.lst xs))) : TyOf K H (.ref a) (.type "list")
  | tup {a : Addr} {xs : List V} (e : H a = some (.tup xs)) : TyOf K H (.ref a) (.type "tuple")
  | dK {a : Addr} {kvs : List (Key × V)} (e : H a = some (.dK kvs)) : TyOf K H (.ref a) (.type "dict")
  | dT {a : Addr} {kvs : List (List Key × V)} (e : H a = some (.dT kvs)) : TyOf K H (.ref a) (.type "dict")
  | ins {a C dx : Addr} {fs : List (Str × V)} (e : H a = some (.ins C dx fs)) (cl : Cls K C) (ha : PySem.W.findIn K (.ref C) "__class__" = some (some (.builtin "object.__class__")))
      (hn : PySem.W.specialIn K (.builtin "object.__class__") "__get__" = some (some (.builtin "getset_descriptor.__get__"))) (htk : PySem.W.takesIn K (.builtin "object.__class__") = some true)
      (hm : PySem.W.mroIn K C (.type "object") = some true) : TyOf K H (.ref a) (.ref C)
/-- isinstance(x, c) for one class c, a built-in or an own one: kitOne's answer -/
theorem isinst_ok {x : V} {u t : Value} (I : Inv X pins σ H s) (rx : RelV x u) (ty : TyOf X.K H x t) (e : PySem.W.kitOne X.K t c = some b) (h : ∀ tk, Q (.bool b) { s with toks := tk }) :
    wpAny (model X.prog X.w) A (call (.builtin "isinstance") [u, c]) Q E s := by
  cases ty with
  | non => cases (show u = Value.none from rx); exact PySem.W.kia_one PySem.W.kitx_none I.kIn True.intro e (fun z => nomatch z) h
  | bl y => cases (show u = Value.bool y from rx); exact PySem.W.kia_one PySem.W.kitx_bool I.kIn True.intro e (fun z => nomatch z) h
  | int i => obtain ⟨t, q⟩ := (show ∃ t, u = Value.int i t from rx); cases q; exact PySem.W.kia_one PySem.W.kitx_int I.kIn True.intro e (fun z => nomatch z) h
  | str y => obtain ⟨t, q⟩ := (show ∃ t, u = Value.str y t from rx); cases q; exact PySem.W.kia_one PySem.W.kitx_str I.kIn True.intro e (fun z => nomatch z) h
  | flt y => obtain ⟨t, q⟩ := (show ∃ t, u = Value.float y t from rx); cases q; exact PySem.W.kia_one PySem.W.kitx_float I.kIn True.intro e (fun z => nomatch z) h
  | @lst a xs ea =>
    cases (show u = Value.ref a from rx)
    obtain ⟨_, _, n, _, h1⟩ := (show ObjOk X.prog X.w H s.heap a (.lst xs) from I.hok a _ ea)
    exact PySem.W.kia_one PySem.W.kitx_list I.kIn ⟨_, h1, rfl⟩ e (fun z => nomatch z) h
  | @frz a ob xs ea =>
    cases (show u = Value.ref a from rx)
    obtain ⟨_, _, _, n, _, h1⟩ := (show ObjOk X.prog X.w H s.heap a (.frz ob (.lst xs)) from I.hok a _ ea)
    exact PySem.W.kia_one PySem.W.kitx_list I.kIn ⟨_, h1, rfl⟩ e (fun z => nomatch z) h
  | @tup a xs ea =>
    cases (show u = Value.ref a from rx)
    obtain ⟨_, _, _, p⟩ := (show ObjOk X.prog X.w H s.heap a (.tup xs) from I.hok a _ ea)
    obtain ⟨o, h1, h2, _⟩ := p
    exact PySem.W.kia_one PySem.W.kitx_tuple I.kIn ⟨o, h1, h2⟩ e (fun z => nomatch z) h
  | @dK a kvs ea =>
    cases (show u = Value.ref a from rx)
    obtain ⟨_, _, vs, _, p⟩ := (show ObjOk X.prog X.w H s.heap a (.dK kvs) from I.hok a _ ea)
    obtain ⟨o, es, ep, h1, h2, _⟩ := p
    exact PySem.W.kia_one PySem.W.kitx_dict I.kIn ⟨o, h1, h2.1⟩ e (fun z => nomatch z) h
  | @dT a kvs ea =>
    cases (show u = Value.ref a from rx)
    obtain ⟨_, _, xs, _, o, es, ep, h1, h2, _⟩ := (show ObjOk X.prog X.w H s.heap a (.dT kvs) from I.hok a _ ea)
    exact PySem.W.kia_one PySem.W.kitx_dict I.kIn ⟨o, h1, h2.1⟩ e (fun z => nomatch z) h
  | @ins a C dx fs ea cl ha hn htk hm =>
    cases (show u = Value.ref a from rx)
    obtain ⟨mA, O, _⟩ := ins_get I.hok ea
    obtain ⟨od, J, _⟩ := O.look
    exact PySem.W.kia_one (PySem.W.kitx_own (cl.get _) cl.hd ha hn htk hm) I.kIn J e (fun z => nomatch z) h
end
end L2

namespace L2
open PySem PySem.Spec PyProof.Rows

/-! ### room -/
structure Room (k : Nat) (A : Around) : Prop where
  hd : A.handled = none
  dp : A.depth + 3 * k + 5 < recursionLimit
  un : A.units + 16 * k + 200 < cLine
theorem Room.mono {j k : Nat} {A : Around} (r : Room k A) (h : j ≤ k) : Room j A := ⟨r.hd, by have := r.dp; omega, by have := r.un; omega⟩
theorem Room.deeper {k : Nat} {A : Around} (r : Room (k + 1) A) (env : Env) : Room k (A.deeper env) :=
  ⟨r.hd, by have := r.dp; show A.depth + 1 + 3 * k + 5 < _; omega, by have := r.un; show A.units + 3 + 16 * k + 200 < _; omega⟩
theorem make_depth {A : Around} {C : Addr} {us : List Value} {kw : List (Str × Value)} : (A.under (.builtin "type.__call__" ⟨.ref C :: us, kw⟩)).depth = A.depth + 1 := by
  first | rfl | simp [Around.under, Code.weight, Code.isCreation, Code.isGuard, Code.isCaller, Code.frames, Code.isFrame, guardIds]
theorem make_units {A : Around} {C : Addr} {us : List Value} {kw : List (Str × Value)} : (A.under (.builtin "type.__call__" ⟨.ref C :: us, kw⟩)).units = A.units + 1 := by
  first | rfl | simp [Around.under, Code.cUnits, Code.frames, Code.isFrame]
theorem Room.make {k : Nat} {A : Around} (r : Room (k + 1) A) (C : Addr) (us : List Value) (kw : List (Str × Value)) : Room k (A.under (.builtin "type.__call__" ⟨.ref C :: us, kw⟩)) :=
  ⟨r.hd, by have := r.dp; rw [make_depth]; omega, by have := r.un; rw [make_units]; omega⟩
theorem Room.depth {k : Nat} {A : Around} (r : Room k A) : A.depth < recursionLimit := by have := r.dp; omega
/-! ### argument lists and displays -/
def tNil : TA := fun _ H Q => Q [] H
def tCons (ta : TE) (tr : TA) : TA := fun σ H Q => ta σ H fun x H1 => tr σ H1 fun xs H2 => Q (x :: xs) H2
section
variable {X : Cx} {e : Expr} {es : List Expr} {te : TE} {t : TA} {pos : Pos}
theorem pa_nil : PA X [] tNil := fun _ _ _ _ H Q I h => Calls.spliced_nil ⟨[], H, I, .nil, h⟩
theorem pa_cons (ha : PE X e te) (hr : PA X es t) (hs : starEach (e :: es) X.env = (false, eval e X.env) :: starEach es X.env := by rfl) : PA X (e :: es) (tCons te t) := by
  intro pos pins s σ H Q I h
  rw [hs]
  show wpAny _ _ (spliced ((false, eval e X.env) :: backTo pos (starEach es X.env))) _ _ s
  refine Calls.spliced_cons (thn (ha pins s σ H _ I h) fun u s1 ⟨x, H1, I1, r1, q1⟩ => ?_)
  exact thn (hr pos pins s1 σ H1 _ I1 q1) fun us s2 ⟨xs, H2, I2, r2, q2⟩ => ⟨x :: xs, H2, I2, .cons r1 r2, q2⟩

/-- a tuple, a list of written items -/
def tTup (t : TA) : TE := fun σ H Q => t σ H fun xs H1 => xs.length ≤ sizeLine ∧ ∀ p, H1 p = none → Q (.ref p) (upd H1 p (.tup xs))
def tLst (t : TA) : TE := fun σ H Q => t σ H fun xs H1 => xs.length ≤ sizeLine ∧ ∀ p, H1 p = none → Q (.ref p) (upd H1 p (.lst xs))
theorem pe_tup {x1} (h : PA X es t) : PE X (.Tuple es x1 pos) (tTup t) := by
  intro pins s σ H Q I hq
  refine wpAny_Tuple_spliced (thn (h pos pins s σ H _ I hq) fun us s1 ⟨xs, H1, I1, r, z, q⟩ => ⟨by rw [← r.length]; exact z, ?_⟩)
  have hf : H1 s1.heap.objs.size = none := I1.hok.fresh (Nat.le_refl _)
  refine ⟨.ref s1.heap.objs.size, upd H1 s1.heap.objs.size (.tup xs), I1.laid (t' := s1.toks) (fun b u e => Heap.get?_push_of_some _ e) (Nat.le_refl _) ?_, rfl, q _ hf⟩
  exact ⟨z, us, r, ⟨_, Heap.get?_push_size _ rfl, rfl, _, rfl⟩⟩
theorem pe_lst (h : PA X es t) : PE X (.List es pos) (tLst t) := by
  intro pins s σ H Q I hq
  refine wpAny_List_spliced (thn (h pos pins s σ H _ I hq) fun us s1 ⟨xs, H1, I1, r, z, q⟩ => ⟨by rw [← r.length]; exact z, ?_⟩)
  have hf : H1 s1.heap.objs.size = none := I1.hok.fresh (Nat.le_refl _)
  refine ⟨.ref s1.heap.objs.size, upd H1 s1.heap.objs.size (.lst xs), I1.laid (t' := s1.toks) (fun b u e => Heap.get?_push_of_some _ e) (Nat.le_refl _) ?_, rfl, q _ hf⟩
  exact ⟨z, us, 0, r, Heap.get?_push_size _ rfl⟩
end

/-! ### what a def promises -/
/-- a def's promise: the bound arguments in the parameters' order, the heap, the wanted end, the wanted exception -/
abbrev Sp := List V → Hp → VK → XK → Prop
/-- how an exception lies behind a call (file 08 gives it): the callers' frames, abstract heap and state ahead of the call, the wish, the exception, the state -/
abbrev CXT := List Env → Hp → Shared → XK → Value → Shared → Prop

/-- the state at a call -/
structure Env0 (P : Program) (w : World) (K : PySem.W.Frag) (mg : Str → Option Value) (base : Heap) (A : Around) (outer : List Env) (s : Shared) (H : Hp) : Prop where
  frames : A.frames = some outer
  mod : Mod K mg base
  bs : ∀ b o, base.get? b = some o → s.heap.get? b = some o ∧ H b = none
  bsz : base.objs.size ≤ s.heap.objs.size
  funs : s.heap.FunFrames base outer
  frf : ∀ b ∈ frs outer, H b = none
  hok : HOk P w H s.heap
  bare : AllBare s.gens
/-- a call's end -/
def CE (outer : List Env) (P : Program) (w : World) (H : Hp) (s : Shared) (Q : VK) (u : Value) (s' : Shared) : Prop :=
  ∃ v H', s'.os = s.os ∧ AllBare s'.gens ∧ Un (frs outer) [] H H' s.heap s'.heap ∧ HOk P w H' s'.heap ∧ RelV v u ∧ Q v H'
def CR (CX : CXT) (outer : List Env) (P : Program) (w : World) (H : Hp) (s : Shared) (Q : VK) (E : XK) (r : Result) (s' : Shared) : Prop :=
  match r with
  | .ok (.ret u) => CE outer P w H s Q u s'
  | .ok _ => False
  | .error e => CX outer H s E e s'
structure FnOk (P : Program) (w : World) (K : PySem.W.Frag) (mg : Str → Option Value) (base : Heap) (CX : CXT) (k : Nat) (f : Addr) (fd : FuncData) (ps : List Str) (sp : Sp) : Prop where
  len : ∀ vs H Q E, sp vs H Q E → vs.length = ps.length
  run : ∀ (A : Around) (outer : List Env) (s : Shared) (H : Hp) (args : Args) (us : List Value) (vs : List V) (Q : VK) (E : XK), Room k A → Env0 P w K mg base A outer s H → BindsTo s fd args (ps.zip us) → Vals vs us → sp vs H Q E →
    codeAny (model P w) A (.call (.ref f) args) (CR CX outer P w H s Q E) s
theorem FnOk.mono {P : Program} {w : World} {K : PySem.W.Frag} {mg : Str → Option Value} {base : Heap} {CX : CXT} {j k : Nat} {f : Addr} {fd : FuncData} {ps : List Str} {sp : Sp} (F : FnOk P w K mg base CX j f fd ps sp) (h : j ≤ k) :
    FnOk P w K mg base CX k f fd ps sp := ⟨F.len, fun A outer s H args us vs Q E hr => F.run A outer s H args us vs Q E (hr.mono h)⟩
theorem Env0.make {P : Program} {w : World} {K : PySem.W.Frag} {mg : Str → Option Value} {base : Heap} {A : Around} {outer : List Env} {s : Shared} {H : Hp} (e : Env0 P w K mg base A outer s H) (C : Addr) (us : List Value) (kw : List (Str × Value)) :
    Env0 P w K mg base (A.under (.builtin "type.__call__" ⟨.ref C :: us, kw⟩)) outer s H := ⟨by first | exact e.frames | (simpa [Around.under, Code.envs, Code.isFrame, pushEnvs] using e.frames), e.mod, e.bs, e.bsz, e.funs, e.frf, e.hok, e.bare⟩
section
variable {X : Cx} {pins : List (Addr × Obj)} {σ : St} {H : Hp} {s s' : Shared}
/-- from a body: what a callee wants -/
theorem Inv.env0 (I : Inv X pins σ H s) : Env0 X.prog X.w X.K X.mg X.base X.A X.stack s H :=
  ⟨I.ok.frames, I.ok.mod, I.bs, Nat.le_trans I.ok.bsz I.sz, I.stack, I.stkFree, I.hok, I.bare⟩
/-- behind a call -/
theorem Inv.after {Q : VK} {u : Value} (I : Inv X pins σ H s) (h : CE X.stack X.prog X.w H s Q u s') : EP X pins σ Q u s' := by
  obtain ⟨v, H', os, bare, un, hok, r, q⟩ := h
  obtain ⟨hh, g, d, t, os'⟩ := s'
  obtain rfl : os' = s.os := os
  exact ⟨v, H', I.call (h' := hh) (g' := g) (d' := d) (t' := t) (ch := []) un hok bare (fun b z => absurd z (by simp)), r, q⟩
end

/-! ### calls -/
/-- f(..): the written arguments, then the defaults dvs; E: what is wanted of an exception -/
def tCall (sp : Sp) (dvs : List V) (E : XK) (t : TA) : TE := fun σ H Q => t σ H fun vs H1 => sp (vs ++ dvs) H1 Q E
/-- o.m(..) of an instance of the class at C -/
def tMeth (C : Addr) (m : Str) (sp : Sp) (dvs : List V) (E : XK) (ta : TE) (t : TA) : TE := fun σ H Q => ta σ H fun x H1 => ∃ a dx fs, x = .ref a ∧ H1 a = some (.ins C dx fs) ∧ fs.lookup m = none ∧
  t σ H1 fun vs H2 => sp (x :: (vs ++ dvs)) H2 Q E
/-- C(..): a new instance and its dict, then __init__ -/
def tMake (C : Addr) (sp : Sp) (dvs : List V) (E : XK) (t : TA) : TE := fun σ H Q => t σ H fun vs H1 => ∀ x dx, H1 x = none → H1 dx = none → dx ≠ x →
  sp (.ref x :: (vs ++ dvs)) (upd (upd H1 dx (.own x)) x (.ins C dx [])) (fun v H2 => v = .non ∧ Q (.ref x) H2) E

/-- how the parameters are bound: us the positional arguments, kw the keywords' values by name, ds the defaults that fill up -/
def Binds (K : PySem.W.Frag) (fd : FuncData) (ps : List Str) (ds : List Value) : Prop :=
  ∀ (s : Shared) (us : List Value), K.In s.heap → (us ++ ds).length = ps.length → BindsTo s fd ⟨us, []⟩ (ps.zip (us ++ ds))
/-- every parameter is given -/
theorem Binds.all {K : PySem.W.Frag} {fd : FuncData} {ps : List Str} (h : ∀ us : List Value, us.length = ps.length → bindArgs fd ⟨us, []⟩ = pure (ps.zip us)) : Binds K fd ps [] := fun s us _ hl => by
  rw [List.append_nil] at hl ⊢
  exact .of_eq (h us hl)

/-- an exception of a callee reaches what this body wants of exceptions -/
def Passes (CX : CXT) (X : Cx) (E : XK) : Prop := ∀ (pins : List (Addr × Obj)) (σ : St) (H : Hp) (s : Shared) (e : Value) (s' : Shared), Inv X pins σ H s → CX X.stack H s E e s' → X.xe e s'

section
variable {X : Cx} {CX : CXT} {k : Nat} {f C : Addr} {fd : FuncData} {ps : List Str} {sp : Sp} {dvs : List V} {ds : List Value} {E : XK} {x m : Str} {p pos apos : Pos} {e o : Expr} {es : List Expr} {ta : TE} {t : TA}

/-- the callee runs -/
theorem run_fn {pins : List (Addr × Obj)} {σ : St} {H : Hp} {s : Shared} {Q : VK} {us : List Value} {vs : List V} (F : FnOk X.prog X.w X.K X.mg X.base CX k f fd ps sp) (hr : Room k X.A) (hb : Binds X.K fd ps ds) (hd : Vals dvs ds) (hx : Passes CX X E)
    (I : Inv X pins σ H s) (r : Vals vs us) (h : sp (vs ++ dvs) H Q E) : wpAny (model X.prog X.w) X.A (call (.ref f) us) (EP X pins σ Q) X.xe s := by
  have r2 : Vals (vs ++ dvs) (us ++ ds) := r.append hd
  have hl : (us ++ ds).length = ps.length := by rw [← r2.length]; exact F.len _ _ _ _ h
  refine wpAny_call (codeAny_mono (F.run X.A X.stack s H ⟨us, []⟩ (us ++ ds) (vs ++ dvs) Q E hr I.env0 (hb s us I.kIn hl) r2 h) fun r s' hq => ?_)
  cases r with
  | error e => exact hx pins σ H s e s' I hq
  | ok fl =>
    cases fl with
    | ret u => exact I.after hq
    | next => exact False.elim hq
    | brk => exact False.elim hq
    | cont => exact False.elim hq

theorem pe_call (F : FnOk X.prog X.w X.K X.mg X.base CX k f fd ps sp) (hr : Room k X.A) (hg : Gl X x) (hm : X.mg x = some (.ref f)) (hk : PySem.W.keepIn X.K (.ref f) = true) (hb : Binds X.K fd ps ds) (hd : Vals dvs ds) (hx : Passes CX X E)
    (ha : PA X (e :: es) t) (hdb : (x == ("__debug__" : Str)) = false := by decide) (he : starEach (e :: es) X.env = (false, eval e X.env) :: starEach es X.env := by rfl) (hpl : (backTo pos (starEach es X.env)).any (·.1) = false := by rfl) :
    PE X (.Call (.Name x p) (e :: es) [] pos) (tCall sp dvs E t) := by
  intro pins s σ H Q I h
  refine wpAny_Call_Name_kw (ld_glob I hg hm ?_ hdb)
  refine PySem.W.callWith_K (h₀ := X.base) I.ok.mod.kin hk (thn (ha pos pins s σ H _ I h) fun us s1 ⟨vs, H1, I1, r, q⟩ => ⟨I1.kIn, ?_⟩) he hpl
  exact run_fn F hr hb hd hx I1 r q
/-- what a class must have to be made -/
structure Mk (K : PySem.W.Frag) (C f : Addr) : Prop where
  makes : PySem.W.makesIn K C = true
  init : PySem.W.findIn K (.ref C) "__init__" = some (some (.ref f))
  fn : PySem.W.isFn K (.ref f) = true
  kp : PySem.W.keepIn K (.ref C) = true

theorem run_make {pins : List (Addr × Obj)} {σ : St} {H : Hp} {s : Shared} {Q : VK} {us : List Value} {vs : List V} (M : Mk X.K C f) (F : FnOk X.prog X.w X.K X.mg X.base CX k f fd ps sp) (hr : Room (k + 1) X.A) (hb : Binds X.K fd ps ds) (hd : Vals dvs ds)
    (hx : Passes CX X E) (I : Inv X pins σ H s) (r : Vals vs us)
    (h : ∀ x dx, H x = none → H dx = none → dx ≠ x → sp (.ref x :: (vs ++ dvs)) (upd (upd H dx (.own x)) x (.ins C dx [])) (fun v H2 => v = .non ∧ Q (.ref x) H2) E) :
    wpAny (model X.prog X.w) X.A (call (.ref C) us) (EP X pins σ Q) X.xe s := by
  have hq := h (s.heap.objs.size + 1) s.heap.objs.size (I.hok.fresh (Nat.le_succ _)) (I.hok.fresh (Nat.le_refl _)) (Nat.ne_of_lt (Nat.lt_succ_self _))
  have I2 := Inv.made (C := C) I
  have r2 : Vals (V.ref (s.heap.objs.size + 1) :: (vs ++ dvs)) (Value.ref (s.heap.objs.size + 1) :: (us ++ ds)) := .cons rfl (r.append hd)
  have hl : (Value.ref (s.heap.objs.size + 1) :: us ++ ds).length = ps.length := by
    have e := r2.length
    rw [F.len _ _ _ _ hq] at e
    exact e.symm
  refine wpAny_call (make_map (f := f) I.kIn M.makes M.init (beq_iff_eq.mp M.fn) (codeAny_mono (F.run _ X.stack _ _ ⟨Value.ref (s.heap.objs.size + 1) :: us, []⟩ (Value.ref (s.heap.objs.size + 1) :: (us ++ ds)) _ _ E (hr.make C us [])
    (I2.env0.make C us []) (hb _ (Value.ref (s.heap.objs.size + 1) :: us) I2.kIn hl) r2 hq) fun r s' hq' => ?_))
  cases r with
  | error e => exact hx pins σ _ _ e s' I2 hq'
  | ok fl =>
    cases fl with
    | ret u =>
      obtain ⟨v, H', I3, rv, ev, q3⟩ := I2.after hq'
      subst ev
      exact ⟨rv, ⟨V.ref (s.heap.objs.size + 1), H', I3, rfl, q3⟩⟩
    | next => exact False.elim hq'
    | brk => exact False.elim hq'
    | cont => exact False.elim hq'
theorem pe_make (M : Mk X.K C f) (F : FnOk X.prog X.w X.K X.mg X.base CX k f fd ps sp) (hr : Room (k + 1) X.A) (hg : Gl X x) (hm : X.mg x = some (.ref C)) (hb : Binds X.K fd ps ds) (hd : Vals dvs ds) (hx : Passes CX X E)
    (ha : PA X (e :: es) t) (hdb : (x == ("__debug__" : Str)) = false := by decide) (he : starEach (e :: es) X.env = (false, eval e X.env) :: starEach es X.env := by rfl) (hpl : (backTo pos (starEach es X.env)).any (·.1) = false := by rfl) :
    PE X (.Call (.Name x p) (e :: es) [] pos) (tMake C sp dvs E t) := by
  intro pins s σ H Q I h
  refine wpAny_Call_Name_kw (ld_glob I hg hm ?_ hdb)
  refine PySem.W.callWith_K (h₀ := X.base) I.ok.mod.kin M.kp (thn (ha pos pins s σ H _ I h) fun us s1 ⟨vs, H1, I1, r, q⟩ => ⟨I1.kIn, ?_⟩) he hpl
  exact run_make M F hr hb hd hx I1 r q
end

/-! ### keywords -/
/-- the values of the keywords, from the left -/
def PK (X : Cx) (kws : List Keyword) (t : TA) : Prop :=
  ∀ (pos : Pos) (pins : List (Addr × Obj)) (s : Shared) (σ : St) (H : Hp) (Q : List V → Hp → Prop), Inv X pins σ H s → t σ H Q → wpAny (model X.prog X.w) X.A (evalAll ((backToKw pos (keywordEach kws X.env)).map (·.2))) (AP X pins σ Q) X.xe s
section
variable {X : Cx} {CX : CXT} {k : Nat} {f C : Addr} {fd : FuncData} {ps ks : List Str} {sp : Sp} {E : XK} {x m : Str} {p pos apos kpos : Pos} {e o : Expr} {es : List Expr} {kws : List Keyword} {te ta : TE} {t tk : TA} {nm : Option Str}
/-- how a call with keywords binds: g puts the positional values us and the keywords' values ws (names ks) in the parameters' order, defaults among them -/
structure KBinds (K : PySem.W.Frag) (fd : FuncData) (ps ks : List Str) (g : List Value → List Value → List Value) (gV : List V → List V → List V) : Prop where
  to : ∀ (s : Shared) (us ws : List Value), K.In s.heap → (g us ws).length = ps.length → BindsTo s fd ⟨us, ks.zip ws⟩ (ps.zip (g us ws))
  rel : ∀ {vs : List V} {us : List Value} {zs : List V} {ws : List Value}, Vals vs us → Vals zs ws → Vals (gV vs zs) (g us ws)
def tCallK (sp : Sp) (gV : List V → List V → List V) (E : XK) (t tk : TA) : TE := fun σ H Q => t σ H fun vs H1 => tk σ H1 fun zs H2 => sp (gV vs zs) H2 Q E
variable {g : List Value → List Value → List Value} {gV : List V → List V → List V}
end

/-! ### a def's body keeps its promise -/
/-- names: the parameters first -/
structure FnScope (N P : List Str) (sc : Scope) : Prop where
  kind : sc.kind = .function
  co : sc.isCoroutine = false
  gen : sc.isGenerator = false
  nd : N.Nodup
  pre : N.take P.length = P
  par : ∀ x ∈ P, sc.names.lookup x = some .local ∨ sc.names.lookup x = some .cell
  nofree : ∀ y ∈ sc.names, y.2 ≠ .free

theorem bindL_out {kindOf : Str → Option NameKind} {x : Str} : ∀ {binds : List (Str × Value)} {m : Str → Option Value}, (∀ v, (x, v) ∉ binds) → bindL kindOf binds m x = m x
  | [], _, _ => rfl
  | (n, v) :: r, m, h => by
    unfold bindL
    rw [bindL_out fun w hw => h w (List.mem_cons_of_mem _ hw)]
    split
    · have : x ≠ n := by rintro rfl; exact h v List.mem_cons_self
      simp [this]
    · rfl
theorem bindC_out {kindOf : Str → Option NameKind} {x : Str} : ∀ {binds : List (Str × Value)} {m : Str → Option Value}, (∀ v, (x, v) ∉ binds) → bindC kindOf binds m x = m x
  | [], _, _ => rfl
  | (n, v) :: r, m, h => by
    unfold bindC
    rw [bindC_out fun w hw => h w (List.mem_cons_of_mem _ hw)]
    split
    · rfl
    · have : x ≠ n := by rintro rfl; exact h v List.mem_cons_self
      simp [this]
theorem bindL_get {kindOf : Str → Option NameKind} {x : Str} {v : Value} : ∀ {P : List Str} {vs : List Value} {i : Nat} {m : Str → Option Value}, P.Nodup → P[i]? = some x → vs[i]? = some v → kindOf x = some .local →
    bindL kindOf (P.zip vs) m x = some v
  | [], _, _, _, _, h, _, _ => by simp at h
  | _ :: _, [], _, _, _, _, h, _ => by simp at h
  | p :: P, w :: vs, 0, m, nd, h1, h2, hk => by
    simp at h1 h2; subst h1; subst h2
    show bindL kindOf ((p, w) :: P.zip vs) m p = _
    unfold bindL
    rw [bindL_out fun v hv => (List.nodup_cons.mp nd).1 (List.of_mem_zip hv).1, if_pos hk]
    simp
  | p :: P, w :: vs, i + 1, m, nd, h1, h2, hk => by
    show bindL kindOf ((p, w) :: P.zip vs) m x = _
    unfold bindL
    exact bindL_get (i := i) (List.nodup_cons.mp nd).2 (by simpa using h1) (by simpa using h2) hk
theorem bindC_get {kindOf : Str → Option NameKind} {x : Str} {v : Value} : ∀ {P : List Str} {vs : List Value} {i : Nat} {m : Str → Option Value}, P.Nodup → P[i]? = some x → vs[i]? = some v → kindOf x ≠ some .local →
    bindC kindOf (P.zip vs) m x = some v
  | [], _, _, _, _, h, _, _ => by simp at h
  | _ :: _, [], _, _, _, _, h, _ => by simp at h
  | p :: P, w :: vs, 0, m, nd, h1, h2, hk => by
    simp at h1 h2; subst h1; subst h2
    show bindC kindOf ((p, w) :: P.zip vs) m p = _
    unfold bindC
    rw [bindC_out fun v hv => (List.nodup_cons.mp nd).1 (List.of_mem_zip hv).1, if_neg hk]
    simp
  | p :: P, w :: vs, i + 1, m, nd, h1, h2, hk => by
    show bindC kindOf ((p, w) :: P.zip vs) m x = _
    unfold bindC
    exact bindC_get (i := i) (List.nodup_cons.mp nd).2 (by simpa using h1) (by simpa using h2) hk

/-- the names' values at the entry -/
def start (N : List Str) (vs : List V) : St := vs.map some ++ List.replicate (N.length - vs.length) none

/-- the context of a def's body, at its entry; an exception leaves the frame, then lies as CX says -/
def cxOf (CX : CXT) (P : Program) (w : World) (K : PySem.W.Frag) (mg : Str → Option Value) (base : Heap) (N : List Str) (qual : Str) (scope : Scope) (f : Addr) (cd : Value) (A : Around) (outer : List Env) (s : Shared) (H : Hp) (E : XK) : Cx where
  prog := P
  w := w
  K := K
  mg := mg
  base := base
  A := A.deeper (envOfC qual scope s.heap.objs.size f cd)
  N := N
  s₀ := s
  H₀ := H
  env := envOfC qual scope s.heap.objs.size f cd
  outer := outer
  stack := envOfC qual scope s.heap.objs.size f cd :: outer
  ex := []
  calm := true
  fn := fun _ => true
  pn := []
  xe := fun e s' => wpAny (model P w) (A.deeper (envOfC qual scope s.heap.objs.size f cd)) (leaving (envOfC qual scope s.heap.objs.size f cd) e) (fun _ s'' => CX outer H s E e s'') (fun e' s'' => CX outer H s E e' s'') s'

theorem cell_has {sc : Scope} {n : Nat} {x : Str} (h : sc.names.lookup x = some .cell) : ∃ c, (cellsFrom n sc.names []).lookup x = some c := by
  have q := PySem.W.cellsFrom_some sc.names n [] (.inl h)
  exact Option.isSome_iff_exists.mp q

theorem inv_start {CX : CXT} {P : Program} {w : World} {K : PySem.W.Frag} {mg : Str → Option Value} {base : Heap} {N ps : List Str} {qual : Str} {scope : Scope} {f : Addr} {cd : Value} {A : Around} {outer : List Env} {s s1 : Shared} {H : Hp} {E : XK} {us : List Value} {vs : List V}
    (S : FnScope N ps scope) (hd : A.handled = none) (e0 : Env0 P w K mg base A outer s H) (hl : vs.length = ps.length) (r : Vals vs us)
    (x : InCallC s s.heap.objs.size (bindL (envOfC qual scope s.heap.objs.size f cd).kindOf (ps.zip us) fun _ => none) (cellsFrom (s.heap.objs.size + 1) scope.names []) (bindC (envOfC qual scope s.heap.objs.size f cd).kindOf (ps.zip us) fun _ => none) s1) :
    Inv (cxOf CX P w K mg base N qual scope f cd A outer s H E) [] (start N vs) H s1 := by
  have hpl : ps.length ≤ N.length := by have := congrArg List.length S.pre; rw [List.length_take] at this; omega
  obtain ⟨h1, tk, rfl, hk⟩ := x.done
  have noA : ∀ b : Addr, b ∉ (cxOf CX P w K mg base N qual scope f cd A outer s H E).ex := fun b z => absurd (show b ∈ ([] : List Addr) from z) (by simp)
  refine ⟨⟨e0.mod, S.kind, rfl, rfl, Nat.le_refl _, fun y z c h1 h2 => ?_, fun y hy => ?_, fun y c _ h => ?_, fun _ => hd, Around.frames_deeper e0.frames, .inr ⟨rfl, rfl⟩, fun b z => absurd z (noA b), e0.bs, e0.bsz, fun b _ _ => noA b, fun b z => absurd z (noA b), e0.funs, e0.frf⟩,
    rfl, e0.bare, Un.kept hk, ⟨_, x.toInCall.ns, fun i y v h1 h2 h3 => ?_⟩, fun y c h => ⟨_, x.cell y c h⟩, e0.hok.fresh (Nat.le_refl _), fun y c h => ?_, fun p hp => absurd (show p ∈ ([] : List (Addr × Obj)) from hp) (by simp), e0.hok.kept hk, ?_⟩
  · exact name_of_addr x.apart (PySem.mem_of_lookup h1) (PySem.mem_of_lookup h2)
  · have hy : scope.names.lookup y = some .cell ∨ scope.names.lookup y = some .free := hy
    rcases hy with hy | hy
    · exact cell_has hy
    · exact absurd rfl (S.nofree _ (PySem.mem_of_lookup hy))
  · exact Nat.le_of_lt (x.above y c (PySem.mem_of_lookup h))
  · have hi : i < vs.length := by
      unfold start at h2
      by_cases hi : i < vs.length
      · exact hi
      · rw [List.getElem?_append_right (by simpa using hi)] at h2
        rw [List.getElem?_replicate] at h2
        split at h2 <;> cases h2
    have ha : vs[i]? = some v := by
      unfold start at h2
      rw [List.getElem?_append_left (by simpa using hi), List.getElem?_map] at h2
      cases e : vs[i]? with
      | none => rw [e] at h2; cases h2
      | some a => rw [e] at h2; cases h2; rfl
    obtain ⟨u, hu, rv⟩ := r.get ha
    have hp : ps[i]? = some y := by
      rw [← S.pre, List.getElem?_take_of_lt (by omega)]; exact h1
    have ndP : ps.Nodup := by rw [← S.pre]; exact S.nd.sublist (List.take_sublist _ _)
    refine ⟨u, rv, ?_⟩
    rcases S.par y (List.mem_of_getElem? hp) with k | k
    · exact .inl ⟨k, bindL_get ndP hp hu k⟩
    · obtain ⟨c, e⟩ := cell_has (n := s.heap.objs.size + 1) k
      refine .inr ⟨.inl k, c, e, ?_⟩
      have q := x.cell y c e
      rw [bindC_get ndP hp hu (by show scope.names.lookup y ≠ _; rw [k]; decide)] at q
      exact q
  · exact e0.hok.fresh (Nat.le_of_lt (x.above y c (PySem.mem_of_lookup h)))
  · unfold start
    show _ = N.length
    rw [List.length_append, List.length_map, List.length_replicate]
    omega

/-- THE RULE: a def (or a method) of the text, by its body. The body's reading t is chosen for each entry; it is run at the parameters' values -/
theorem fn_of {CX : CXT} {P : Program} {w : World} {K : PySem.W.Frag} {mg : Str → Option Value} {base : Heap} {k : Nat} {f : Addr} {name qual : Str} {params : Arguments} {body : List Stmt} {scope : Scope} {dV kV doc pm cdv ct oc : Value} {an od : Option Addr}
    {osl : Array (Option Value)} {N ps : List Str} {sp : Sp} (lk : K.lookup f = some ⟨oc, od, .func (PySem.W.fnOf name qual params body scope dV kV doc pm an cdv ct), osl⟩) (hcd : PySem.W.codeIn K cdv qual = true) (S : FnScope N ps scope)
    (len : ∀ vs H Q E, sp vs H Q E → vs.length = ps.length)
    (hbody : ∀ (A : Around) (outer : List Env) (s : Shared) (H : Hp) (vs : List V) (Q : VK) (E : XK), Room k (A.deeper (envOfC qual scope s.heap.objs.size f cdv)) → sp vs H Q E →
      ∃ t, PSs (cxOf CX P w K mg base N qual scope f cdv A outer s H E) body t ∧ t { nx := fun _ H' => Q .non H', rt := Q } (start N vs) H) :
    FnOk P w K mg base CX (k + 1) f (PySem.W.fnOf name qual params body scope dV kV doc pm an cdv ct) ps sp := by
  refine ⟨len, fun A outer s H args us vs Q E hr e0 hb r hsp => ?_⟩
  have hl := len _ _ _ _ hsp
  have KX : K.In s.heap := e0.mod.kin.keeps fun b o e => (e0.bs b o e).1
  have lim : s.heap.NoLimit := e0.mod.nolimit.keeps fun b o e => (e0.bs b o e).1
  have hkind : ∀ y ∈ ps.zip us, scope.names.lookup y.1 = some .local ∨ (scope.names.lookup y.1 = some .cell ∧ ((cellsFrom (s.heap.objs.size + 1) scope.names []).lookup y.1).isSome = true) := fun ⟨n, v⟩ hy => by
    rcases S.par n (List.of_mem_zip hy).1 with q | q
    · exact .inl q
    · exact .inr ⟨q, PySem.W.cellsFrom_some _ _ _ (.inl q)⟩
  refine codeAny_call_function hr.depth (KX _ _ lk) rfl S.co S.gen rfl (PySem.W.codeRec_of KX hcd) (hb _ _ _ _ ?_)
  refine wpAny_newFunctionEnv_cells S.kind hkind fun env he s1 x => ?_
  subst he
  refine ⟨lim.keeps x.toInCall.keep, codeAny_func ?_⟩
  obtain ⟨t, ht, hq⟩ := hbody A outer s H vs Q E (hr.deeper _) hsp
  have I : Inv (cxOf CX P w K mg base N qual scope f cdv A outer s H E) [] (start N vs) H s1 := inv_start S hr.hd e0 hl r x
  refine wpAny_mono (ht [] s1 (start N vs) H _ I hq) (fun fl s' hs => ?_) fun e s' hs => hs
  have fin : ∀ {σ' : St} {H' : Hp} {v : V} {u : Value}, Inv (cxOf CX P w K mg base N qual scope f cdv A outer s H E) [] σ' H' s' → RelV v u → Q v H' → CE outer P w H s Q u s' :=
    fun {σ' H' v u} J rv q => ⟨v, H', J.os, J.bare, J.base, J.hok, rv, q⟩
  cases fl with
  | ret u =>
    obtain ⟨v, σ', H', J, rv, q⟩ := hs
    exact fin J rv q
  | next =>
    obtain ⟨σ', H', J, q⟩ := hs
    exact fin (v := V.non) (u := Value.none) J rfl q
  | brk =>
    obtain ⟨_, _, _, q⟩ := hs
    exact False.elim q
  | cont =>
    obtain ⟨_, _, _, q⟩ := hs
    exact False.elim q
end L2

namespace L2
open PySem PySem.Spec PyProof.Rows
section
variable {X : Cx} {x : Str} {p pos : Pos} {e : Expr} {es : List Expr} {t : TA} {id T : String} {r : List V → Hp → VK → Prop}

def tCB (r : List V → Hp → VK → Prop) (t : TA) : TE := fun σ H Q => t σ H fun vs H1 => r vs H1 Q
/-- f(e, ..), f a built-in function -/
theorem pe_callB (hc : CallR X (.builtin id) r) (hg : Gl X x) (hm : X.mg x = none) (hv : bootBuiltins x = some (.builtin id)) (ha : PA X (e :: es) t) (hn : x ≠ "__name__" := by decide) (hdb : (x == ("__debug__" : Str)) = false := by decide)
    (he : starEach (e :: es) X.env = (false, eval e X.env) :: starEach es X.env := by rfl) (hpl : (backTo pos (starEach es X.env)).any (·.1) = false := by rfl) : PE X (.Call (.Name x p) (e :: es) [] pos) (tCB r t) := by
  intro pins s σ H Q I h
  refine wpAny_Call_Name_kw (ld_blt I hg hm hv ?_ hn hdb)
  exact PyProof.Rows.callWith_builtin1 (thn (ha pos pins s σ H _ I h) fun us s1 ⟨vs, H1, I1, r1, q1⟩ => hc pins s1 σ H1 vs us Q I1 r1 q1) he hpl
/-- T(e, ..), T a built-in type -/
theorem pe_callTy (hc : CallR X (.type T) r) (hg : Gl X x) (hm : X.mg x = none) (hv : bootBuiltins x = some (.type T)) (ha : PA X (e :: es) t) (hn : x ≠ "__name__" := by decide) (hdb : (x == ("__debug__" : Str)) = false := by decide)
    (he : starEach (e :: es) X.env = (false, eval e X.env) :: starEach es X.env := by rfl) (hpl : (backTo pos (starEach es X.env)).any (·.1) = false := by rfl) : PE X (.Call (.Name x p) (e :: es) [] pos) (tCB r t) := by
  intro pins s σ H Q I h
  refine wpAny_Call_Name_kw (ld_blt I hg hm hv ?_ hn hdb)
  exact PyProof.Rows.callWith_type1 (thn (ha pos pins s σ H _ I h) fun us s1 ⟨vs, H1, I1, r1, q1⟩ => hc pins s1 σ H1 vs us Q I1 r1 q1) he hpl
end
end L2

namespace HT
open PySem PyProof.Rows

/-- t < u of tuples of ints -/
def lexLt : List Int → List Int → Bool
  | [], [] => false
  | [], _ :: _ => true
  | _ :: _, [] => false
  | x :: xs, y :: ys => if x = y then lexLt xs ys else decide (x < y)
section
open PySem.SeqAt
open PySem.AutoSeq1 (wpAny_loadPart')
open PySem.MeetsSeq PySem.MeetsSeq2 PySem.MeetsSeq3

end

section
variable {prog : Program} {w : World} {A : Around} {E : Value → Shared → Prop} {s : Shared}

/-! ### t[a:b], not the whole -/
/-- a slice's bound as a place among n (d where it is left out) -/
def sIx (n d : Nat) : Option Int → Nat
  | none => d
  | some v => if v < 0 then (v + (n : Int)).toNat else min v.toNat n
end
end HT

namespace L2
open PySem PySem.Spec PyProof.Rows

/-! ### the parts of a slice -/
abbrev TO := St → Hp → (Option Int → Hp → Prop) → Prop
/-- a slice's part (left out, or an int) -/
def PO (X : Cx) (e : Option Expr) (t : TO) : Prop :=
  ∀ (pins : List (Addr × Obj)) (s : Shared) (σ : St) (H : Hp) (Q : Option Int → Hp → Prop), Inv X pins σ H s → t σ H Q →
    wpAny (model X.prog X.w) X.A (evalPart e X.env) (fun u s' => ∃ o H', Inv X pins σ H' s' ∧ IsPart u o ∧ Q o H') X.xe s
def tNoPart : TO := fun _ H Q => Q none H
def tPart (t : TE) : TO := fun σ H Q => t σ H fun x H1 => ∃ i, x = .int i ∧ Q (some i) H1

section
variable {X : Cx} {e : Expr} {te : TE} {lo hi : Option Expr} {tl th : TO} {pos p2 : Pos}

theorem po_none : PO X none tNoPart := by
  intro pins s σ H Q I h
  rw [evalPart_none]
  exact wpAny_pure ⟨none, H, I, .none, h⟩
theorem po_some (h : PE X e te) : PO X (some e) (tPart te) := by
  intro pins s σ H Q I hw
  rw [evalPart_some]
  refine thn (h pins s σ H _ I hw) fun u s1 ⟨x, H1, I1, r1, q1⟩ => ?_
  obtain ⟨i, rfl, q⟩ := q1
  obtain ⟨t, rfl⟩ := r1
  exact ⟨some i, H1, I1, .int i t, q⟩

/-- what a slice of a value is, by values: the slice object stands at sl -/
def SlR (X : Cx) (r : V → Option Int → Option Int → Hp → VK → Prop) : Prop :=
  ∀ (pins : List (Addr × Obj)) (s : Shared) (σ : St) (H : Hp) (x : V) (v vl vu : Value) (lo hi : Option Int) (sl : Addr) (Q : VK), Inv X pins σ H s → RelV x v → s.heap.IsSliceOf sl vl vu .none → IsPart vl lo → IsPart vu hi → r x lo hi H Q →
    ∃ T id, typeLookup (.type T) "__getitem__" = pure (some (.builtin id)) ∧ s.TypeIs v T ∧ wpAny (model X.prog X.w) X.A (getItem v (.ref sl)) (EP X pins σ Q) X.xe s
def tSl (r : V → Option Int → Option Int → Hp → VK → Prop) (te : TE) (tl th : TO) : TE := fun σ H Q => te σ H fun x H1 => tl σ H1 fun l H2 => th σ H2 fun u H3 => r x l u H3 Q
/-- a[lo:hi], any a -/
theorem pe_slice {r : V → Option Int → Option Int → Hp → VK → Prop} (hr : SlR X r) (he : PE X e te) (hl : PO X lo tl) (hu : PO X hi th) : PE X (.Subscript e (.Slice lo hi none p2) pos) (tSl r te tl th) := by
  intro pins s σ H Q I h
  refine Subscript_ (thn (he pins s σ H _ I h) fun v s1 ⟨x, H1, I1, r1, q1⟩ => ?_)
  refine wpAny_Slice (thn (hl pins s1 σ H1 _ I1 q1) fun vl s2 ⟨l, H2, I2, pl, q2⟩ => thn (hu pins s2 σ H2 _ I2 q2) fun vu s3 ⟨u, H3, I3, pu, q3⟩ => ?_)
  rw [evalPart_none]
  refine wpAny_pure ?_
  have I4 : Inv X pins σ H3 { s3 with heap := s3.heap.push { cls := .type "slice", data := .fields #[vl, vu, .none] } } := I3.kept (t' := s3.toks) fun b ob q => Heap.get?_push_of_some _ q
  obtain ⟨T, id, hT, ht, hg⟩ := hr pins { s3 with heap := s3.heap.push { cls := .type "slice", data := .fields #[vl, vu, .none] } } σ H3 x v vl vu l u s3.heap.objs.size Q I4 r1 (Heap.IsSliceOf.new ..) pl pu q3
  show wpAny (model X.prog X.w) X.A (subscriptTail e (.Slice lo hi none p2) v (.ref s3.heap.objs.size)) (EP X pins σ Q) X.xe { s3 with heap := s3.heap.push { cls := .type "slice", data := .fields #[vl, vu, .none] } }
  exact tail_any (ops := [.ref s3.heap.objs.size, v]) ht hT hg (by with_unfolding_all rfl)

/-- the items of xs[lo:hi] -/
def cutV (xs : List V) (lo hi : Option Int) : List V := (xs.drop (HT.sIx xs.length 0 lo)).take (HT.sIx xs.length xs.length hi - HT.sIx xs.length 0 lo)
theorem cutV_length (xs : List V) (lo hi : Option Int) : (cutV xs lo hi).length ≤ xs.length := by
  unfold cutV
  rw [List.length_take, List.length_drop]
  omega
/-- t[lo:hi], not the whole of it (the whole would be t itself) -/
def rSlT (K : PySem.W.Frag) : V → Option Int → Option Int → Hp → VK → Prop := fun x lo hi H Q => ∃ a xs, x = .ref a ∧ SqT K H a xs ∧
  ¬ (HT.sIx xs.length 0 lo = 0 ∧ HT.sIx xs.length xs.length hi = xs.length) ∧ ∀ p, H p = none → Q (.ref p) (upd H p (.tup (cutV xs lo hi)))
/-! ### t < u, t + u -/
def rLtT (K : PySem.W.Frag) : R2 := fun x y H Q => ∃ a b ns ms, x = .ref a ∧ y = .ref b ∧ SqT K H a (ns.map V.int) ∧ SqT K H b (ms.map V.int) ∧ Q (.bl (HT.lexLt ns ms)) H
/-- t + u, t not empty: u empty gives t itself -/
def rCatT (K : PySem.W.Frag) : R2 := fun x y H Q => ∃ a b xs ys, x = .ref a ∧ y = .ref b ∧ SqT K H a xs ∧ SqT K H b ys ∧ xs ≠ [] ∧ xs.length + ys.length ≤ sizeLine ∧
  (ys = [] → Q (.ref a) H) ∧ (ys ≠ [] → ∀ p, H p = none → Q (.ref p) (upd H p (.tup (xs ++ ys))))
end
end L2

namespace L2
open PySem PySem.Spec PyProof.Rows

/-! ### places -/
/-- the place that an index of any sign means -/
def ixN (n : Nat) (i : Int) : Option Nat := if 0 ≤ i then (if i < n then some i.toNat else none) else if -(n : Int) ≤ i then some (i + n).toNat else none
def atI {α : Type} (xs : List α) (i : Int) : Option α := (ixN xs.length i).bind fun j => xs[j]?
theorem ixN_seq {n : Nat} {i : Int} {j : Nat} (h : ixN n i = some j) : seqIndex? i n = some j ∧ j < n ∧ -(n : Int) ≤ i ∧ i < n := by
  unfold ixN at h
  by_cases h0 : 0 ≤ i
  · rw [if_pos h0] at h
    by_cases h1 : i < n
    · rw [if_pos h1] at h
      have e : i.toNat = j := Option.some.inj h
      exact ⟨by rw [seqIndex_of h0 h1, e], by omega, by omega, h1⟩
    · rw [if_neg h1] at h; cases h
  · rw [if_neg h0] at h
    by_cases h1 : -(n : Int) ≤ i
    · rw [if_pos h1] at h
      have e : (i + n).toNat = j := Option.some.inj h
      exact ⟨by rw [seqIndex_neg (by omega) h1, e], by omega, h1, by omega⟩
    · rw [if_neg h1] at h; cases h
theorem atI_get {α : Type} {xs : List α} {i : Int} {v : α} (h : atI xs i = some v) : ∃ j, seqIndex? i xs.length = some j ∧ xs[j]? = some v ∧ j < xs.length ∧ -(xs.length : Int) ≤ i ∧ i < xs.length := by
  unfold atI at h
  cases e : ixN xs.length i with
  | none => rw [e] at h; cases h
  | some j =>
    rw [e] at h
    obtain ⟨h1, h2, h3, h4⟩ := ixN_seq e
    exact ⟨j, h1, h, h2, h3, h4⟩
theorem atI_nat {α : Type} {xs : List α} {j : Nat} {v : α} (h : xs[j]? = some v) : atI xs (j : Int) = some v := by
  have hj : j < xs.length := (List.getElem?_eq_some_iff.mp h).1
  have e : ixN xs.length (j : Int) = some j := by
    unfold ixN
    rw [if_pos (by omega), if_pos (by omega)]; simp
  unfold atI; rw [e]; exact h
/-! ### what may be subscripted -/
/-- what stands as an index of a plain subscript -/
def PlainIx (b : Expr) : Prop := ∀ o i, subscripted b false o i = operate [o, i] (getItem o i)
/-- a subscript by values -/
def IxR (X : Cx) (r : R2) : Prop :=
  ∀ (value slice : Expr) (pins : List (Addr × Obj)) (s : Shared) (σ : St) (H : Hp) (x y : V) (v u : Value) (Q : VK), Inv X pins σ H s → RelV x v → RelV y u → r x y H Q →
    subscripted slice false v u = operate [v, u] (getItem v u) → wpAny (model X.prog X.w) X.A (subscriptTail value slice v u) (EP X pins σ Q) X.xe s
/-- a call of a builtin's method by values: the receiver, the arguments -/
def MtR (X : Cx) (id : String) (r : V → List V → Hp → VK → Prop) : Prop :=
  ∀ (pins : List (Addr × Obj)) (s : Shared) (σ : St) (H : Hp) (x : V) (xs : List V) (v : Value) (us : List Value) (Q : VK), Inv X pins σ H s → RelV x v → Vals xs us → r x xs H Q →
    wpAny (model X.prog X.w) X.A (call (.builtin id) (v :: us)) (EP X pins σ Q) X.xe s
section
variable {X : Cx} {a b : Expr} {ta tb : TE} {pos : Pos}
/-- a[b] -/
theorem pe_ix {r : R2} (hr : IxR X r) (ha : PE X a ta) (hb : PE X b tb) (hs : PlainIx b) : PE X (.Subscript a b pos) (tOp r ta tb) := by
  intro pins s σ H Q I h
  exact Subscript_ (binT ha hb I h fun v u s2 x y H2 I2 rx ry q => hr a b pins s2 σ H2 x y v u Q I2 rx ry q (hs _ _))

def rIxL (K : PySem.W.Frag) : R2 := fun x y H Q => ∃ p xs i v, x = .ref p ∧ y = .int i ∧ SqL K H p xs ∧ atI xs i = some v ∧ Q v H
def rIxT (K : PySem.W.Frag) : R2 := fun x y H Q => ∃ p xs i v, x = .ref p ∧ y = .int i ∧ SqT K H p xs ∧ atI xs i = some v ∧ Q v H
def rIxS : R2 := fun x y H Q => ∃ z i c, x = .str z ∧ y = .int i ∧ z.length ≤ sizeLine ∧ atI z.cps.toList i = some c ∧ Q (.str ⟨#[c]⟩) H
theorem ix_list : IxR X (rIxL X.K) := by
  intro value slice pins s σ H x y v u Q I rx ry h hs
  obtain ⟨p, xs, i, z, rfl, rfl, hq, he, q⟩ := h
  cases rx
  obtain ⟨t, rfl⟩ := ry
  obtain ⟨its, r, pl, hz⟩ := I.list hq
  obtain ⟨j, h1, h2, h3, h4, h5⟩ := atI_get he
  obtain ⟨w, ew, rw'⟩ := r.get h2
  have hl := r.length
  have hn := line63
  have fin : EP X pins σ Q w s := ⟨z, H, I, rw', q⟩
  by_cases h0 : 0 ≤ i
  · have hj : i.toNat = j := by
      rw [seqIndex_of h0 h5] at h1
      exact Option.some.inj h1
    exact item_listR pl.isList h0 (by omega) (by rw [hj]; simpa using ew) fin hs
  · have hj : (i + (its.toArray.size : Int)).toNat = j := by
      rw [seqIndex_neg (by omega) h4] at h1
      rw [List.size_toArray, ← hl]
      exact Option.some.inj h1
    exact subscriptTail_builtinR (x := w) pl.isList.typeIs slot_list_getitem.lookup
      (wpAny_getItem_list_neg (Q := fun r s' => r = w ∧ EP X pins σ Q r s') pl.isList (by omega) (by rw [List.size_toArray] <;> omega) (by omega) (by rw [hj]; simpa using ew) ⟨rfl, fin⟩) hs
theorem ix_tup : IxR X (rIxT X.K) := by
  intro value slice pins s σ H x y v u Q I rx ry h hs
  obtain ⟨p, xs, i, z, rfl, rfl, hq, he, q⟩ := h
  cases rx
  obtain ⟨t, rfl⟩ := ry
  obtain ⟨its, r, pl, hz⟩ := I.tuple hq
  obtain ⟨j, h1, h2, h3, h4, h5⟩ := atI_get he
  obtain ⟨w, ew, rw'⟩ := r.get h2
  have hl := r.length
  have hn := line63
  have fin : EP X pins σ Q w s := ⟨z, H, I, rw', q⟩
  exact subscriptTail_builtinR (x := w) pl.typeIs slot_tuple_getitem.lookup
    (getItem_tuple (j := j) (Q := fun r s' => r = w ∧ EP X pins σ Q r s') pl (by omega) (by omega) (by rw [List.size_toArray, ← hl]; exact h1) (by simpa using ew) ⟨rfl, fin⟩) hs
theorem ix_str : IxR X rIxS := by
  intro value slice pins s σ H x y v u Q I rx ry h hs
  obtain ⟨z, i, c, rfl, rfl, hz, he, q⟩ := h
  obtain ⟨t, rfl⟩ := rx
  obtain ⟨t', rfl⟩ := ry
  obtain ⟨j, h1, h2, h3, h4, h5⟩ := atI_get he
  have hl : z.cps.toList.length = z.length := by simp [Str.length]
  rw [hl] at h1 h4 h5
  have hn := line63
  exact tail_any (typeIs_str s z t) slot_str_getitem.lookup (getItem_str (c := c) (by
    have e1 : decide (i < -(2 ^ 63 : Int)) = false := decide_eq_false (by omega)
    have e2 : decide (i ≥ 2 ^ 63) = false := decide_eq_false (by omega)
    rw [e1, e2, Bool.or_false]) (by rw [h1]; simpa using h2) ⟨.str ⟨#[c]⟩, H, I.tok _, ⟨_, rfl⟩, q⟩) hs
/-- list, tuple or str -/
def rIx (K : PySem.W.Frag) : R2 := fun x y H Q => rIxL K x y H Q ∨ rIxT K x y H Q ∨ rIxS x y H Q
/-! ### xs[i] = v, any sign -/
def rSetL : V → V → V → Hp → (Hp → Prop) → Prop := fun o i v H Q => ∃ p xs k j, o = .ref p ∧ i = .int k ∧ H p = some (.lst xs) ∧ ixN xs.length k = some j ∧ Q (upd H p (.lst (xs.set j v)))
/-! ### slices -/
theorem slice_bounds (lo hi : Option Int) (n : Nat) : (sliceBounds lo hi none n).1 = ((HT.sIx n 0 lo : Nat) : Int) ∧ (sliceBounds lo hi none n).2.1 = ((HT.sIx n n hi : Nat) : Int) ∧ (sliceBounds lo hi none n).2.2 = 1 := by
  refine ⟨?_, ?_, rfl⟩
  · cases lo with
    | none => simp [sliceBounds, HT.sIx]
    | some i =>
      simp only [sliceBounds, HT.sIx, Option.getD_none, show (1 : Int) > 0 by decide, if_true]
      by_cases h : i < 0
      · simp only [h, if_true] <;> omega
      · simp only [h, if_false] <;> omega
  · cases hi with
    | none => simp [sliceBounds, HT.sIx]
    | some i =>
      simp only [sliceBounds, HT.sIx, Option.getD_none, show (1 : Int) > 0 by decide, if_true]
      by_cases h : i < 0
      · simp only [h, if_true] <;> omega
      · simp only [h, if_false] <;> omega
theorem slicePick_cut (its : List Value) (lo hi : Option Int) : slicePick its.toArray lo hi none = ((its.drop (HT.sIx its.length 0 lo)).take (HT.sIx its.length its.length hi - HT.sIx its.length 0 lo)).toArray := by
  obtain ⟨h1, h2, h3⟩ := slice_bounds lo hi its.toArray.size
  unfold slicePick
  rw [h1, h2, h3]
  simp only [sliceRange_one, pick_run, List.size_toArray] <;> rfl
/-- xs[lo:hi] of a list: a new list -/
def rSlL (K : PySem.W.Frag) : V → Option Int → Option Int → Hp → VK → Prop := fun x lo hi H Q => ∃ a xs, x = .ref a ∧ SqL K H a xs ∧ ∀ p, H p = none → Q (.ref p) (upd H p (.lst (cutV xs lo hi)))
theorem sl_list : SlR X (rSlL X.K) := by
  intro pins s σ H x v vl vu lo hi sl Q I rx hs pl pu h
  obtain ⟨a, xs, rfl, hx, q⟩ := h
  cases rx
  obtain ⟨its, r, ht, hz⟩ := I.list hx
  have hlen := r.length
  refine ⟨"list", _, slot_list_getitem.lookup, ht.isList.typeIs, ?_⟩
  refine wpAny_getItem_list_slice ht.isList hs pl pu .none (by simp) ?_ (by rw [List.size_toArray] <;> omega)
  rw [slicePick_cut, ← hlen]
  refine ⟨.ref s.heap.objs.size, _, I.laid (t' := s.toks) (o := .lst (cutV xs lo hi)) (fun b ob q => Heap.get?_push_of_some _ q) (Nat.le_refl _) ?_, rfl, q _ (I.hok.fresh (Nat.le_refl _))⟩
  exact ⟨Nat.le_trans (cutV_length xs lo hi) hz, _, 0, (r.drop (HT.sIx xs.length 0 lo)).take (HT.sIx xs.length xs.length hi - HT.sIx xs.length 0 lo), Heap.get?_push_size _ rfl⟩

/-! ### in, not in: flat items -/
def flatV : V → Bool
  | .non => true
  | .bl _ => true
  | .int _ => true
  | .str _ => true
  | _ => false
/-- == of flat values -/
def eqV : V → V → Bool
  | .non, .non => true
  | .bl a, .bl b => a == b
  | .bl a, .int b => (if a then 1 else 0) == b
  | .int a, .bl b => a == (if b then 1 else 0)
  | .int a, .int b => a == b
  | .str a, .str b => a == b
  | _, _ => false
/-- the items' answers, read off the values (a value's own answer does not lean on its token) -/
def eqU (x : V) (u : Value) : Bool := match u with
  | .none => eqV .non x
  | .bool b => eqV (.bl b) x
  | .int i _ => eqV (.int i) x
  | .str z _ => eqV (.str z) x
  | _ => false
def inV (x : V) (xs : List V) : Bool := xs.any fun y => eqV y x
/-- x in a list or tuple of flat items -/
def rIn (K : PySem.W.Frag) (neg : Bool) : R2 := fun x y H Q => ∃ p xs, y = .ref p ∧ (SqL K H p xs ∨ SqT K H p xs) ∧ flatV x = true ∧ xs.all flatV = true ∧ Q (.bl (if neg then !inV x xs else inV x xs)) H
/-! ### len, list(x), tuple(x) of any list or tuple that is read -/
theorem call_len_seq : CallR X (.builtin "len") (fun xs H Q => ∃ p ys, xs = [.ref p] ∧ (SqL X.K H p ys ∨ SqT X.K H p ys) ∧ Q (.int ys.length) H) := by
  intro pins s σ H xs us Q I r h
  obtain ⟨p, ys, rfl, hq, q⟩ := h
  obtain ⟨u, rfl, rx⟩ := vals1 r
  cases rx
  have hn := line63
  rcases hq with hq | hq
  · obtain ⟨its, r', pl, hz⟩ := I.list hq
    have hlen := r'.length
    exact Calls.call_len_list pl.isList (by simp only [List.size_toArray] <;> omega) ⟨.int ys.length, H, I.tok _, ⟨s.toks + 1, by rw [List.size_toArray, hlen]⟩, q⟩
  · obtain ⟨its, r', pl, hz⟩ := I.tuple hq
    have hlen := r'.length
    exact len_tuple pl (by simp only [List.size_toArray] <;> omega) ⟨.int ys.length, H, I.tok _, ⟨s.toks + 1, by rw [List.size_toArray, hlen]⟩, q⟩
theorem call_len_str : CallR X (.builtin "len") (fun xs H Q => ∃ z, xs = [.str z] ∧ z.length ≤ sizeLine ∧ Q (.int z.length) H) := by
  intro pins s σ H xs us Q I r h
  obtain ⟨z, rfl, hz, q⟩ := h
  obtain ⟨u, rfl, t, rfl⟩ := vals1 r
  have hn := line63
  exact len_str (by omega) ⟨.int z.length, H, I.tok _, ⟨_, rfl⟩, q⟩
theorem call_list_of : CallR X (.type "list") (fun xs H Q => ∃ p ys, xs = [.ref p] ∧ (SqL X.K H p ys ∨ SqT X.K H p ys) ∧ ∀ l, H l = none → Q (.ref l) (upd H l (.lst ys))) := by
  intro pins s σ H xs us Q I r h
  obtain ⟨p, ys, rfl, hq, q⟩ := h
  obtain ⟨u, rfl, rx⟩ := vals1 r
  cases rx
  have fin : ∀ (its : List Value), Vals ys its → ys.length ≤ sizeLine → ∀ (h' : Heap) (c' : Nat), (∀ b o', s.heap.get? b = some o' → h'.get? b = some o') →
      h'.get? s.heap.objs.size = some { cls := .type "list", dict := none, data := .seq its.toArray c', slots := #[] } → EP X pins σ Q (.ref s.heap.objs.size) { s with heap := h' } := fun its r' hz h' c' kp e =>
    ⟨.ref s.heap.objs.size, _, I.laid (t' := s.toks) kp (Nat.le_refl _) (show ObjOk X.prog X.w _ h' _ (.lst ys) from ⟨hz, its, c', r', e⟩), rfl, q _ (I.hok.fresh (Nat.le_refl _))⟩
  rcases hq with hq | hq
  · obtain ⟨its, r', pl, hz⟩ := I.list hq
    have hlen := r'.length
    obtain ⟨o, ho, hc, n, hd⟩ := pl.isList
    exact call_list_seq p (.inl rfl) ho hc hd (fun h' c' kp e => fin its r' hz h' c' kp e) (by simp only [List.size_toArray] <;> omega)
  · obtain ⟨its, r', pl, hz⟩ := I.tuple hq
    have hlen := r'.length
    obtain ⟨o, ho, hc, n, hd⟩ := pl
    exact call_list_seq p (.inr rfl) ho hc hd (fun h' c' kp e => fin its r' hz h' c' kp e) (by simp only [List.size_toArray] <;> omega)
/-! ### the call of a builtin's method: o.m(..) -/
/-- the value is of that builtin type -/
def tyV (K : PySem.W.Frag) (T : String) (x : V) (H : Hp) : Prop := match x with
  | .str _ => T = "str"
  | .int _ => T = "int"
  | .ref p => (T = "list" ∧ ∃ xs, SqL K H p xs) ∨ (T = "tuple" ∧ ∃ o, K.lookup p = some o ∧ o.cls = .type "tuple" ∧ o.dict = none) ∨
      (T = "dict" ∧ ((∃ kvs, H p = some (.dK kvs)) ∨ ∃ kvs, H p = some (.dT kvs))) ∨ (T = "set" ∧ ∃ S n, H p = some (.set S n))
  | _ => False
theorem tyV_is {pins : List (Addr × Obj)} {σ : St} {H : Hp} {s : Shared} {T : String} {x : V} {v : Value} (I : Inv X pins σ H s) (r : RelV x v) (ty : tyV X.K T x H) :
    s.TypeIs v T ∧ ∀ a, v = .ref a → ∃ ob, s.heap.get? a = some ob ∧ ob.dict = none := by
  cases x with
  | str z =>
    obtain ⟨t, rfl⟩ := r
    cases (show T = "str" from ty)
    exact ⟨typeIs_str s z t, fun _ e => nomatch e⟩
  | int i =>
    obtain ⟨t, rfl⟩ := r
    cases (show T = "int" from ty)
    exact ⟨typeIs_int s i t, fun _ e => nomatch e⟩
  | ref p =>
    cases r
    rcases ty with ⟨rfl, xs, hq⟩ | ⟨rfl, o, hk, hc, hd⟩ | ⟨rfl, hk⟩ | ⟨rfl, S, n, hk⟩
    · obtain ⟨its, _, pl, _⟩ := I.list hq
      refine ⟨pl.isList.typeIs, fun a e => ?_⟩
      cases e
      obtain ⟨o, n, e, c, hd, _⟩ := pl
      exact ⟨o, e, hd⟩
    · refine ⟨⟨o, I.kIn p o hk, hc⟩, fun a e => ?_⟩
      cases e
      exact ⟨o, I.kIn _ o hk, hd⟩
    · have z : ∃ o, s.heap.get? p = some o ∧ o.ExactDict := by
        rcases hk with ⟨kvs, hk⟩ | ⟨kvs, hk⟩
        · obtain ⟨_, _, _, _, o, _, _, e, ex, _⟩ := I.hok p _ hk
          exact ⟨o, e, ex⟩
        · obtain ⟨_, _, _, _, o, _, _, e, ex, _⟩ := I.hok p _ hk
          exact ⟨o, e, ex⟩
      obtain ⟨o, e, ex⟩ := z
      refine ⟨⟨o, e, ex.1⟩, fun a e2 => ?_⟩
      cases e2
      exact ⟨o, e, ex.2.1⟩
    · obtain ⟨o, _, _, _, e, ex, _⟩ := I.hok p _ hk
      refine ⟨⟨o, e, ex.1⟩, fun a e2 => ?_⟩
      cases e2
      exact ⟨o, e, ex.2.1⟩
  | _ => exact False.elim ty
def tBM0 (K : PySem.W.Frag) (T : String) (r : V → List V → Hp → VK → Prop) (to : TE) : TE := fun σ H Q => to σ H fun x H1 => tyV K T x H1 ∧ r x [] H1 Q
def tBM (K : PySem.W.Frag) (T : String) (r : V → List V → Hp → VK → Prop) (to : TE) (t : TA) : TE := fun σ H Q => to σ H fun x H1 => tyV K T x H1 ∧ t σ H1 fun xs H2 => r x xs H2 Q
variable {o e : Expr} {es : List Expr} {to : TE} {t : TA} {name : Str} {apos cpos : Pos} {T id : String} {r : V → List V → Hp → VK → Prop}
theorem pe_bm (pa : PlainAttrs T) (slot : Slot T name id) (hty : typeOf (.builtin id) = pure (.type "method_descriptor")) (hm : MtR X id r) (ho : PE X o to) (ha : PA X (e :: es) t)
    (hbase : attributeBase o name X.env (eval o X.env) = eval o X.env := by rfl)
    (hfew : ((backTo cpos (starEach (e :: es) X.env)).all (fun x => !x.1) && (backToKw cpos (keywordEach [] X.env)).all (fun x => x.1.isSome)
      && decide ((e :: es).length + ([] : List Keyword).length + (if ([] : List Keyword).isEmpty then 0 else 1) < 30)) = true := by rfl)
    (hline : (apos.endLine == cpos.line) = true := by rfl) (hs : starEach (e :: es) X.env = (false, eval e X.env) :: starEach es X.env := by rfl) (hplain : (backTo cpos (starEach es X.env)).any (·.1) = false := by rfl) :
    PE X (.Call (.Attribute o name apos) (e :: es) [] cpos) (tBM X.K T r to t) := by
  intro pins s σ H Q I h
  refine wpAny_Call_method_late hbase hfew hline rfl (thn (ho pins s σ H _ I h) fun v s1 ⟨x, H1, I1, r1, ty, q1⟩ => ?_)
  obtain ⟨h1, h2⟩ := tyV_is I1 r1 ty
  refine ⟨T, id, pa, slot, hty, h1, h2, ?_⟩
  have hA := ha cpos pins s1 σ H1 _ I1 q1
  rw [hs] at hA ⊢
  refine Calls.callWith_builtin (by show (false || (backTo cpos (starEach es X.env)).any (·.1)) = false; rw [hplain] <;> rfl) (Calls.evalArgs_plain ?_)
  exact thn hA fun us s2 ⟨vs, H2, I2, r2, q2⟩ => hm pins s2 σ H2 x vs v us Q I2 r1 r2 q2
/- xs.append(e), list.index on a module's tuple .. are MtR facts of 06m -/
end
end L2

namespace L2
open PySem PySem.Spec PyProof.Rows

def MtM (X : Cx) (id : String) (r : V → List V → Hp → VK → Prop) : Prop :=
  ∀ (pins : List (Addr × Obj)) (s : Shared) (σ : St) (H : Hp) (x : V) (xs : List V) (v : Value) (us : List Value) (Q : VK), Inv X pins σ H s → RelV x v → Vals xs us → r x xs H Q →
    wpAny (model X.prog X.w) X.A (call (.builtin id) (v :: us)) (EP X pins σ Q) X.xe s

/-! ### lists of values -/
theorem Vals.one : ∀ {x : V} {us : List Value}, Vals [x] us → ∃ u, us = [u] ∧ RelV x u
  | _, _, .cons r .nil => ⟨_, rfl, r⟩
section
variable {X : Cx} {pins : List (Addr × Obj)} {σ : St} {H : Hp} {s : Shared} {l b : Addr} {xs ys zs : List V}

/-! ### the two steps: a tracked list is rewritten, a new list is laid -/
theorem Inv.lset {its its' : List Value} {n : Nat} {f : Array Value → Array Value} {t' : Nat} (I : Inv X pins σ H s) (hH : H l = some (.lst xs))
    (e : s.heap.get? l = some { cls := .type "list", data := .seq its.toArray n }) (hf : f its.toArray = its'.toArray) (hv : Vals ys its') (hz : ys.length ≤ sizeLine) :
    Inv X pins σ (upd H l (.lst ys)) { s with heap := s.heap.update l (Obj.mapSeq f), toks := t' } := by
  have q := PySem.IsL.update e f
  rw [hf] at q
  refine I.write (x := l) (e := l) (by rw [hH]; exact trivial) (.inl rfl) (fun b' u hb hu => (Heap.get?_update_other s.heap (Obj.mapSeq f) (Ne.symm hb)).trans hu) ⟨_, q⟩ ?_
  exact ⟨hz, its', _, hv, q⟩
theorem Inv.lnew {its : List Value} {t' : Nat} (I : Inv X pins σ H s) (hv : Vals ys its) (hz : ys.length ≤ sizeLine) :
    Inv X pins σ (upd H s.heap.objs.size (.lst ys)) { s with heap := s.heap.push { cls := .type "list", data := .seq its.toArray }, toks := t' } :=
  I.laid (fun _ _ q => Heap.get?_push_of_some _ q) (Nat.le_refl _) ⟨hz, its, 0, hv, Heap.get?_push_size _ rfl⟩
theorem Inv.fresh (I : Inv X pins σ H s) : H s.heap.objs.size = none := I.hok.fresh (Nat.le_refl _)
theorem Inv.lstM (I : Inv X pins σ H s) (hH : H l = some (.lst xs)) : xs.length ≤ sizeLine ∧ ∃ (its : List Value) (n : Nat), Vals xs its ∧ xs.length = its.length ∧ s.heap.get? l = some { cls := .type "list", data := .seq its.toArray n } := by
  obtain ⟨z, its, n, r, e⟩ := I.hok l _ hH
  exact ⟨z, its, n, r, r.length, e⟩

end

section
variable {X : Cx}

/-! ### methods -/
def rAppend : V → List V → Hp → VK → Prop := fun x vs H Q => ∃ l xs y, x = .ref l ∧ vs = [y] ∧ H l = some (.lst xs) ∧ xs.length < sizeLine ∧ Q .non (upd H l (.lst (xs ++ [y])))
theorem mt_append : MtM X "list.append" rAppend := by
  intro pins s σ H x vs v us Q I rx rv h
  obtain ⟨l, xs, y, rfl, rfl, hH, hz, q⟩ := h
  cases rx
  obtain ⟨u, rfl, ru⟩ := rv.one
  obtain ⟨z, its, n, r, hl, e⟩ := I.lstM hH
  refine call_meets F.slot_list_append ⟨_, e, rfl⟩ F.entry_list_append (F.args_list_append_2 _ _) (PySem.list_append l its.toArray n u (by rw [List.size_toArray]; omega)) ⟨e, ?_⟩
  refine ⟨.non, _, I.lset (its' := its ++ [u]) hH e (by simp) (r.append (.cons ru .nil)) ?_, rfl, q⟩
  rw [List.length_append, List.length_singleton]
  omega

def rExtend : V → List V → Hp → VK → Prop := fun x vs H Q => ∃ l b xs zs, x = .ref l ∧ vs = [.ref b] ∧ H l = some (.lst xs) ∧ H b = some (.lst zs) ∧ xs.length + zs.length ≤ sizeLine ∧ Q .non (upd H l (.lst (xs ++ zs)))
def rPop : V → List V → Hp → VK → Prop := fun x vs H Q => ∃ l xs y, x = .ref l ∧ vs = [] ∧ H l = some (.lst xs) ∧ xs[xs.length - 1]? = some y ∧ Q y (upd H l (.lst xs.dropLast))
def rPopAt : V → List V → Hp → VK → Prop := fun x vs H Q => ∃ l xs i k y, x = .ref l ∧ vs = [.int i] ∧ H l = some (.lst xs) ∧ -(2 ^ 63) ≤ i ∧ i < 2 ^ 63 ∧ seqIndex? i xs.length = some k ∧ xs[k]? = some y ∧ Q y (upd H l (.lst (xs.eraseIdx k)))
def rReverse : V → List V → Hp → VK → Prop := fun x vs H Q => ∃ l xs, x = .ref l ∧ vs = [] ∧ H l = some (.lst xs) ∧ Q .non (upd H l (.lst xs.reverse))
def rClear : V → List V → Hp → VK → Prop := fun x vs H Q => ∃ l xs, x = .ref l ∧ vs = [] ∧ H l = some (.lst xs) ∧ Q .non (upd H l (.lst []))
/-! ### list + list, list += list, list * int -/
def rCat : R2 := fun x y H Q => ∃ l b xs zs, x = .ref l ∧ y = .ref b ∧ H l = some (.lst xs) ∧ H b = some (.lst zs) ∧ xs.length + zs.length ≤ sizeLine ∧ ∀ p, H p = none → Q (.ref p) (upd H p (.lst (xs ++ zs)))
theorem op_cat : OpR X (binaryOp .Add) rCat := by
  intro pins s σ H x y v u Q I rx ry h
  obtain ⟨l, b, xs, zs, rfl, rfl, hH, hB, hz, q⟩ := h
  cases rx
  cases ry
  obtain ⟨z, its, n, r, hl, e⟩ := I.lstM hH
  obtain ⟨z2, its2, n2, r2, hl2, e2⟩ := I.lstM hB
  refine PySem.P.add_list e e2 ?_ (by rw [List.size_toArray, List.size_toArray]; omega)
  have ea : its.toArray ++ its2.toArray = (its ++ its2).toArray := by simp
  rw [ea]
  exact ⟨.ref _, _, I.lnew (t' := s.toks) (r.append r2) (by rw [List.length_append]; omega), rfl, q _ I.fresh⟩
/-- a list times an int (a negative one is nothing) -/
def rRep : R2 := fun x y H Q => ∃ l k xs, x = .ref l ∧ y = .int k ∧ H l = some (.lst xs) ∧ -(2 ^ 63) ≤ k ∧ k < 2 ^ 63 ∧ xs.length * k.toNat ≤ sizeLine ∧
  ∀ p, H p = none → Q (.ref p) (upd H p (.lst (List.replicate k.toNat xs).flatten))
/-! ### del xs[i] -/
end

/-! ### xs[a:b] = ys -/
section
variable {prog : Program} {w : World} {A : Around} {E : Value → Shared → Prop} {s : Shared}
end

section
variable {X : Cx}
end
end L2

namespace Att
open PySem PySem.W PySem.Calls PyProof.Rows

/-! ### the script -/
theorem ints_of_wellAll {P : Params} {h : Heap} : ∀ (ns : List Int) (vs : List Value), WellAll P h vs (ns.map WData.int) → IntsAre vs ns := by
  intro ns
  induction ns with
  | nil =>
    intro vs w
    rw [List.map_nil] at w
    cases w
    exact .nil
  | cons n ns ih =>
    intro vs w
    rw [List.map_cons] at w
    cases w with
    | cons a b =>
      cases a
      exact .cons _ _ (ih _ b)

theorem script_of {l : OpenLaw} {n : Nat} (hn : l.most = some n) {P : Params} {h : Heap} {args : List WData} {vals : List Value}
    (hpre : l.row.toRowW.claim.pre args = true) (hwl : WellAll P h vals args) :
    ∃ a vs ns, vals = [Value.ref a] ∧ args = [WData.list (ns.map WData.int)] ∧ h.get? a = some { cls := .type "list", data := .seq vs.toArray } ∧ IntsAre vs ns ∧ ns.length ≤ n := by
  have hsh : WShape.hasAll [] args [.list .int] = true := (pre_splitW hpre).1
  have hc : l.pre.holds [] { args := args } = true := (pre_splitW hpre).2
  obtain ⟨d, r, rfl, h1, h2⟩ := hasAllW_cons hsh
  obtain rfl := hasAllW_nil h2
  obtain ⟨xs, rfl, h3⟩ := hasW_list h1
  obtain ⟨ns, rfl⟩ := items_int h3
  have hlen : ns.length ≤ n := by
    unfold OpenLaw.pre at hc
    have h4 : (WTm.not (.lt (.lit (.int (n : Int))) (.len (.arg 0)))).holds [] { args := [.list (ns.map .int)] } = true := by
      have h4 := (holds_andW hc).1
      rw [hn] at h4
      exact h4
    have h5 := condW_of h4 (w_not (w_lt w_lit (w_len_list (w_arg rfl))))
    rw [List.length_map] at h5
    refine Nat.le_of_not_lt fun q => ?_
    have q' : (n : Int) < ((ns.length : Nat) : Int) := by omega
    first
      | (rw [decide_eq_true q'] at h5; exact absurd h5 (by decide))
      | (simp at h5; omega)
  cases hwl with
  | cons w1 w2 =>
    cases w2
    cases w1 with
    | list ho hall => exact ⟨_, _, ns, rfl, rfl, ho, ints_of_wellAll ns _ hall, hlen⟩

theorem post_true (l : OpenLaw) (args : List WData) : l.row.toRowW.claim.post args (.bool true) args = true :=
  postW_of (r := l.row.toRowW) (X := (true == true))
    (show WShape.has [] (.bool true) .bool = true by first | rfl | decide | simp [WShape.has, WShape.arms, WShape.armsAll])
    (show (WTm.eq .res (.lit (.bool true))).value [] { args := args, res := some (.bool true), after := args } = some (.bool (true == true)) from w_eq_bool (w_res rfl) w_lit) rfl

/-! ### the attachment: holds_open's last premise (the goal 'hc' behind k_head) from a wpAny of the law's body -/
/-- the same from a codeAny of the CALL (for a layer whose function contracts speak of calls) -/
theorem attach_call {l : OpenLaw} {n : Nat} {q : Program} {loose : List Str} {XP : (Str → Option Value) → Heap → Prop} {YP : World → Heap → Prop} {d : DefRec}
    (hn : l.most = some n) (hdf : d.params.defaults = [])
    (call : ∀ (w : World) (s₀ s₁ : Shared) (mg mb : Str → Option Value) (fa : Addr) (o : Obj) (pm cd doc : Value) (a : Addr) (vs : List Value) (ns : List Int),
      Ground q loose [] XP w s₀ mg mb s₁.heap → YP w s₁.heap →
      s₁.heap.get? fa = some o → o.data = .func (docDef d.name d.params d.body d.scope pm cd doc) → s₁.heap.CodeRec cd d.name → mg d.name = some (.ref fa) →
      s₁.heap.get? a = some { cls := .type "list", data := .seq vs.toArray } → IntsAre vs ns → ns.length ≤ n → s₁.gens = #[] →
      codeAny (model l.prog w) callerA (.call (.ref fa) ⟨[.ref a], []⟩) (fun r s' => r = .ok (.ret (.bool true)) ∧ OldK s₁.heap s'.heap ∧ s'.os = s₁.os ∧ AllBare s'.gens) s₁) :
    WalkO q loose XP YP l.row.toRowW d [] (fun f vs => PySem.call f vs) := by
  intro w s₀ s₁ mg mb G Y fa o pm cd doc dV kV ho hd hcd hD hmg hg args vals as hpre hlay hrd hwl hlo
  obtain rfl : dV = .none := Dflts.none hD hdf
  obtain rfl : kV = .none := Dflts.noKw hD
  obtain ⟨a, vs, ns, rfl, rfl, hobj, hints, hlen⟩ := script_of hn hpre hwl
  refine enter_call (codeAny_mono (call w s₀ s₁ mg mb fa o pm cd doc a vs ns G Y ho (fd_plain hd) hcd hmg hobj hints hlen hg) fun r s' hq => ?_)
  obtain ⟨rfl, h2, h3, h4⟩ := hq
  exact ⟨.inl ⟨.bool true, .bool true, [], rfl, fun _ => rfl, .bool true, post_true l _, fun _ => ⟨List.Pairwise.nil, fun _ hm => (nomatch hm)⟩⟩, h2, h3, h4⟩

/-! ### rules over ANY heap (no ledger) from facts about the written part K: the library's own take a ledger (News) for what they write -/
section
variable {prog : Program} {w : World} {A : Around} {E : Value → Shared → Prop} {s : Shared} {K : Frag}

/-! the whole heap as the ledger: makes every rule that writes through a ledger a rule over any heap -/
def noObjs (h : Heap) : Heap := { h with objs := #[] }
def ledger (h : Heap) (L d : Addr) : List (Addr × Obj) := (List.range h.objs.size).filterMap fun a => if a = L ∨ a = d then none else (h.get? a).map fun o => (a, o)
end
end Att

namespace L2
open PySem PySem.Spec PyProof.Rows

theorem vals_ints : ∀ {vs : List Value} {ns : List Int}, IntsAre vs ns → Vals (ns.map V.int) vs
  | _, _, .nil => .nil
  | _, _, .cons n t h => .cons ⟨t, rfl⟩ (vals_ints h)

/-- nothing is tracked but the script, known to the object (or it is an object of the module) -/
def Only (H : Hp) : Prop := ∀ b, H b = none ∨ ∃ o xs, H b = some (.frz o (.lst xs))

/-- THE HEAD: the law's promise, at the heap behind the top. F, the promise of the law's def, may use that base is part of the heap (so K.In base, base.Ns mainGlobals mg stand in Mod) -/
theorem law_call {P : Program} {w : World} {K : PySem.W.Frag} {mg mb : Str → Option Value} {CX : CXT} {k : Nat} {fa a : Addr} {fd : FuncData} {x : Str} {sp : Sp} {s₁ : Shared} {vs : List Value} {ns : List Int}
    (KX : K.In s₁.heap) (hns : s₁.heap.Ns mainGlobals mg) (hb : s₁.heap.Ns builtinsNs mb) (hbb : ∀ x : Str, x ≠ "__name__" → mb x = bootBuiltins x) (hlim : s₁.heap.NoLimit) (hg : s₁.gens = #[])
    (ha : s₁.heap.get? a = some { cls := .type "list", data := .seq vs.toArray }) (hi : IntsAre vs ns) (hl : ns.length ≤ sizeLine) (hr : Room k callerA)
    (F : ∀ base : Heap, K.In base → base.Ns mainGlobals mg → FnOk P w K mg base CX k fa fd [x] sp) (hbind : ∀ (s : Shared) (u : Value), BindsTo s fd ⟨[u], []⟩ [(x, u)])
    (hsp : ∀ H : Hp, Only H → SqL K H a (ns.map V.int) → sp [.ref a] H (fun v _ => v = .bl true) fun _ _ _ => False)
    (hCX : ∀ H e s', CX [] H s₁ (fun _ _ _ => False) e s' → False) :
    codeAny (model P w) callerA (.call (.ref fa) ⟨[.ref a], []⟩) (fun r s' => r = .ok (.ret (.bool true)) ∧ OldK s₁.heap s'.heap ∧ s'.os = s₁.os ∧ AllBare s'.gens) s₁ := by
  have rv := vals_ints hi
  have lenV := hi.length
  -- from an abstract heap in which nothing but the script may be tracked
  have core : ∀ H : Hp, Only H → SqL K H a (ns.map V.int) → HOk P w H s₁.heap → (∀ b, H b ≠ none → b = a) → (H a ≠ none → K.lookup a = none) →
      codeAny (model P w) callerA (.call (.ref fa) ⟨[.ref a], []⟩) (fun r s' => r = .ok (.ret (.bool true)) ∧ OldK s₁.heap s'.heap ∧ s'.os = s₁.os ∧ AllBare s'.gens) s₁ := by
    intro H hO hS hok hA hK
    have base_of : ∀ {b : Addr} {o : Obj}, s₁.heap.get? b = some o → H b = none → (hidT s₁.heap H).get? b = some o := fun e n => hidT_get e n
    have noA : ∀ {b : Addr} {o : Obj} {es : Array DictEntry} {ep : Nat}, s₁.heap.get? b = some o → o.data = .dict es ep → H b = none := fun {b o es ep} e d => by
      cases q : H b with
      | none => rfl
      | some u =>
        have e' : b = a := hA b (by rw [q]; simp)
        subst e'
        rw [ha] at e; cases e
        have d' : Data.seq vs.toArray _ = Data.dict es ep := d
        cases d'
    have nsK : ∀ {b : Addr} {m : Str → Option Value}, s₁.heap.Ns b m → (hidT s₁.heap H).Ns b m := fun {b m} ⟨o, es, ep, e, d, r⟩ => ⟨o, es, ep, base_of e (noA e d), d, r⟩
    have hKb : K.In (hidT s₁.heap H) := fun b o e => base_of (KX b o e) (by
      cases q : H b with
      | none => rfl
      | some u =>
        have e' : b = a := hA b (by rw [q]; simp)
        subst e'
        rw [hK (by rw [q]; simp)] at e; cases e)
    have hM : Mod K mg (hidT s₁.heap H) := ⟨hKb, nsK hns, ⟨mb, nsK hb, hbb⟩, let ⟨mc, h1, h2⟩ := hlim; ⟨mc, nsK h1, h2⟩⟩
    have e0 : Env0 P w K mg (hidT s₁.heap H) callerA [] s₁ H := ⟨rfl, hM, fun b o e => of_hidT e, Nat.le_of_eq (hidT_size _ _), trivial, fun b hb => absurd (show b ∈ ([] : List Addr) from hb) (by simp), hok, .of_eq hg⟩
    refine codeAny_mono ((F _ hKb (nsK hns)).run callerA [] s₁ H ⟨[.ref a], []⟩ [.ref a] [.ref a] _ _ hr e0 (hbind s₁ (.ref a)) (.cons rfl .nil) (hsp H hO hS)) fun r s' h => ?_
    cases r with
    | error e => exact (hCX H e s' h).elim
    | ok fl =>
      cases fl with
      | next => exact False.elim h
      | brk => exact False.elim h
      | cont => exact False.elim h
      | ret u =>
        obtain ⟨v, H', os, bare, un, hok', r', q⟩ := h
        have q' : v = .bl true := q
        subst q'
        obtain rfl : u = Value.bool true := r'
        refine ⟨rfl, OldK.of_keep fun b o e => ?_, os, bare⟩
        cases q : H b with
        | none => exact un.keep b o e q (by intro z; exact absurd (show b ∈ ([] : List Addr) from z) (by simp)) (by simp)
        | some u =>
          rcases hO b with z | ⟨ob, xs, z⟩
          · rw [q] at z; cases z
          · have z2 := un.frzs b ob _ z
            obtain ⟨e1, _⟩ := hok b _ z
            obtain ⟨e2, _⟩ := hok' b _ z2
            rw [e] at e1; cases e1
            exact e2
  cases hk : K.lookup a with
  | some o =>
    -- the script is one of the module's own objects
    have e := KX a o hk
    rw [ha] at e
    cases e
    refine core (fun _ => none) (fun _ => .inl rfl) (.inr ⟨_, vs.toArray, _, hk, rfl, rfl, rfl, by rw [List.size_toArray, lenV]; exact hl, by simpa using rv⟩) (fun b u z => by have z' : (none : Option HO) = some u := z; cases z') (fun b z => absurd rfl z) fun z => absurd rfl z
  | none =>
    refine core (fun b => if b = a then some (.frz { cls := .type "list", data := .seq vs.toArray } (.lst (ns.map V.int))) else none) (fun b => ?_) (.inl (.inr ⟨{ cls := .type "list", data := .seq vs.toArray }, if_pos rfl⟩)) (fun b u z => ?_) (fun b z => ?_) fun _ => hk
    · by_cases hb : b = a
      · exact .inr ⟨_, _, if_pos hb⟩
      · exact .inl (if_neg hb)
    · by_cases hb : b = a
      · have z' := (if_pos hb).symm.trans z
        cases z'
        subst hb
        exact ⟨ha, by rw [List.length_map]; exact hl, vs, _, rv, ha⟩
      · have z' := (if_neg hb).symm.trans z
        cases z'
    · by_cases hb : b = a
      · exact hb
      · exact absurd (if_neg hb) z
end L2

namespace L2
open PySem PySem.Spec PyProof.Rows

abbrev KOf {K : PySem.W.Frag} {h : Heap} (_ : K.In h) : PySem.W.Frag := K

/-- the goal that k_head leaves (case hc), from the law's promise. F gives the function object fd (K's own) once, then the promise over every base -/
theorem walk_of {l : PySem.W.OpenLaw} {n k : Nat} {q : Program} {loose : List Str} {XP : (Str → Option Value) → Heap → Prop} {YP : World → Heap → Prop} {d : DefRec} {K : Params → PySem.W.Frag} {CX : World → CXT} {sp : World → Sp} {x : Str}
    (hn : l.most = some n) (hn2 : n ≤ sizeLine) (hdf : d.params.defaults = []) (hr : Room k callerA)
    (hY : ∀ (w : World) (h : Heap), YP w h → (K w.params).In h)
    (F : ∀ (w : World) (mg : Str → Option Value) (fa : Addr) (h : Heap), (K w.params).In h → h.Ns mainGlobals mg → mg d.name = some (.ref fa) →
      ∃ fd : FuncData, (∀ (s : Shared) (u : Value), BindsTo s fd ⟨[u], []⟩ [(x, u)]) ∧
        ∀ base : Heap, (K w.params).In base → base.Ns mainGlobals mg → FnOk l.prog w (K w.params) mg base (CX w) k fa fd [x] (sp w))
    (hsp : ∀ (w : World) (H : Hp) (a : Addr) (ns : List Int), ns.length ≤ n → Only H → SqL (K w.params) H a (ns.map V.int) → sp w [.ref a] H (fun v _ => v = .bl true) fun _ _ _ => False)
    (hCX : ∀ (w : World) (H : Hp) (s : Shared) (e : Value) (s' : Shared), CX w [] H s (fun _ _ _ => False) e s' → False) :
    PySem.W.WalkO q loose XP YP l.row.toRowW d [] (fun f vs => PySem.call f vs) := by
  refine Att.attach_call hn hdf fun w s₀ s₁ mg mb fa o pm cd doc a vs ns G Y ho hd hcd hmg hobj hints hlen hg => ?_
  have KX := hY w _ Y
  obtain ⟨fd, hb, hF⟩ := F w mg fa _ KX G.T.g hmg
  exact law_call KX G.T.g G.T.b G.T.builtins G.T.nolimit hg hobj hints (Nat.le_trans hlen hn2) hr hF hb (fun H hO hS => hsp w H a ns hlen hO hS) fun H e s' => hCX w H s₁ e s'
end L2

/- THE LAST THEOREM (shape; LID, My.* are yours):
   My.Adr: a structure of the addresses that your layer names (classes, functions); My.Txt K t: a structure (Prop) of the equations over K;
   My.txt_mk : {K} {implicit addresses ..} (e1 : nsIn K mainGlobals "law" = some (some (.ref f))) (e2 : K.lookup f = some ⟨oc, od, .func (fnOf "law" "law" params body scope dV kV doc pm an cdv ct), sl⟩) (e3 : codeIn K cdv "law" = true) .. : ∃ t, My.Txt K t

set_option maxRecDepth 100000 in
set_option maxHeartbeats 0 in
theorem PySem.Challenge.cw_LID_holds : PySem.Challenge.rw_LID.Holds := by
  w_on; o_law; k_head; (case hw => w_witness2)
  k_fill
  refine L2.walk_of (l := PySem.Challenge.rw_LID) (n := 63) (k := 40) (x := "script") (CX := fun w => ..) (sp := fun _ => My.sp_law) rfl (by decide) rfl ⟨rfl, by decide, by decide⟩ (fun w h Y => PySem.W.kIn_of Y) ?F ?S ?C
  case F =>
    intro w mg fa h KX G hmg
    have T : ∃ t, My.Txt (L2.KOf KX) t := by
      dsimp only [L2.KOf]                          -- K must stand as «<heap const> w.params» for k_is
      refine' My.txt_mk ?e1 ?e2 ?e3 ..
      (case e1 => PySem.W.k_is)                    -- in the order: a name -> its address -> its object -> its parts
      (case e2 => PySem.W.k_is)
      ..
    obtain ⟨t, T⟩ := T
    have e0 := hmg.symm.trans (PySem.W.mg_of KX G T.law)
    cases e0                                       -- fa is the law's own address
    exact ⟨_, fun s u => .of_eq rfl, fun base kb nb => My.law_fn T kb nb⟩     -- if «.of_eq rfl» comes too early: refine' ⟨_, ?b, fun base kb nb => My.law_fn T kb nb⟩; exact fun s u => .of_eq rfl
  case S => exact fun w H a ns hl hO hS => ..
  case C => exact ..
(the tactic k_is has no namespace: write k_is) -/

/-! SHORT WORDS over the layer: a def of the text, its body, what a loop and a test want. -/
namespace L2
open PySem PySem.Spec PyProof.Rows

/-! ### the text by places -/
/-- the j-th statement of a class's body -/
def inClass (s : Stmt) (j : Nat) : Stmt := match s with
  | .ClassDef _ _ _ body _ _ _ _ _ _ _ => body.getD j (.Pass ⟨0, 0, 0, 0⟩)
  | _ => .Pass ⟨0, 0, 0, 0⟩
def defArgs (s : Stmt) : Arguments := match s with
  | .FunctionDef _ a _ _ _ _ _ _ _ _ => a
  | _ => { posonlyargs := [], args := [], vararg := none, kwonlyargs := [], kw_defaults := [], kwarg := none, defaults := [] }
def defBody (s : Stmt) : List Stmt := match s with
  | .FunctionDef _ _ b _ _ _ _ _ _ _ => b
  | _ => []
def defScope (s : Stmt) : Scope := match s with
  | .FunctionDef _ _ _ _ _ _ sc _ _ _ => sc
  | _ => { kind := .function, names := [], isGenerator := false, isCoroutine := false }

/-! ### no exception leaves a def -/
abbrev CX0 : CXT := fun _ _ _ _ _ _ => False
abbrev E0 : XK := fun _ _ _ => False
theorem pass0 {X : Cx} : Passes CX0 X E0 := fun _ _ _ _ _ _ _ h => h.elim

/-! ### a def (or method) of the text as it stands behind the top -/
structure Fun (K : PySem.W.Frag) (x qual : Str) (st : Stmt) (f : Addr) (fd : FuncData) : Prop where
  ex : ∃ (oc : Value) (od : Option Addr) (kV doc pm : Value) (an : Option Addr) (cdv ct : Value) (osl : Array (Option Value)),
    fd = PySem.W.fnOf x qual (defArgs st) (defBody st) (defScope st) .none kV doc pm an cdv ct ∧ K.lookup f = some ⟨oc, od, .func fd, osl⟩ ∧ PySem.W.codeIn K cdv qual = true
  kp : PySem.W.keepIn K (.ref f) = true
section
variable {P : Program} {w : World} {K : PySem.W.Frag} {mg : Str → Option Value} {base : Heap}
/-- THE RULE for a def: its body as a term of rules, and the reading of that term -/
theorem Fun.ok {x qual : Str} {st : Stmt} {f : Addr} {fd : FuncData} {N ps : List Str} {k : Nat} {sp : Sp} (F : Fun K x qual st f fd) (S : FnScope N ps (defScope st)) (len : ∀ vs H Q E, sp vs H Q E → vs.length = ps.length)
    (hbody : ∀ (cdv : Value) (A : Around) (outer : List Env) (s : Shared) (H : Hp) (vs : List V) (Q : VK) (E : XK), Room k (A.deeper (envOfC qual (defScope st) s.heap.objs.size f cdv)) → sp vs H Q E →
      ∃ t, PSs (cxOf CX0 P w K mg base N qual (defScope st) f cdv A outer s H E).nox (defBody st) t ∧ t { nx := fun _ H' => Q .non H', rt := Q } (start N vs) H) : FnOk P w K mg base CX0 (k + 1) f fd ps sp := by
  obtain ⟨oc, od, kV, doc, pm, an, cdv, ct, osl, rfl, lk, hcd⟩ := F.ex
  refine fn_of lk hcd S len fun A outer s H vs Q E hr hsp => ?_
  obtain ⟨t, h, q⟩ := hbody cdv A outer s H vs Q E hr hsp
  exact ⟨t, h.nox, q⟩
/-- how its arguments bind (no defaults): h is «fun _ _ _ _ _ _ us hl => match us, hl with | [_, _], _ => rfl», one _ a parameter -/
theorem Fun.binds {x qual : Str} {st : Stmt} {f : Addr} {fd : FuncData} {ps : List Str} (F : Fun K x qual st f fd)
    (h : ∀ (kV doc pm : Value) (an : Option Addr) (cdv ct : Value) (us : List Value), us.length = ps.length → bindArgs (PySem.W.fnOf x qual (defArgs st) (defBody st) (defScope st) .none kV doc pm an cdv ct) ⟨us, []⟩ = pure (ps.zip us)) : Binds K fd ps [] := by
  obtain ⟨oc, od, kV, doc, pm, an, cdv, ct, osl, rfl, lk, hcd⟩ := F.ex
  exact .all (h kV doc pm an cdv ct)
theorem fun_mk {x qual : Str} {st : Stmt} {f : Addr} {oc : Value} {od an : Option Addr} {osl : Array (Option Value)} {kV doc pm cdv ct : Value} (l : K.lookup f = some ⟨oc, od, .func (PySem.W.fnOf x qual (defArgs st) (defBody st) (defScope st) .none kV doc pm an cdv ct), osl⟩)
    (c : PySem.W.codeIn K cdv qual = true) (k : PySem.W.keepIn K (.ref f) = true) : Fun K x qual st f (PySem.W.fnOf x qual (defArgs st) (defBody st) (defScope st) .none kV doc pm an cdv ct) := ⟨⟨oc, od, kV, doc, pm, an, cdv, ct, osl, rfl, l, c⟩, k⟩
end
theorem small1000 {n : Nat} (h : n ≤ 1000) : n < sizeLine := Nat.lt_of_le_of_lt h (by decide)

/-! ### expressions in short: the name that stands in the i-th slot -/
section
variable {X : Cx}
theorem pv (i : Nat) {x : Str} {pos : Pos} (hN : X.N[i]? = some x := by rfl) (hv : Vis X.env.scope x := by first | exact Or.inl rfl | exact Or.inr (Or.inl rfl) | exact Or.inr (Or.inr rfl)) (hd : (x == ("__debug__" : Str)) = false := by decide)
    (hcd : (x == ("__classdict__" : Str)) = false := by decide) : PE X (.Name x pos) (tVar i) := pe_var hN hv hd hcd
end

/-! ### tests -/
theorem iteF {A B : Prop} (h : B) : if false = true then A else B := by
  rw [if_neg Bool.false_ne_true]
  exact h
theorem iteT {A B : Prop} (h : A) : if true = true then A else B := by
  rw [if_pos rfl]
  exact h
theorem ite2 {c A B : Prop} [Decidable c] (h1 : c → A) (h2 : ¬ c → B) : if c then A else B := by
  by_cases h : c
  · rw [if_pos h]
    exact h1 h
  · rw [if_neg h]
    exact h2 h
/-! ### heaps -/
/-- all that was tracked is as it was -/
def Same (H H' : Hp) : Prop := ∀ b o, H b = some o → H' b = some o
theorem Same.refl (H : Hp) : Same H H := fun _ _ h => h
theorem Same.trans {H H1 H2 : Hp} (a : Same H H1) (b : Same H1 H2) : Same H H2 := fun c o h => b c o (a c o h)
theorem Same.seq {K : PySem.W.Frag} {H H' : Hp} {a : Addr} {xs : List V} (e : Same H H') (h : SqL K H a xs) : SqL K H' a xs := by
  rcases h with (h | ⟨o, h⟩) | h
  · exact .inl (.inl (e _ _ h))
  · exact .inl (.inr ⟨o, e _ _ h⟩)
  · exact .inr h

end L2

set_option maxHeartbeats 4000000
namespace L2
abbrev Pr := Int × Int
def inR (n : Int) (p : Pr) : Bool := decide (p.1 ≤ n) && decide (n ≤ p.2)
def inP (ps : List Pr) (n : Int) : Bool := ps.any (inR n)
/-- pairs that hold a number each, ascending and apart -/
structure Apart (R : List Pr) : Prop where
  le : ∀ p ∈ R, p.1 ≤ p.2
  gap : R.Pairwise fun p q => p.2 + 2 ≤ q.1
/-- what the loop of tidy keeps: R told so far of the pairs qs -/
structure TidI (R qs : List Pr) : Prop where
  ap : Apart R
  mem : ∀ n, inP R n = inP qs n
  cov : ∀ p ∈ qs, p.1 ≤ p.2 → ∃ r ∈ R, r.1 ≤ p.1 ∧ p.2 ≤ r.2
  low : ∀ r ∈ R, ∃ q ∈ qs, r.1 = q.1
end L2

namespace L2
open PySem PySem.Spec PyProof.Rows
/-! ### a def of the text that may be called, bundled -/
def Callee (P : Program) (w : World) (K : PySem.W.Frag) (mg : Str → Option Value) (base : Heap) (k : Nat) (x : Str) (ps : List Str) (sp : Sp) : Prop :=
  ∃ f fd, FnOk P w K mg base CX0 k f fd ps sp ∧ Binds K fd ps [] ∧ PySem.W.keepIn K (.ref f) = true ∧ mg x = some (.ref f)
theorem Callee.mono {P : Program} {w : World} {K : PySem.W.Frag} {mg : Str → Option Value} {base : Heap} {j k : Nat} {x : Str} {ps : List Str} {sp : Sp} (C : Callee P w K mg base j x ps sp) (h : j ≤ k) : Callee P w K mg base k x ps sp :=
  let ⟨f, fd, F, r⟩ := C
  ⟨f, fd, F.mono h, r⟩
section
variable {X : Cx} {k : Nat} {x : Str} {ps : List Str} {sp : Sp} {e : Expr} {es : List Expr} {t : TA} {p pos : Pos}
/-- f(..) of a bundled def -/
def tFn (sp : Sp) (t : TA) : TE := fun σ H Q => t σ H fun vs H1 => sp vs H1 Q E0
theorem pe_fn (C : Callee X.prog X.w X.K X.mg X.base k x ps sp) (hr : Room k X.A) (hg : Gl X x) (ha : PA X (e :: es) t) (hdb : (x == ("__debug__" : Str)) = false := by decide)
    (he : starEach (e :: es) X.env = (false, eval e X.env) :: starEach es X.env := by rfl) (hpl : (backTo pos (starEach es X.env)).any (·.1) = false := by rfl) : PE X (.Call (.Name x p) (e :: es) [] pos) (tFn sp t) := by
  obtain ⟨f, fd, F, b, kk, m⟩ := C
  have h := pe_call (E := E0) (dvs := []) (ds := []) (p := p) F hr hg m kk b .nil pass0 ha hdb he hpl
  intro pins s σ H Q I q
  refine h pins s σ H Q I ?_
  have q' : t σ H fun vs H1 => sp vs H1 Q E0 := q
  have e1 : (fun (vs : List V) (H1 : Hp) => sp (vs ++ []) H1 Q E0) = fun vs H1 => sp vs H1 Q E0 := by
    funext vs H1
    rw [List.append_nil]
  show t σ H fun vs H1 => sp (vs ++ []) H1 Q E0
  rw [e1]
  exact q'
end
/-! ### a block with a word between its first statement and the rest -/
def tCut (t u : TS) : TS := fun D σ H => ∃ M : St → Hp → Prop, t { D with nx := M } σ H ∧ ∀ σ' H', M σ' H' → u D σ' H'
theorem pss_cut {X : Cx} {st : Stmt} {rest : List Stmt} {t u : TS} (h1 : PS X st t) (h2 : PSs X rest u) : PSs X (st :: rest) (tCut t u) := by
  intro pins s σ H D I ⟨M, a, b⟩
  refine wpAny_execs_cons (thn (h1 pins s σ H { D with nx := M } I a) fun fl s1 q => ?_)
  cases fl with
  | next => obtain ⟨σ', H', I', q⟩ := q; exact h2 pins s1 σ' H' D I' (b σ' H' q)
  | ret v => exact q
  | brk => exact q
  | cont => exact q
/-! ### isinstance(x, T), T a built-in type -/
section
variable {X : Cx}
end
/-! ### == and != of lists -/
/-- what == says of two items of lists: plain values; one object; two tuples of plain values -/
inductive EqI (K : PySem.W.Frag) (H : Hp) : V → V → Bool → Prop where
  | flat {x y : V} (fx : flatV x = true) (fy : flatV y = true) : EqI K H x y (eqV x y)
  | same (a : Addr) : EqI K H (.ref a) (.ref a) true
  | tup {a b : Addr} {xs ys : List V} (ha : SqT K H a xs) (hb : SqT K H b ys) (fx : xs.all flatV = true) (fy : ys.all flatV = true) : EqI K H (.ref a) (.ref b) (decide (xs.length = ys.length) && (List.zipWith eqV xs ys).all id)
section
variable {X : Cx} {pins : List (Addr × Obj)} {σ : St} {H : Hp} {s : Shared}
end
/-- == (neg: !=) of two lists -/
def rEqL (K : PySem.W.Frag) (neg : Bool) : R2 := fun x y H Q => ∃ a b xs ys, x = .ref a ∧ y = .ref b ∧ SqL K H a xs ∧ SqL K H b ys ∧
  ((xs.length ≠ ys.length ∧ Q (.bl neg) H) ∨ (xs.length = ys.length ∧ ∃ f : Nat → Bool, (∀ j x y, xs[j]? = some x → ys[j]? = some y → EqI K H x y (f j)) ∧ Q (.bl (if neg then !(List.range xs.length).all f else (List.range xs.length).all f)) H))
section
variable {X : Cx}
end
/-! ### what stays -/
/-- every tuple stays -/
def SameT (H H' : Hp) : Prop := ∀ b xs, H b = some (.tup xs) → H' b = some (.tup xs)
theorem same_new {H : Hp} {p : Addr} (h : H p = none) (o : HO) : Same H (upd H p o) := fun b u q => by rw [upd_ne (ne_of_none q h)]; exact q
/-- an address that was free is changed -/
theorem Same.upd {H H' : Hp} {p : Addr} {o : HO} (s : Same H H') (h : H p = none) : Same H (upd H' p o) := fun b u q => by rw [upd_ne (ne_of_none q h)]; exact s b u q
/-! ### lists of pairs -/
def PL (H : Hp) : List V → List (Int × Int) → Prop := Paired fun x p => ∃ r, x = .ref r ∧ H r = some (.tup [.int p.1, .int p.2])
/-! ### lists of triples of ints -/
abbrev Tr := Int × Int × Int
def TL (H : Hp) : List V → List Tr → Prop := Paired fun x t => ∃ r, x = .ref r ∧ H r = some (.tup [.int t.1, .int t.2.1, .int t.2.2])
theorem V.int_inj {i j : Int} (h : V.int i = V.int j) : i = j := by cases h; rfl
theorem dec_int_t {i j : Int} (h : decide (V.int i = V.int j) = true) : i = j := V.int_inj (of_decide_eq_true h)
theorem dec_int_f {i j : Int} (h : ¬ decide (V.int i = V.int j) = true) : i ≠ j := fun e => h (decide_eq_true (congrArg V.int e))
theorem dec_t {p : Prop} [Decidable p] (h : decide p = true) : p := of_decide_eq_true h
theorem dec_f {p : Prop} [Decidable p] (h : ¬ decide p = true) : ¬ p := fun e => h (decide_eq_true e)
end L2

namespace L2
open PySem PySem.Spec PyProof.Rows
/-! ### rules that name the written part by itself (within a block) -/
/-! ### a list comprehension with one clause whose target is a plain name -/
/-- the block's context: nothing raises in it; the frames that run are the def's own and its callers' -/
def cmpCx (X : Cx) (N : List Str) (scope : Scope) (cl : List (Str × Addr)) (fp : List Addr) (C : Addr) (s2 : Shared) (H2 : Hp) : Cx :=
  { prog := X.prog, w := X.w, K := X.K, mg := X.mg, base := X.base, A := X.A, N := N, s₀ := s2, H₀ := H2, env := compEnvC scope cl C X.env, outer := X.stack, stack := X.stack, ex := fp, fn := fun _ => false, calm := X.calm, pn := [], xe := fun _ _ => False }
/-- the tests of a clause -/
def PIf (X : Cx) (ifs : List Expr) (t : TT) : Prop :=
  ∀ (pins : List (Addr × Obj)) (s : Shared) (σ : St) (H : Hp) (Q : Bool → Hp → Prop), Inv X pins σ H s → t σ H Q →
    wpAny (model X.prog X.w) X.A (forIn ifs true fun c r => if r = true then do let ok ← isTrue c X.env (eval c X.env); pure (ForInStep.yield ok) else pure (ForInStep.yield r)) (TP X pins σ Q) X.xe s
def tYes : TT := fun _ H Q => Q true H
/-- what is asked of the block's names: N its slots (the target first, then the def's own names that it sees), fr where these stand among the def's slots -/
structure CmpOk (X : Cx) (N : List Str) (fr : List Nat) (scope : Scope) (cl : List (Str × Addr)) (x : Str) : Prop where
  clos : closureFor scope X.env = pure cl
  kind : scope.kind = .function
  nocell : ∀ y ∈ scope.names, y.2 ≠ .cell
  names : ∀ y ∈ scope.names, y.2 = .local → scope.names.lookup y.1 = some .local
  hx : scope.names.lookup x = some .local
  nd : N.Nodup
  n0 : N[0]? = some x
  len : N.length = fr.length + 1
  sub : ∀ (i : Nat) (y : Str), N[i + 1]? = some y → ∃ j, fr[i]? = some j ∧ X.N[j]? = some y ∧ (X.env.kindOf y = some .cell ∨ X.env.kindOf y = some .free) ∧ ((relabel scope X.env).names.lookup y = some .cell ∨ (relabel scope X.env).names.lookup y = some .free)
  cells : ∀ y c, cl.lookup y = some c → X.env.cells.lookup y = some c
  has : ∀ y, ((relabel scope X.env).names.lookup y = some .cell ∨ (relabel scope X.env).names.lookup y = some .free) → ∃ c, cl.lookup y = some c
def cmpSt (σ : St) (fr : List Nat) (x : Option V) : St := x :: fr.map fun j => (σ[j]?).join
/-- the comprehension's reading: D the new list, W the invariant by the turn and a measure -/
def CompAt (J : It) (fr : List Nat) (tt : TT) (te : TE) (σ : St) (Q : VK) (H1 : Hp) : Prop := ∀ D, H1 D = none → ∃ W : Nat → Nat → Hp → Prop, (∃ m, W 0 m (upd H1 D (.lst []))) ∧ ∀ i m H, W i m H →
  (J.stop i H ∧ Q (.ref D) H) ∨ (J.go i H ∧ ∀ x H', J.yld i H x H' → tt (cmpSt σ fr (some x)) H' fun b H2 => if b = true then te (cmpSt σ fr (some x)) H2 fun y H3 => ∃ ys, H3 D = some (.lst ys) ∧ ys.length < sizeLine ∧ ∃ m', m' < m ∧ W (i + 1) m' (upd H3 D (.lst (ys ++ [y])))
    else ∃ m', m' < m ∧ W (i + 1) m' H2)
def tComp (wi : TI) (fr : List Nat) (tt : TT) (te : TE) : TE := fun σ H Q => wi σ H fun J H1 => CompAt J fr tt te σ Q H1
section
variable {prog : Program} {w : World} {A : Around} {R : Result → Shared → Prop} {s : Shared}
end
section
variable {X : Cx} {elt iter : Expr} {ifs : List Expr} {x : Str} {px pos : Pos} {scope : Scope} {cl : List (Str × Addr)} {N : List Str} {fr : List Nat} {tt : TT} {te : TE}
/-- what is wanted behind a turn that tells nothing; behind one that tells y -/
def CNext (Pv : Addr → Nat → List V → Hp → Prop) (D : Addr) (i n : Nat) (H2 : Hp) : Prop := ∃ m', m' < n - i ∧ m' = n - (i + 1) ∧ i + 1 ≤ n ∧ ∃ zs, Pv D (i + 1) zs H2
def CYes (Pv : Addr → Nat → List V → Hp → Prop) (D : Addr) (i n : Nat) : VK := fun y H3 => ∃ ys, H3 D = some (.lst ys) ∧ ys.length < sizeLine ∧ CNext Pv D i n (upd H3 D (.lst (ys ++ [y])))
end
end L2

namespace L2
open PySem PySem.Spec PyProof.Rows
/-! ### a list comprehension whose target is any (a tuple of names): k names of the target first, then the def's own that the block sees -/
structure CmpOkG (X : Cx) (N : List Str) (k : Nat) (fr : List Nat) (scope : Scope) (cl : List (Str × Addr)) : Prop where
  clos : closureFor scope X.env = pure cl
  kind : scope.kind = .function
  nocell : ∀ y ∈ scope.names, y.2 ≠ .cell
  names : ∀ y ∈ scope.names, y.2 = .local → scope.names.lookup y.1 = some .local
  len : N.length = k + fr.length
  sub : ∀ (i : Nat) (y : Str), N[k + i]? = some y → ∃ j, fr[i]? = some j ∧ X.N[j]? = some y ∧ (X.env.kindOf y = some .cell ∨ X.env.kindOf y = some .free) ∧ ((relabel scope X.env).names.lookup y = some .cell ∨ (relabel scope X.env).names.lookup y = some .free)
  cells : ∀ y c, cl.lookup y = some c → X.env.cells.lookup y = some c
  has : ∀ y, ((relabel scope X.env).names.lookup y = some .cell ∨ (relabel scope X.env).names.lookup y = some .free) → ∃ c, cl.lookup y = some c
def cmpStG (σ : St) (fr : List Nat) (ts : St) : St := ts ++ fr.map fun j => (σ[j]?).join
def CompAtG (J : It) (gt : TG) (k : Nat) (fr : List Nat) (tt : TT) (te : TE) (σ : St) (Q : VK) (H1 : Hp) : Prop := ∀ D, H1 D = none → ∃ W : Nat → Nat → Hp → Prop, (∃ m, W 0 m (upd H1 D (.lst []))) ∧ ∀ i m H, W i m H →
  (J.stop i H ∧ Q (.ref D) H) ∨ (J.go i H ∧ ∀ x H', J.yld i H x H' → ∀ ts : St, ts.length = k → gt x (cmpStG σ fr ts) H' fun σ2 H2 => (∃ ts2 : St, ts2.length = k ∧ σ2 = cmpStG σ fr ts2) ∧ tt σ2 H2 fun b H3 => if b = true then te σ2 H3 fun y H4 => ∃ ys, H4 D = some (.lst ys) ∧ ys.length < sizeLine ∧ ∃ m', m' < m ∧ W (i + 1) m' (upd H4 D (.lst (ys ++ [y])))
    else ∃ m', m' < m ∧ W (i + 1) m' H3)
def tCompG (wi : TI) (gt : TG) (k : Nat) (fr : List Nat) (tt : TT) (te : TE) : TE := fun σ H Q => wi σ H fun J H1 => CompAtG J gt k fr tt te σ Q H1
section
variable {X : Cx} {elt iter tg : Expr} {ifs : List Expr} {pos : Pos} {scope : Scope} {cl : List (Str × Addr)} {N : List Str} {k : Nat} {fr : List Nat} {gt : TG} {tt : TT} {te : TE}
end
end L2

namespace Srt
open PySem PySem.W PyProof.Rows
/-- the tree's end under an oracle; each question is about places below n -/
def Ok (n : Nat) (lt : Nat → Nat → Bool) {α : Type} : KasT α → (α → Prop) → Prop
  | .ret a, Q => Q a
  | .ask i j k, Q => i < n ∧ j < n ∧ Ok n lt (k (lt i j)) Q
section
variable {n : Nat} {lt : Nat → Nat → Bool}
abbrev g (p : Array Nat) (i : Nat) : Nat := p.getD i 0
/-- p holds places below n alone -/
def Bd (n : Nat) (p : Array Nat) : Prop := 0 < n ∧ ∀ i, g p i < n
/-- ascending up to k; not ascending up to k -/
def Up (lt : Nat → Nat → Bool) (p : Array Nat) (k : Nat) : Prop := ∀ i j, i ≤ j → j < k → lt (g p j) (g p i) = false
def Dn (lt : Nat → Nat → Bool) (p : Array Nat) (k : Nat) : Prop := ∀ i j, i ≤ j → j < k → lt (g p i) (g p j) = false
structure Ord (lt : Nat → Nat → Bool) : Prop where
  tr : ∀ a b c, lt b a = false → lt c b = false → lt c a = false
  as : ∀ a b, lt a b = true → lt b a = false
/-- equal keys between a and b -/
def Eqs (lt : Nat → Nat → Bool) (p : Array Nat) (a b : Nat) : Prop := ∀ i j, a ≤ i → i < b → a ≤ j → j < b → lt (g p i) (g p j) = false
end
end Srt

namespace L2
open PySem PySem.Spec PySem.W PyProof.Rows
/-! ### sorted(..) of a short list of pairs of ints -/
def ltP (p q : Int × Int) : Bool := decide (p.1 < q.1) || (decide (p.1 = q.1) && decide (p.2 < q.2))
section
variable {prog : Program} {w : World} {A : Around} {E : Value → Shared → Prop} {s : Shared}
end
section
variable {X : Cx}
end
end L2

namespace L2
/-! ### both, gaps, without: the mathematics -/
/-- what the loop of both keeps: S told so far, A and B the rests -/
structure BothI (S A B A0 B0 : List Pr) : Prop where
  ap : Apart S
  aA : Apart A
  aB : Apart B
  mem : ∀ n, (inP A0 n && inP B0 n) = (inP S n || (inP A n && inP B n))
  gap : ∀ s ∈ S, (∀ p ∈ A, s.2 + 2 ≤ p.1) ∨ (∀ p ∈ B, s.2 + 2 ≤ p.1)
/-- what the loop of gaps keeps: F told so far of the spans T -/
structure GapI (F T : List Pr) (lo hi st : Int) : Prop where
  ap : Apart F
  lt : ∀ s ∈ F, s.2 + 2 ≤ st
  rng : ∀ s ∈ F, lo ≤ s.1 ∧ s.2 ≤ hi
  tk : ∀ p ∈ T, p.2 < st
  fr : st = lo ∨ ∃ p ∈ T, st = p.2 + 1
  ge : lo ≤ st
  mem : ∀ n, lo ≤ n → n ≤ hi → n < st → inP F n = !inP T n
end L2

namespace L2
/-! ### runs of pieces: the mathematics -/
/-- the pieces of a walk: each begins behind the one ahead of it -/
structure Walk (ts : List (Int × Int × Int)) : Prop where
  le : ∀ t ∈ ts, t.1 ≤ t.2.1
  nx : ∀ (i : Nat) a b, ts[i]? = some a → ts[i + 1]? = some b → b.1 = a.2.1 + 1
def pcs (msk : Int → Bool) (ts : List (Int × Int × Int)) (n : Int) : Bool := ts.any fun t => inR n (t.1, t.2.1) && msk t.2.2
/-- what the loop over the pieces keeps: R told of the first i pieces, at where the next one begins -/
structure RunI (R : List Pr) (ts : List (Int × Int × Int)) (msk : Int → Bool) (i : Nat) (at_ : Int) : Prop where
  ap : Apart R
  mem : ∀ n, inP R n = pcs msk (ts.take i) n
  lt : ∀ r ∈ R, r.2 < at_
  few : 2 * R.length ≤ i ∨ (2 * R.length ≤ i + 1 ∧ ∃ R' l, R = R' ++ [l] ∧ l.2 = at_ - 1)
section
variable {R : List Pr} {ts : List (Int × Int × Int)} {msk : Int → Bool} {i : Nat} {at_ : Int} {t : Int × Int × Int}
end
end L2

namespace L2
/-! ### edges: the mathematics -/
/-- each low, and the number behind each high -/
def ends (R : List Pr) : List Int := R.flatMap fun p => [p.1, p.2 + 1]
end L2

namespace L2
open PySem PySem.Spec PyProof.Rows
/-! ### texts: a loop over the signs, join, globals -/
/-- the signs of z, one by one -/
def Its (z : Str) : It := ⟨fun i _ => i < z.cps.size, fun i H x H' => H' = H ∧ ∃ c, z.cps[i]? = some c ∧ x = .str ⟨#[c]⟩, fun i _ => z.cps.size ≤ i⟩
theorem turn_ascii {P : Program} {w : World} {K : PySem.W.Frag} {tg : Expr} (z : Str) (t : Tok) (it : Addr) : Turn P w K tg (Its z) [it] it (fun i h => h.IsStrIter it "str_ascii_iterator" z t i) where
  mem := by simp
  obj := fun i h st b hb => by
    obtain ⟨o, e, c, d⟩ := st
    rw [show b = it by simpa using hb]
    exact ⟨o, e, fun v q => by rw [d] at q; cases q⟩
  keep := fun i h h' ⟨o, e, r⟩ k => ⟨o, k it (by simp) o e, r⟩
  item := by
    intro X hP hw hK hc i pins s σ H E I hf st hg
    subst hP hw hK
    have hlt : i < z.cps.size := hg
    have hi : z.cps[i]? = some z.cps[i] := Array.getElem?_eq_getElem hlt
    obtain ⟨f0, f1, f2, f3, f4, f5⟩ := hf it (by simp)
    refine wpAny_pyNext_ascii_item st hi fun h' st' sb => ?_
    have I1 : Inv X pins σ H { s with heap := h', toks := s.toks + 1 } := I.turned (t' := s.toks + 1) (fun b o hb e => (sb.2 b hb).trans e) f0 f1 f3 f4 f5
    obtain ⟨o, e, c, d⟩ := id st'
    exact ⟨_, rfl, go_of (s := { s with heap := h', toks := s.toks + 1 }) e c d (by decide) ⟨.str ⟨#[z.cps[i]]⟩, H, I1, ⟨_, rfl⟩, ⟨rfl, _, hi, rfl⟩, st', fun b hb => (hf b hb).1⟩⟩
  done := by
    intro X hP hw hK hc i pins s σ H E I hf st hg
    subst hP hw hK
    obtain ⟨f0, f1, f2, f3, f4, f5⟩ := hf it (by simp)
    exact wpAny_pyNext_ascii_end (I.ok.hd hc) st (by simpa using (show z.cps.size ≤ i from hg)) fun h' eb => ⟨rfl, I.turned (t' := s.toks) (fun b o hb e => eb b o hb e) f0 f1 f3 f4 f5⟩
  self := fun _ _ _ _ _ st h => wpAny_pyIter_striter_ascii st h
theorem turn_wide {P : Program} {w : World} {K : PySem.W.Frag} {tg : Expr} (z : Str) (t : Tok) (it : Addr) : Turn P w K tg (Its z) [it] it (fun i h => h.IsStrIter it "str_iterator" z t i) where
  mem := by simp
  obj := fun i h st b hb => by
    obtain ⟨o, e, c, d⟩ := st
    rw [show b = it by simpa using hb]
    exact ⟨o, e, fun v q => by rw [d] at q; cases q⟩
  keep := fun i h h' ⟨o, e, r⟩ k => ⟨o, k it (by simp) o e, r⟩
  item := by
    intro X hP hw hK hc i pins s σ H E I hf st hg
    subst hP hw hK
    have hlt : i < z.cps.size := hg
    have hi : z.cps[i]? = some z.cps[i] := Array.getElem?_eq_getElem hlt
    obtain ⟨f0, f1, f2, f3, f4, f5⟩ := hf it (by simp)
    refine wpAny_pyNext_wide_item st hi fun h' st' sb => ?_
    have I1 : Inv X pins σ H { s with heap := h', toks := s.toks + 1 } := I.turned (t' := s.toks + 1) (fun b o hb e => (sb.2 b hb).trans e) f0 f1 f3 f4 f5
    obtain ⟨o, e, c, d⟩ := id st'
    exact ⟨_, rfl, go_of (s := { s with heap := h', toks := s.toks + 1 }) e c d (by decide) ⟨.str ⟨#[z.cps[i]]⟩, H, I1, ⟨_, rfl⟩, ⟨rfl, _, hi, rfl⟩, st', fun b hb => (hf b hb).1⟩⟩
  done := by
    intro X hP hw hK hc i pins s σ H E I hf st hg
    subst hP hw hK
    obtain ⟨f0, f1, f2, f3, f4, f5⟩ := hf it (by simp)
    exact wpAny_pyNext_wide_end (I.ok.hd hc) st (by simpa using (show z.cps.size ≤ i from hg)) fun h' eb => ⟨rfl, I.turned (t' := s.toks) (fun b o hb e => eb b o hb e) f0 f1 f3 f4 f5⟩
  self := fun _ _ _ _ _ st h => wpAny_pyIter_striter_wide st h
section
variable {X : Cx} {tg : Expr}
def iStr (tl : TE) : PySem.W.Frag → St → Hp → (It → Hp → Prop) → Prop := fun _ σ H R => tl σ H fun x H1 => ∃ z, x = .str z ∧ R (Its z) H1
theorem pi_str {l : Expr} {tl : TE} (hl : PE X l tl) : PI X tg l (iStr tl X.K) := by
  intro pins s σ H R I h
  refine thn (hl pins s σ H _ I h) fun v s1 ⟨x, H1, I1, r1, q1⟩ => ?_
  obtain ⟨z, e, q⟩ := q1
  subst e
  obtain ⟨t, rfl⟩ := r1
  have fpo : ∀ b ∈ [s1.heap.objs.size], FpOk X pins H1 b := fun b hb => by
    rw [show b = s1.heap.objs.size by simpa using hb]
    exact I1.fpOk (Nat.le_refl _) (I1.hok.fresh (Nat.le_refl _))
  cases ha : z.cps.all (· < 128) with
  | true => exact wpAny_pyIter_ascii ha ⟨s1.heap.objs.size, [s1.heap.objs.size], _, _, H1, rfl, I1.kept (t' := s1.toks) fun b o e => Heap.get?_push_of_some _ e, turn_ascii z t _, ⟨_, Heap.get?_push_size _ rfl, rfl, rfl⟩, fpo, q⟩
  | false => exact wpAny_pyIter_wide ha ⟨s1.heap.objs.size, [s1.heap.objs.size], _, _, H1, rfl, I1.kept (t' := s1.toks) fun b o e => Heap.get?_push_of_some _ e, turn_wide z t _, ⟨_, Heap.get?_push_size _ rfl, rfl, rfl⟩, fpo, q⟩
end
theorem for_str {z : Str} {g : TG} {tb : TS} {D : Ends} {σ : St} {H : Hp} (Pv : Nat → St → Hp → Prop) (h0 : Pv 0 σ H)
    (hs : ∀ i c σ H, z.cps.toList[i]? = some c → Pv i σ H → g (.str ⟨#[c]⟩) σ H fun σ2 H2 => tb { D with nx := Pv (i + 1), ct := Pv (i + 1), bk := D.nx } σ2 H2) (hd : ∀ σ H, Pv z.cps.size σ H → D.nx σ H) :
    ∃ W : Nat → Nat → St → Hp → Prop, (∃ m, W 0 m σ H) ∧ ∀ i m σ H, W i m σ H →
      ((Its z).stop i H ∧ D.nx σ H) ∨ ((Its z).go i H ∧ ∃ N : St → Hp → Prop, (∀ σ' H', N σ' H' → ∃ m', m' < m ∧ W (i + 1) m' σ' H') ∧ ∀ x H', (Its z).yld i H x H' → g x σ H' fun σ2 H2 => tb { D with nx := N, ct := N, bk := D.nx } σ2 H2) := by
  refine ⟨fun i m σ H => m = z.cps.size - i ∧ i ≤ z.cps.size ∧ Pv i σ H, ⟨_, rfl, Nat.zero_le _, h0⟩, ?_⟩
  rintro i m σ H ⟨rfl, hi, p⟩
  by_cases hlt : i < z.cps.size
  · refine .inr ⟨hlt, Pv (i + 1), fun σ' H' p' => ⟨z.cps.size - (i + 1), by omega, rfl, hlt, p'⟩, fun x H' y => ?_⟩
    obtain ⟨e, c, y1, y2⟩ := y
    subst e; subst y2
    exact hs i c σ _ (by simpa using y1) p
  · have e : i = z.cps.size := by omega
    subst e
    exact .inl ⟨Nat.le_refl _, hd σ H p⟩
section
variable {X : Cx}
/-- sep.join(xs), xs a list of texts -/
def rJoin (K : PySem.W.Frag) : V → List V → Hp → VK → Prop := fun x vs H Q => ∃ (z : Str) (a : Addr) (ys : List Str), x = .str z ∧ vs = [.ref a] ∧ SqL K H a (ys.map V.str) ∧ z.length ≤ 64 ∧ (ys.map (·.length)).sum + ys.length * 64 ≤ 16777216 ∧ Q (.str (Txt.join z ys)) H
/-- a global whose value is known -/
theorem pe_gl {x : Str} {v : V} {pos : Pos} (hg : Gl X x) (h : ∃ u, X.mg x = some u ∧ RelV v u) (hd : (x == ("__debug__" : Str)) = false := by decide) : PE X (.Name x pos) (tC v) :=
  let ⟨_, m, r⟩ := h
  pe_glob hg m r hd
end
/-- a sign that stands in g -/
def sg (g : Str) (c : Nat) : Bool := !(Builtin.Str.occurrences g ⟨#[c]⟩ 0 g.length 1).isEmpty
def allIn (z g : Str) : Bool := z.cps.toList.all (sg g)
end L2

namespace L2
open PySem PySem.Spec PyProof.Rows PySem.NumText
/-! ### texts of numbers: slices, startswith, int(text), figures -/
section
variable {X : Cx}
theorem isPart_of {v : Value} {o : Option Int} (h : IsPart v o) : ∃ p : Option (Int × Tok), v = partValue p ∧ p.map (·.1) = o := by
  cases h with
  | none => exact ⟨none, rfl, rfl⟩
  | int i t => exact ⟨some (i, t), rfl, rfl⟩
/-- z[lo:hi] -/
def rSlS : V → Option Int → Option Int → Hp → VK → Prop := fun x lo hi H Q => ∃ z, x = .str z ∧ z.length ≤ sizeLine ∧ Q (.str (Txt.slice z lo hi)) H
theorem sl_str : SlR X rSlS := by
  intro pins s σ H x v vl vu lo hi sl Q I rx hs pl pu h
  obtain ⟨z, rfl, hz, q⟩ := h
  obtain ⟨t, rfl⟩ := rx
  obtain ⟨l, rfl, el⟩ := isPart_of pl
  obtain ⟨u, rfl, eu⟩ := isPart_of pu
  refine ⟨"str", _, slot_str_getitem.lookup, typeIs_str s z t, ?_⟩
  refine wpAny_getItem_str_slice (l := l) (u := u) (st := none) hs rfl ?_
  unfold sliceMade slicePicked
  rw [el, eu]
  unfold Txt.slice at q
  show Made.post (if ((1 : Int) == 1 && (Builtin.Str.strSliceIndices lo hi 1 z.length).length == z.length) = true then _ else _) _ _
  by_cases c : ((1 : Int) == 1 && (Builtin.Str.strSliceIndices lo hi 1 z.length).length == z.length) = true
  · rw [if_pos c] at q ⊢
    exact ⟨.str z, H, I, ⟨_, rfl⟩, q⟩
  · have hle := Txt.slice_le z lo hi
    unfold Txt.slice at hle
    rw [if_neg c] at q hle ⊢
    exact ⟨Nat.le_trans hle hz, .str _, H, I.tok _, ⟨_, rfl⟩, q⟩
def rStarts : V → List V → Hp → VK → Prop := fun x vs H Q => ∃ z y : Str, x = .str z ∧ vs = [.str y] ∧ Q (.bl (Txt.startswith z y)) H
end
/-! figures -/
/-- figures with no nought ahead -/
structure Figs (cs : List Nat) : Prop where
  all : AllDigits cs
  one : cs.length = 1 ∨ ∃ c r, cs = c :: r ∧ 49 ≤ c
/-- the signs of str(n) -/
def numCs (n : Int) (cs : List Nat) : List Nat := if n < 0 then 45 :: cs else cs
end L2

/-! ### the script's numbers are of a bounded size -/
namespace L2
open PySem PySem.Spec PyProof.Rows PySem.W
end L2

namespace L2
open PySem PySem.Spec PyProof.Rows
/-! ### exceptions of own classes: raised, passed on, caught -/
/-- an exception: its own record and the head of its trace -/
def ExcT (h : Heap) (e T : Addr) (cls a0 : Value) : Prop :=
  ∃ oe vs oT ts, h.get? e = some oe ∧ (oe.cls = cls ∧ vs[0]? = some a0) ∧ oe.data = .fields vs ∧ vs[1]? = some (.ref T) ∧ T ≠ e ∧ h.get? T = some oT ∧ oT.data = .fields ts ∧ ts[3]? = some .none
/-- what a step of a trace changes: the records at X, the slots of the frames at F -/
structure Stp (F X : List Addr) (h h' : Heap) : Prop where
  keep : ∀ b o, b ∉ F → b ∉ X → h.get? b = some o → h'.get? b = some o
  slot : ∀ b o, b ∈ F → h.get? b = some o → ∃ sl, h'.get? b = some { o with slots := sl }
section
variable {M : Model} {A : Around} {E : Value → Shared → Prop} {s : Shared} {base : Heap} {env : Env} {outer : List Env} {L e T : Addr} {oe : Obj} {vs : Array Value} {a0 cls : Value} {Q : Unit → Shared → Prop}
end
end L2

namespace L2
open PySem PySem.Spec PyProof.Rows
section
variable {P : Program} {w : World} {H H' : Hp} {h h' : Heap} {a : Addr} {o : HO} {F Y fs : List Addr}
end
/-- how an exception of an own class lies behind a call -/
def CX1 (P : Program) (w : World) : CXT := fun outer H s E ev s' => ∃ (e T C : Addr) (a0 : Value) (H' : Hp), ev = .ref e ∧ s'.os = s.os ∧ AllBare s'.gens ∧ Un (frs outer) [] H H' s.heap s'.heap ∧ HOk P w H' s'.heap ∧
  ExcT s'.heap e T (.ref C) a0 ∧ s.heap.get? e = none ∧ s.heap.get? T = none ∧ H' e = none ∧ H' T = none ∧ E (.ref C) none H'
/-- a record that is new to a body, not its frame's, not pinned -/
structure NewAt (X : Cx) (pins : List (Addr × Obj)) (H : Hp) (b : Addr) : Prop where
  ent : X.s₀.heap.get? b = none
  unt : H b = none
  loc : b ≠ X.env.locals
  cel : ∀ x c, X.env.cells.lookup x = some c → c ≠ b
  pin : ∀ p ∈ X.pn ++ pins, p.1 ≠ b
section
variable {X : Cx} {pins : List (Addr × Obj)} {σ : St} {H : Hp} {s : Shared} {h' : Heap} {e T : Addr}
end
/-! raise -/
/-- a class of the text below a built-in exception -/
structure ExcCls (K : PySem.W.Frag) (C : Addr) : Prop where
  ex : ∃ (bmB bmN : List Value) (newId B Bn nid initId inN : String), PySem.W.excIn K C bmB newId = true ∧ ExcBaseFacts Bn newId inN bmN ∧ bmB.contains (Value.type Bn) = true ∧ ExcBaseFacts B nid initId bmB
section
variable {P : Program} {w : World} {K : PySem.W.Frag} {mg : Str → Option Value} {base : Heap} {N : List Str} {qual : Str} {scope : Scope} {f : Addr} {cd : Value} {A : Around} {outer : List Env} {s0 : Shared} {H0 : Hp} {E : XK}
def tRaise (C : Addr) (E : XK) (t : TA) : TS := fun _ σ H => t σ H fun vs H1 => vs.length ≤ sizeLine ∧ E (.ref C) none H1
end
end L2

namespace L2
open PySem PySem.Spec PyProof.Rows
/-! ### a call that may raise; try with one except clause -/
/-- behind an exception, in the frame that sees it -/
def XP (X : Cx) (pins : List (Addr × Obj)) (σ : St) (EX : Addr → Hp → Prop) (ev : Value) (s' : Shared) : Prop :=
  ∃ (e T C : Addr) (a0 : Value) (H' : Hp), ev = .ref e ∧ Inv X pins σ H' s' ∧ ExcT s'.heap e T (.ref C) a0 ∧ NewAt X pins H' e ∧ NewAt X pins H' T ∧ EX C H'
abbrev TX := St → Hp → VK → (Addr → Hp → Prop) → Prop
def PEX (X : Cx) (e : Expr) (t : TX) : Prop :=
  ∀ (pins : List (Addr × Obj)) (s : Shared) (σ : St) (H : Hp) (Q : VK) (EX : Addr → Hp → Prop), Inv X pins σ H s → t σ H Q EX → wpAny (model X.prog X.w) X.A (eval e X.env) (EP X pins σ Q) (XP X pins σ EX) s
/-- a def that may raise, bundled -/
def CalleeX (P : Program) (w : World) (K : PySem.W.Frag) (mg : Str → Option Value) (base : Heap) (k : Nat) (x : Str) (ps : List Str) (sp : Sp) : Prop :=
  ∃ f fd, FnOk P w K mg base (CX1 P w) k f fd ps sp ∧ Binds K fd ps [] ∧ PySem.W.keepIn K (.ref f) = true ∧ mg x = some (.ref f)
section
variable {X : Cx} {pins : List (Addr × Obj)} {σ : St} {H : Hp} {s s' : Shared}
end
section
variable {X : Cx} {k : Nat} {x : Str} {ps : List Str} {sp : Sp} {e : Expr} {es : List Expr} {t : TA} {p pos : Pos}
def tFnX (sp : Sp) (t : TA) : TX := fun σ H Q EX => t σ H fun vs H1 => sp vs H1 Q fun cv _ H2 => ∃ C, cv = .ref C ∧ EX C H2
abbrev TSX := Ends → St → Hp → (Addr → Hp → Prop) → Prop
/-- a statement that may raise, at the state it was begun with -/
def PSX (X : Cx) (st : Stmt) (t : TSX) : Prop :=
  ∀ (pins : List (Addr × Obj)) (s : Shared) (σ : St) (H : Hp) (D : Ends) (EX : Addr → Hp → Prop), Inv X pins σ H s → t D σ H EX → wpAny (model X.prog X.w) X.A (exec st X.env) (SP X pins D) (XP X pins σ EX) s
def tSetX (i : Nat) (te : TX) : TSX := fun D σ H EX => te σ H (fun v H1 => D.nx (σ.set i (some v)) H1) EX
def tDropX (te : TX) : TSX := fun D σ H EX => te σ H (fun _ H1 => D.nx σ H1) EX
end
/-! the except suite -/
/-- its context: the exception is handled, its record is pinned -/
def sfx (X : Cx) (e : Addr) (oe : Obj) : Cx := { X with A := X.A.mark (some (.ref e)), calm := false, pn := (e, oe) :: X.pn, xe := fun _ _ => False }
section
variable {X : Cx} {pins : List (Addr × Obj)} {σ : St} {H : Hp} {s s' : Shared} {e : Addr} {oe : Obj}
end

section
variable {X : Cx} {pins : List (Addr × Obj)} {σ : St} {H : Hp} {s : Shared}
end
def tTry (i : Nat) (B : Addr) (K : PySem.W.Frag) (G : Addr → Prop) (tb : TSX) (ts : Addr → Addr → TS) : TS := fun D σ H => tb D σ H fun C H1 => PySem.W.exmOne K (.ref C) (.ref B) = some true ∧ G C ∧
  ∀ e, ts C e { nx := fun σ' H' => D.nx (σ'.set i none) H', rt := D.rt, bk := fun σ' H' => D.bk (σ'.set i none) H', ct := fun σ' H' => D.ct (σ'.set i none) H' } (σ.set i (some (.ref e))) H1
section
variable {X : Cx} {st b₀ : Stmt} {su : List Stmt} {tb : TSX} {ts : Addr → Addr → TS} {Tn n : Str} {B : Addr} {i : Nat} {np hpos pos : Pos}
end
end L2

namespace L2
open PySem PySem.Spec PyProof.Rows
/-! ### isinstance of an exception of an own class -/
/-- what a class must have: below a built-in exception, no hooks of its own -/
structure ExcLook (K : PySem.W.Frag) (C : Addr) : Prop where
  ga : PySem.W.findIn K (.ref C) "__getattribute__" = some (some (.builtin "BaseException.__getattribute__"))
  hk : PySem.W.findIn K (.ref C) "__getattr__" = some none
  cl : PySem.W.findIn K (.ref C) "__class__" = some (some (.builtin "object.__class__"))
  gt : PySem.W.specialIn K (.builtin "object.__class__") "__get__" = some (some (.builtin "getset_descriptor.__get__"))
  tk : PySem.W.takesIn K (.builtin "object.__class__") = some true
  ob : PySem.W.mroIn K C (.type "object") = some true
  be : PySem.W.mroIn K C (.type "BaseException") = some true
  me : PySem.W.kitCls K (.ref C) (.ref C) = some true
section
variable {prog : Program} {w : World} {A : Around} {E : Value → Shared → Prop} {s : Shared} {K : PySem.W.Frag} {e C : Addr} {oe : Obj}
end
section
variable {X : Cx} {e C : Addr} {oe : Obj}
end
end L2

namespace L2
open PySem PySem.Spec PyProof.Rows
/-! ### f'{text!r} ..', a text times a number, find, join of more -/
section
variable {X : Cx}
def tFr (c : Str) (ta : TE) : TE := fun σ H Q => ta σ H fun x H1 => ∃ z : Str, x = .str z ∧ z.length ≤ 1000 ∧ (∀ n ∈ z.cps.toList, n < 16 ^ 8) ∧ c.length ≤ 1000 ∧ ∀ z2 : Str, Q (.str z2) H1
def rFind : V → List V → Hp → VK → Prop := fun x vs H Q => ∃ z y : Str, x = .str z ∧ vs = [.str y] ∧ Q (.int (Txt.find z y)) H
end
end L2

namespace L2
open PySem PySem.Spec PyProof.Rows
/-! ### own classes: methods bundled, instances made, a method of a class above called by that class's name; calls of these that may raise -/
/-- a method of the class at C, bundled -/
def MCallee (CX : CXT) (P : Program) (w : World) (K : PySem.W.Frag) (mg : Str → Option Value) (base : Heap) (k : Nat) (C : Addr) (m : Str) (ps : List Str) (sp : Sp) : Prop :=
  ∃ f fd, Meth K C m f ∧ FnOk P w K mg base CX k f fd ps sp ∧ Binds K fd ps []
/-- a class that can be made, bundled with its __init__ -/
def MkCallee (CX : CXT) (P : Program) (w : World) (K : PySem.W.Frag) (mg : Str → Option Value) (base : Heap) (k : Nat) (x : Str) (C : Addr) (ps : List Str) (sp : Sp) : Prop :=
  ∃ f fd, Mk K C f ∧ FnOk P w K mg base CX k f fd ps sp ∧ Binds K fd ps [] ∧ mg x = some (.ref C)
/-- what the text must have for B.m(..) -/
structure BaseM (K : PySem.W.Frag) (B : Addr) (m : Str) (f : Addr) : Prop where
  sp : PySem.W.specialIn K (.ref B) "__getattribute__" = some (some (.builtin "type.__getattribute__"))
  rd : PySem.W.readsIn K B (.type "type") = true
  at_ : PySem.W.findCls K (.ref B) (.type "type") m = some (.val (.ref f))
  kp : PySem.W.keepIn K (.ref f) = true
def BCallee (CX : CXT) (P : Program) (w : World) (K : PySem.W.Frag) (mg : Str → Option Value) (base : Heap) (k : Nat) (x : Str) (m : Str) (ps : List Str) (sp : Sp) : Prop :=
  ∃ f fd B, BaseM K B m f ∧ FnOk P w K mg base CX k f fd ps sp ∧ Binds K fd ps [] ∧ mg x = some (.ref B)
section
variable {CX : CXT} {P : Program} {w : World} {K : PySem.W.Frag} {mg : Str → Option Value} {base : Heap} {j k : Nat} {C : Addr} {x m : Str} {ps : List Str} {sp : Sp}
theorem MCallee.mono (c : MCallee CX P w K mg base j C m ps sp) (h : j ≤ k) : MCallee CX P w K mg base k C m ps sp :=
  let ⟨f, fd, M, F, b⟩ := c
  ⟨f, fd, M, F.mono h, b⟩
theorem MkCallee.mono (c : MkCallee CX P w K mg base j x C ps sp) (h : j ≤ k) : MkCallee CX P w K mg base k x C ps sp :=
  let ⟨f, fd, M, F, b⟩ := c
  ⟨f, fd, M, F.mono h, b⟩
theorem BCallee.mono (c : BCallee CX P w K mg base j x m ps sp) (h : j ≤ k) : BCallee CX P w K mg base k x m ps sp :=
  let ⟨f, fd, B, M, F, b⟩ := c
  ⟨f, fd, B, M, F.mono h, b⟩
end
/-- the readings -/
def tMt (C : Addr) (m : Str) (sp : Sp) (ta : TE) (t : TA) : TE := fun σ H Q => ta σ H fun x H1 => ∃ a dx fs, x = .ref a ∧ H1 a = some (.ins C dx fs) ∧ fs.lookup m = none ∧ t σ H1 fun vs H2 => sp (x :: vs) H2 Q E0
def tMk (C : Addr) (sp : Sp) (t : TA) : TE := fun σ H Q => t σ H fun vs H1 => ∀ x dx, H1 x = none → H1 dx = none → dx ≠ x →
  sp (.ref x :: vs) (upd (upd H1 dx (.own x)) x (.ins C dx [])) (fun v H2 => v = .non ∧ Q (.ref x) H2) E0
def tMtX (C : Addr) (m : Str) (sp : Sp) (ta : TE) (t : TA) : TX := fun σ H Q EX => ta σ H fun x H1 => ∃ a dx fs, x = .ref a ∧ H1 a = some (.ins C dx fs) ∧ fs.lookup m = none ∧ t σ H1 fun vs H2 => sp (x :: vs) H2 Q fun cv _ H3 => ∃ C', cv = .ref C' ∧ EX C' H3
def tMkX (C : Addr) (sp : Sp) (t : TA) : TX := fun σ H Q EX => t σ H fun vs H1 => ∀ x dx, H1 x = none → H1 dx = none → dx ≠ x →
  sp (.ref x :: vs) (upd (upd H1 dx (.own x)) x (.ins C dx [])) (fun v H2 => v = .non ∧ Q (.ref x) H2) fun cv _ H3 => ∃ C', cv = .ref C' ∧ EX C' H3
section
variable {X : Cx} {CX : CXT} {k : Nat} {f C : Addr} {fd : FuncData} {ps : List Str} {sp : Sp} {x m : Str} {p np pos apos : Pos} {e o : Expr} {es : List Expr} {ta : TE} {t : TA}
theorem run0 {pins : List (Addr × Obj)} {σ : St} {H : Hp} {s : Shared} {Q : VK} {us : List Value} {vs : List V} {E : XK} (F : FnOk X.prog X.w X.K X.mg X.base CX k f fd ps sp) (hr : Room k X.A) (hb : Binds X.K fd ps []) (hx : Passes CX X E)
    (I : Inv X pins σ H s) (r : Vals vs us) (h : sp vs H Q E) : wpAny (model X.prog X.w) X.A (call (.ref f) us) (EP X pins σ Q) X.xe s :=
  run_fn (dvs := []) (ds := []) F hr hb .nil hx I r (by rw [List.append_nil]; exact h)
/-- o.m(e, ..) -/
theorem pe_mt {pl : Sem Bool} (M : MCallee CX X.prog X.w X.K X.mg X.base k C m ps sp) (hx : Passes CX X E0) (c : Cls X.K C) (hr : Room k X.A) (he : PE X o ta) (ha : PA X (e :: es) t)
    (hst : starEach (e :: es) X.env = (false, eval e X.env) :: starEach es X.env := by rfl) (hpl : (backTo pos (starEach es X.env)).any (·.1) = false := by rfl)
    (ht : eval (.Call (.Attribute o m apos) (e :: es) [] pos) X.env = (do
      let ov ← eval o X.env
      standAt apos.atName
      let (f, first) ← holding [ov] (getMethod ov m pl)
      callWith pos f first (backTo pos (starEach (e :: es) X.env)) (backToKw pos (keywordEach [] X.env))) := by rfl) :
    PE X (.Call (.Attribute o m apos) (e :: es) [] pos) (tMt C m sp ta t) := by
  obtain ⟨f, fd, hm, F, hb⟩ := M
  intro pins s σ H Q I h
  refine PySem.W.methodCall_KW (pl := pl) (thn (he pins s σ H _ I h) fun u s1 ⟨x, H1, I1, rx, a, dx, fs, ex, ea, l, q⟩ => ?_) ht
  subst ex
  obtain rfl : u = Value.ref a := rx
  refine getmeth_ok I1 ea c hm l ?_
  refine PySem.W.callWith_K (first := [.ref a]) (h₀ := X.base) I.ok.mod.kin hm.kp (thn (ha pos pins s1 σ H1 _ I1 q) fun us s2 ⟨vs, H2, I2, r, q2⟩ => ⟨I2.kIn, ?_⟩) hst hpl
  exact run0 (us := .ref a :: us) (vs := .ref a :: vs) F hr hb hx I2 (.cons rfl r) q2
/-- B.m(e, ..), m of the class B -/
theorem pe_base {pl : Sem Bool} (M : BCallee CX X.prog X.w X.K X.mg X.base k x m ps sp) (hx : Passes CX X E0) (hr : Room k X.A) (hg : Gl X x) (ha : PA X (e :: es) t) (hdb : (x == ("__debug__" : Str)) = false := by decide)
    (hst : starEach (e :: es) X.env = (false, eval e X.env) :: starEach es X.env := by rfl) (hpl : (backTo pos (starEach es X.env)).any (·.1) = false := by rfl)
    (ht : eval (.Call (.Attribute (.Name x np) m apos) (e :: es) [] pos) X.env = (do
      let ov ← eval (.Name x np) X.env
      standAt apos.atName
      let (f, first) ← holding [ov] (getMethod ov m pl)
      callWith pos f first (backTo pos (starEach (e :: es) X.env)) (backToKw pos (keywordEach [] X.env))) := by rfl) :
    PE X (.Call (.Attribute (.Name x np) m apos) (e :: es) [] pos) (tFn sp t) := by
  obtain ⟨f, fd, B, hB, F, hb, hm⟩ := M
  intro pins s σ H Q I h
  refine PySem.W.methodCall_KW (pl := pl) (ld_glob I hg hm ?_ hdb) ht
  refine PySem.W.method_cls I.kIn hB.sp (PySem.W.cls_value (mc := .type "type") I.kIn hB.rd hB.at_ (handed_of (v := .ref f) rfl) ?_)
  refine PySem.W.callWith_K (first := []) (h₀ := X.base) I.ok.mod.kin hB.kp (thn (ha pos pins _ σ H _ (I.tok _) h) fun us s2 ⟨vs, H2, I2, r, q2⟩ => ⟨I2.kIn, ?_⟩) hst hpl
  exact run0 (us := us) (vs := vs) F hr hb hx I2 r q2
/-- C(e, ..) -/
theorem pe_mk (M : MkCallee CX X.prog X.w X.K X.mg X.base k x C ps sp) (hx : Passes CX X E0) (hr : Room (k + 1) X.A) (hg : Gl X x) (ha : PA X (e :: es) t) (hdb : (x == ("__debug__" : Str)) = false := by decide)
    (he : starEach (e :: es) X.env = (false, eval e X.env) :: starEach es X.env := by rfl) (hpl : (backTo pos (starEach es X.env)).any (·.1) = false := by rfl) :
    PE X (.Call (.Name x p) (e :: es) [] pos) (tMk C sp t) := by
  obtain ⟨f, fd, M, F, hb, hm⟩ := M
  have h := pe_make (E := E0) (dvs := []) (ds := []) (p := p) M F hr hg hm hb .nil hx ha hdb he hpl
  intro pins s σ H Q I q
  refine h pins s σ H Q I ?_
  have q' : t σ H fun vs H1 => ∀ x dx, H1 x = none → H1 dx = none → dx ≠ x → sp (.ref x :: vs) (upd (upd H1 dx (.own x)) x (.ins C dx [])) (fun v H2 => v = .non ∧ Q (.ref x) H2) E0 := q
  show t σ H fun vs H1 => ∀ x dx, H1 x = none → H1 dx = none → dx ≠ x → sp (.ref x :: (vs ++ [])) (upd (upd H1 dx (.own x)) x (.ins C dx [])) (fun v H2 => v = .non ∧ Q (.ref x) H2) E0
  have e1 : (fun (vs : List V) (H1 : Hp) => ∀ x dx, H1 x = none → H1 dx = none → dx ≠ x → sp (.ref x :: (vs ++ [])) (upd (upd H1 dx (.own x)) x (.ins C dx [])) (fun v H2 => v = .non ∧ Q (.ref x) H2) E0) = fun vs H1 => ∀ x dx, H1 x = none → H1 dx = none → dx ≠ x → sp (.ref x :: vs) (upd (upd H1 dx (.own x)) x (.ins C dx [])) (fun v H2 => v = .non ∧ Q (.ref x) H2) E0 := by
    funext vs H1
    rw [List.append_nil]
  rw [e1]
  exact q'
end
/-! f'{value!r} ..' of a plain value -/
/-- what can be shown: none, a bool, a number of few figures, a text of small signs -/
inductive Shw : V → Prop where
  | non : Shw .non
  | bl (b : Bool) : Shw (.bl b)
  | int {i : Int} (h : i.natAbs < 10 ^ 60) : Shw (.int i)
  | str {z : Str} (h : z.length ≤ 1000) (k : ∀ n ∈ z.cps.toList, n < 16 ^ 8) : Shw (.str z)
section
variable {X : Cx}
def tFrV (c : Str) (ta : TE) : TE := fun σ H Q => ta σ H fun x H1 => Shw x ∧ c.length ≤ 1000 ∧ ∀ z2 : Str, Q (.str z2) H1
end
/-! == of two tuples -/
def rEqT (K : PySem.W.Frag) (neg : Bool) : R2 := fun x y H Q => ∃ a b xs ys, x = .ref a ∧ y = .ref b ∧ SqT K H a xs ∧ SqT K H b ys ∧
  ∃ f : Nat → Bool, (∀ j x y, xs[j]? = some x → ys[j]? = some y → EqI K H x y (f j)) ∧ Q (.bl (if neg then !((List.range (min xs.length ys.length)).all f && xs.length == ys.length) else (List.range (min xs.length ys.length)).all f && xs.length == ys.length)) H
section
variable {X : Cx}
end
end L2

namespace L2
open PySem PySem.Spec PyProof.Rows
/-! ### set(list) for keys of any kind; len(set) -/
section
variable {κ : Type} [DecidableEq κ]
/-- how many different keys stand ahead of place i -/
def cntK (ks : List κ) : Nat → Nat
  | 0 => 0
  | i + 1 => match ks[i]? with
    | some k => if k ∈ ks.take i then cntK ks i else cntK ks i + 1
    | none => cntK ks i
theorem cntK_le (ks : List κ) : ∀ i, cntK ks i ≤ i
  | 0 => Nat.le_refl _
  | i + 1 => by
    have ih := cntK_le ks i
    unfold cntK
    split
    · split <;> omega
    · omega
theorem cntK_full (ks : List κ) : ∀ i, i ≤ ks.length → (cntK ks i = i ↔ (ks.take i).Nodup)
  | 0, _ => by simp [cntK]
  | i + 1, h => by
    have ih := cntK_full ks i (by omega)
    have le := cntK_le ks i
    have e : ks[i]? = some ks[i] := List.getElem?_eq_getElem (by omega)
    have et : ks.take (i + 1) = ks.take i ++ [ks[i]] := by rw [List.take_add_one, e]; rfl
    unfold cntK
    rw [e, et, List.nodup_append]
    dsimp only
    by_cases m : ks[i] ∈ ks.take i
    · rw [if_pos m]
      exact ⟨fun z => absurd z (by omega), fun z => absurd rfl (z.2.2 _ m _ (by simp))⟩
    · rw [if_neg m]
      refine ⟨fun z => ⟨ih.mp (by omega), by simp, fun a ha b hb => ?_⟩, fun z => by rw [ih.mpr z.1]⟩
      rw [show b = ks[i] by simpa using hb]
      exact fun q => m (q ▸ ha)
variable {prog : Program} {w : World} {A : Around} {E : Value → Shared → Prop} {s : Shared} {knd : KeyKind prog w κ}
theorem setOf_stay {h h' : Heap} {a : Addr} {S : κ → Bool} {n : Nat} (x : h.SetOf knd a S n) (k : ∀ o, h.get? a = some o → h'.get? a = some o) : h'.SetOf knd a S n := by
  obtain ⟨o, es, ep, t, ho, r⟩ := x
  exact ⟨o, es, ep, t, k o ho, r⟩
theorem setOf_as {h : Heap} {a : Addr} {S S' : κ → Bool} {n n' : Nat} (x : h.SetOf knd a S n) (e1 : S = S') (e2 : n = n') : h.SetOf knd a S' n' := e1 ▸ e2 ▸ x
/-- the loop that puts the walked items in -/
theorem fill_loop {R : Result → Shared → Prop} {I : Addr} {fp wr : List Addr} {G : Array GenState → Array GenState → Prop} {n : Nat} {P : Nat → Value → Prop} {St : Nat → Shared → Prop} (W : WalksS prog w A.in1 I fp wr G n P St) {a : Addr} (ha : a ∉ fp) {ks : List κ}
    (hv : ∀ i v, P i v → ∃ k, ks[i]? = some k ∧ knd.is k v = true ∧ v.scannable = true) (hb : n + 1 < scanBound) : ∀ (d i : Nat) (s : Shared), n = i + d → St i s → s.heap.SetOf knd a (fun k => decide (k ∈ ks.take i)) (cntK ks i) →
      (∀ s', Moved (a :: wr) G s s' → s'.heap.SetOf knd a (fun k => decide (k ∈ ks.take n)) (cntK ks n) → R (.ok (.ret .none)) s') → codeAny (model prog w) A (.builtin "set.update.loop" ⟨[.ref a, .ref I], []⟩) R s := by
  have hw : a ∉ wr := fun z => ha (W.sub a z)
  intro d
  induction d with
  | zero =>
    intro i s e st x fin
    rw [show n = i by omega] at W fin
    refine codeAny_builtin (R := R) (A := A) F.entry_set_update_loop ?_
    rw [Around.under_plainId (A := A) F.plain_set_update_loop _]
    show wpAny (model prog w) A.in1 (pyNext (.ref I) >>= _) _ _ s
    exact wpAny_bind (W.done s _ _ st fun s' m => wpAny_pure (fin s' (m.mono fun b hb => List.mem_cons_of_mem a hb) (setOf_stay x fun o q => m.heap a o hw q)))
  | succ d ih =>
    intro i s e st x fin
    refine codeAny_builtin (R := R) (A := A) F.entry_set_update_loop ?_
    rw [Around.under_plainId (A := A) F.plain_set_update_loop _]
    show wpAny (model prog w) A.in1 (pyNext (.ref I) >>= _) _ _ s
    refine wpAny_bind (W.item i s _ _ (by omega) st fun v s1 p st1 m => ?_)
    obtain ⟨k, ek, ik, sc⟩ := hv i v p
    have x1 := setOf_stay x fun o q => m.heap a o hw q
    show wpAny (model prog w) A.in1 (holding [v] (setAdd a v) >>= _) _ _ s1
    refine wpAny_bind (wpAny_holding (show wpAny (model prog w) A.in1 (setAdd a v) _ _ s1 from ?_))
    unfold setAdd
    refine wpAny_holding (wpAny_bind (knd.pyHash ik ?_))
    have le := cntK_le ks i
    refine wpAny_setAddHashed_of (knd := knd) (s := { s1 with toks := s1.toks + 1 }) ik sc x1 (by omega) fun h' sb x2 => ?_
    have et : ks.take (i + 1) = ks.take i ++ [k] := by rw [List.take_add_one, ek]; rfl
    have x3 : h'.SetOf knd a (fun q => decide (q ∈ ks.take (i + 1))) (cntK ks (i + 1)) := by
      refine setOf_as x2 (funext fun q => ?_) ?_
      · rw [et]
        by_cases z : q ∈ ks.take i <;> by_cases y : q = k <;> simp [z, y]
      · show (if decide (k ∈ ks.take i) = true then cntK ks i else cntK ks i + 1) = match ks[i]? with | some k => if k ∈ ks.take i then cntK ks i else cntK ks i + 1 | none => cntK ks i
        rw [ek]
        by_cases z : k ∈ ks.take i <;> simp [z]
    refine wpAny_pure ⟨plainId_quiet F.plain_set_update_loop _, ih (i + 1) { s1 with heap := h', toks := s1.toks + 1 } (by omega) (W.frame (i + 1) s1 h' (s1.toks + 1) st1 (Nat.le_succ _) fun b hbf o q => (sb.2 b fun z => ha (z ▸ hbf)).trans q) x3 fun s2 m2 x4 => ?_⟩
    refine fin s2 (Moved.trans W.gtrans ((m.mono fun b hb => List.mem_cons_of_mem a hb).then_heap (Nat.le_succ _) fun b o hbn q => ?_) m2) x4
    exact (sb.2 b fun z => hbn (z ▸ List.mem_cons_self)).trans q
/-- a set as it is made -/
abbrev newS (led : Bool) : Obj := { cls := .type "set", dict := none, data := .set #[] 0 (.fresh 0 0 led) }
/-- what is told behind set(..) -/
def Filled (knd : KeyKind prog w κ) (s : Shared) (ks : List κ) (h' : Heap) : Prop :=
  h'.SetOf knd s.heap.objs.size (fun k => decide (k ∈ ks)) (cntK ks ks.length) ∧ ∀ b o, b < s.heap.objs.size → s.heap.get? b = some o → h'.get? b = some o
/-- __init__ of the new set walks the list -/
theorem init_set {l : Addr} {items : Array Value} {ks : List κ} {led : Bool} (hh : A.handled = none) (hl : s.heap.IsList l items) (hk : ∀ (i : Nat) (v : Value), items[i]? = some v → ∃ k, ks[i]? = some k ∧ knd.is k v = true ∧ v.scannable = true) (hn : ks.length = items.size) (hb : items.size + 1 < scanBound) :
    codeAny (model prog w) A (.call (.builtin "set.__init__") ⟨[.ref s.heap.objs.size, .ref l], []⟩) (wants (fun r s2 => r = .none ∧ ∃ h' tk, s2 = { s with heap := h', toks := tk } ∧ Filled knd s ks h') E) { s with heap := s.heap.push (newS led) } := by
  have g0 : (s.heap.push (newS led)).get? s.heap.objs.size = some (newS led) := Heap.get?_push_size s.heap rfl
  have ty : Shared.TypeIs { s with heap := s.heap.push (newS led) } (.ref s.heap.objs.size) "set" := ⟨newS led, g0, rfl⟩
  refine codeAny_call_builtin F.called_set.init.plain F.entry_set_init (check_set_init_1 ty ?_)
  obtain ⟨⟨c1, c2, c3, c4⟩, ho, hc, m, hd⟩ := hl
  dsimp only at hc hd
  subst hc hd
  have g1 : (s.heap.push (newS led)).get? l = some { cls := .type "list", dict := c2, data := .seq items m, slots := c4 } := Heap.get?_push_of_some _ ho
  have y1 := F.sub_list_set
  have y2 := F.sub_list_frozenset
  have y3 : (Value.type "list" == Value.type "dict") = false := by decide
  have l1 : (s.heap.push (newS led)).IsList l items := ⟨_, g1, rfl, m, rfl⟩
  have lt : l < s.heap.objs.size := Heap.lt_size ho
  unfold Builtin.«set.__init__» Builtin.Frozenset.updateFrom noKeywords
  generalize hI : pyIter = it
  wp_walk
  subst hI
  refine wpAny_pyIter_list l1 (wpAny_bind (wpAny_runValue ?_))
  have nl : l ≠ (s.heap.push (newS led)).objs.size := by rw [Heap.size_push]; exact Nat.ne_of_lt (Nat.lt_succ_of_lt lt)
  have nf : s.heap.objs.size ∉ [(s.heap.push (newS led)).objs.size, l] := by
    rw [Heap.size_push]
    intro z
    rcases List.mem_cons.mp z with z | z
    · exact absurd z (Nat.ne_of_lt (Nat.lt_succ_self _))
    · exact absurd (by simpa using z) (Nat.ne_of_gt lt)
  refine fill_loop (knd := knd) ((Walks.list (by simp [hh]) _ l nl items).toS) nf (ks := ks) hk hb items.size 0 _ (Nat.zero_add _).symm ⟨⟨_, Heap.get?_push_size _ rfl, rfl, rfl⟩, l1.push _⟩ (setOf_as ((setObjOf_fresh (knd := knd) led).setOf (Heap.get?_push_of_some _ g0) (by unfold scanBound; omega)) (funext fun k => by simp) rfl) fun s' mv x => ?_
  obtain ⟨h', g', d', t', o'⟩ := s'
  obtain rfl : g' = s.gens := mv.gens
  obtain rfl : d' = s.drawn := mv.drawn
  obtain rfl : o' = s.os := mv.os
  refine wpAny_pure (show wpAny (model prog w) _ (ret Value.none) _ _ _ from wpAny_pure ⟨rfl, h', t', rfl, ?_, fun b o hb' q => ?_⟩)
  · rw [← hn] at x
    exact setOf_as x (funext fun k => by rw [List.take_length]) rfl
  · refine mv.heap b o (fun z => ?_) (Heap.get?_push_of_some _ (Heap.get?_push_of_some _ q))
    rcases List.mem_cons.mp z with z | z
    · exact absurd z (Nat.ne_of_lt hb')
    · have z2 : b = (s.heap.push (newS led)).objs.size := by simpa using z
      rw [Heap.size_push] at z2
      exact absurd z2 (Nat.ne_of_lt (Nat.lt_succ_of_lt hb'))
set_option maxRecDepth 100000 in
theorem call_setK {l : Addr} {items : Array Value} {ks : List κ} {Q : Value → Shared → Prop} (hh : A.handled = none) (hl : s.heap.IsList l items) (hk : ∀ (i : Nat) (v : Value), items[i]? = some v → ∃ k, ks[i]? = some k ∧ knd.is k v = true ∧ v.scannable = true) (hn : ks.length = items.size) (hb : items.size + 1 < scanBound)
    (h : ∀ h' tk, Filled knd s ks h' → Q (.ref s.heap.objs.size) { s with heap := h', toks := tk }) : wpAny (model prog w) A (call (.type "set") [.ref l]) Q E s := by
  obtain ⟨c, tl, mro⟩ := F.called_set.mro
  have a1 := F.called_set.made
  have a2 := F.called_set.sub
  have a3 := F.called_set.notType
  have a4 := F.called_set.canCreate
  have a5 := F.typeCall_set_1 (.ref l)
  refine wpAny_call (codeAny_of_tree (show wpAny (model prog w) _ (callAny (.type "set") _) _ _ _ from wpAny_pure ⟨Code.quiet_builtin _ (by decide +kernel), codeAny_builtin F.entry_type_call ?_⟩))
  rw [Around.under_plain (A := A) (weight_type_call_type "set" [.ref l] []) rfl]
  repeat (any_goals (first | assumption | wp_step))
  refine codeAny_mono (code_set_new_1 (.ref l) (E := E) (Q₁ := fun ob s1 => ∃ led, ob = .ref s.heap.objs.size ∧ s1 = { s with heap := s.heap.push (newS led) }) fun led => ⟨led, rfl, rfl⟩) fun r s1 hr => ?_
  cases r with
  | error e => exact hr
  | ok fl =>
    cases fl with
    | ret ob =>
      obtain ⟨led, rfl, rfl⟩ := hr
      have g0 : (s.heap.push (newS led)).get? s.heap.objs.size = some (newS led) := Heap.get?_push_size s.heap rfl
      have ty : Shared.TypeIs { s with heap := s.heap.push (newS led) } (.ref s.heap.objs.size) "set" := ⟨newS led, g0, rfl⟩
      have b1 := F.called_set.init.lookup
      have b2 := F.called_set.init.bind (.ref s.heap.objs.size)
      repeat (any_goals (first | assumption | wp_step))
      refine codeAny_mono (init_set (E := E) (knd := knd) (by simp [hh]) hl hk hn hb) fun r2 s2 hr2 => ?_
      cases r2 with
      | error e => exact hr2
      | ok f2 =>
        cases f2 with
        | ret r =>
          obtain ⟨rfl, h', tk, rfl, x⟩ := hr2
          repeat (any_goals (first | assumption | wp_step))
          exact h h' tk x
        | _ => exact hr2.elim
    | _ => exact hr.elim
end
/-! the layer's rules -/
/-- a set of texts -/
def SetO (P : Program) (w : World) (a : Addr) (zs : List Str) : HO := .ext fun h => h.SetOf (strKind P w) a (fun z => decide (z ∈ zs)) (cntK zs zs.length)
section
variable {X : Cx}
theorem vals_strs : ∀ {zs : List Str} {us : List Value}, Vals (zs.map V.str) us → ∀ (i : Nat) (v : Value), us[i]? = some v → ∃ z t, zs[i]? = some z ∧ v = .str z t
  | [], _, .nil, i, v, h => by simp at h
  | z :: zs, _, .cons ⟨t, e⟩ r, 0, v, h => by simp at h; exact ⟨z, t, rfl, by rw [← h, e]⟩
  | z :: zs, _, .cons _ r, i + 1, v, h => by
    obtain ⟨z', t, e1, e2⟩ := vals_strs r i v (by simpa using h)
    exact ⟨z', t, by simpa using e1, e2⟩
/-- set(xs) of a list of texts -/
theorem call_set_strs (hc : X.calm = true) : CallR X (.type "set") (fun xs H Q => ∃ (p : Addr) (zs : List Str), xs = [.ref p] ∧ SqL X.K H p (zs.map V.str) ∧ zs.length ≤ 1000 ∧ ∀ l, H l = none → Q (.ref l) (upd H l (SetO X.prog X.w l zs))) := by
  intro pins s σ H xs us Q I r h
  obtain ⟨p, zs, rfl, hS, hz, q⟩ := h
  obtain ⟨u, rfl, ru⟩ := r.one
  obtain rfl : u = Value.ref p := ru
  obtain ⟨its, rv, pl, _⟩ := I.list hS
  have hl := rv.length
  rw [List.length_map] at hl
  refine call_setK (knd := strKind X.prog X.w) (ks := zs) (I.ok.hd hc) pl.isList (fun i v e => ?_) (by simpa using hl) (by unfold scanBound; simp; omega) fun h' tk x => ?_
  · obtain ⟨z, t, e1, rfl⟩ := vals_strs rv i v (by simpa using e)
    exact ⟨z, e1, by show Value.isStrOf z (.str z t) = true; simp [Value.isStrOf], rfl⟩
  · obtain ⟨x1, x2⟩ := x
    refine ⟨.ref s.heap.objs.size, _, I.laid (a := s.heap.objs.size) (o := SetO X.prog X.w s.heap.objs.size zs) (h' := h') (t' := tk) (fun b o q => x2 b o (Heap.lt_size q) q) (Nat.le_refl _) ?_, rfl, q _ I.fresh⟩
    refine ⟨x1, ?_, fun h1 h2 y k => setOf_stay y k⟩
    obtain ⟨o, _, _, _, g, _⟩ := x1
    exact ⟨o, g⟩
end
end L2

namespace L2
open PySem PySem.Spec PyProof.Rows
/-! ### exceptions that pass through loops and callers -/
/-- as ExcT, with the flight of the trace's head -/
def ExcF (h : Heap) (e T : Addr) (cls a0 fl : Value) : Prop :=
  ∃ oe vs oT ts, h.get? e = some oe ∧ (oe.cls = cls ∧ vs[0]? = some a0) ∧ oe.data = .fields vs ∧ vs[1]? = some (.ref T) ∧ T ≠ e ∧ h.get? T = some oT ∧ oT.data = .fields ts ∧ ts[3]? = some fl
/-- an exception in the frame at L: just made, flying, or held there -/
inductive ExcS (h : Heap) (L e : Addr) (cls a0 : Value) : List Addr → Prop where
  | fresh {oe : Obj} {vs : Array Value} (he : h.get? e = some oe) (hc : oe.cls = cls) (hd : oe.data = .fields vs) (h1 : vs[1]? = some Value.none) (h0 : vs[0]? = some a0) : ExcS h L e cls a0 []
  | fly {T : Addr} (x : ExcF h e T cls a0 .none) : ExcS h L e cls a0 [T]
  | held {T : Addr} (x : ExcF h e T cls a0 (rawInt L)) : ExcS h L e cls a0 [T]
section
variable {M : Model} {A : Around} {E : Value → Shared → Prop} {s : Shared} {base : Heap} {env : Env} {outer : List Env} {L e T : Addr} {a0 cls fl : Value} {Q : Unit → Shared → Prop} {Ts : List Addr}
end
section
variable {X : Cx} {pins : List (Addr × Obj)} {σ : St} {H : Hp} {s : Shared} {h' : Heap} {Y : List Addr}
end
/-- what is wanted of an exception in a def's body: it lies as ExcS tells, the state is that of the body -/
def XEof (X : Cx) (L : Addr) (E : XK) : Value → Shared → Prop := fun ev s' => ∃ (e C : Addr) (a0 : Value) (Ts : List Addr) (pins : List (Addr × Obj)) (σ : St) (H' : Hp), ev = .ref e ∧ Inv X pins σ H' s' ∧ ExcS s'.heap L e (.ref C) a0 Ts ∧ (∀ b ∈ e :: Ts, NewAt X pins H' b) ∧ E (.ref C) none H'
section
variable {P : Program} {w : World} {K : PySem.W.Frag} {mg : Str → Option Value} {base : Heap} {N : List Str} {qual : Str} {scope : Scope} {f : Addr} {cd : Value} {A : Around} {outer : List Env} {s0 : Shared} {H0 : Hp} {E : XK}
/-- the context of a body that may raise -/
abbrev cxE (P : Program) (w : World) (K : PySem.W.Frag) (mg : Str → Option Value) (base : Heap) (N : List Str) (qual : Str) (scope : Scope) (f : Addr) (cd : Value) (A : Around) (outer : List Env) (s0 : Shared) (H0 : Hp) (E : XK) : Cx :=
  (cxOf (CX1 P w) P w K mg base N qual scope f cd A outer s0 H0 E).wish (XEof (cxOf (CX1 P w) P w K mg base N qual scope f cd A outer s0 H0 E) s0.heap.objs.size E)
end
end L2

namespace L2
open PySem PySem.Spec PyProof.Rows
/-! ### list.index, len of a set of texts, calls whose exceptions pass on -/
section
variable {X : Cx}
def rIndex (K : PySem.W.Frag) : V → List V → Hp → VK → Prop := fun x vs H Q => ∃ (p : Addr) (xs : List V) (y z : V) (j : Nat), x = .ref p ∧ vs = [y] ∧ SqL K H p xs ∧ flatV y = true ∧ xs.all flatV = true ∧ xs[j]? = some z ∧ eqV z y = true ∧ (∀ (m : Nat) (u : V), m < j → xs[m]? = some u → eqV u y = false) ∧ Q (.int j) H
theorem call_len_setO : CallR X (.builtin "len") (fun xs H Q => ∃ (l : Addr) (zs : List Str), xs = [.ref l] ∧ H l = some (SetO X.prog X.w l zs) ∧ zs.length ≤ 1000 ∧ Q (.int ((cntK zs zs.length : Nat) : Int)) H) := by
  intro pins s σ H xs us Q I r h
  obtain ⟨l, zs, rfl, e, hz, q⟩ := h
  obtain ⟨u, rfl, ru⟩ := r.one
  obtain rfl : u = Value.ref l := ru
  obtain ⟨⟨o, es, ep, t, g1, g2, g3, _, _, _, g4, g5⟩, _, _⟩ := I.hok l _ e
  have le := cntK_le zs zs.length
  refine call_len_set g1 g2 g3 g4 (by rw [g5]; omega) ⟨.int _, H, I.tok _, ⟨_, rfl⟩, ?_⟩
  rw [g5]; exact q
end
/-- calls, with what is wanted of their exceptions -/
def tFnE (sp : Sp) (E : XK) (t : TA) : TE := fun σ H Q => t σ H fun vs H1 => sp vs H1 Q E
def tMtE (C : Addr) (m : Str) (sp : Sp) (E : XK) (ta : TE) (t : TA) : TE := fun σ H Q => ta σ H fun x H1 => ∃ a dx fs, x = .ref a ∧ H1 a = some (.ins C dx fs) ∧ fs.lookup m = none ∧ t σ H1 fun vs H2 => sp (x :: vs) H2 Q E
def tMkE (C : Addr) (sp : Sp) (E : XK) (t : TA) : TE := fun σ H Q => t σ H fun vs H1 => ∀ x dx, H1 x = none → H1 dx = none → dx ≠ x →
  sp (.ref x :: vs) (upd (upd H1 dx (.own x)) x (.ins C dx [])) (fun v H2 => v = .non ∧ Q (.ref x) H2) E
section
variable {X : Cx} {k : Nat} {f C : Addr} {fd : FuncData} {ps : List Str} {sp : Sp} {x m : Str} {p np pos apos : Pos} {e o : Expr} {es : List Expr} {ta : TE} {t : TA} {E : XK}
end
end L2

namespace L2
open PySem PySem.Spec PyProof.Rows
/-! ### min and max of a list of ints; a set of ints and how many it has -/
section
variable {X : Cx}
end
/-- a set of ints -/
def SetI (P : Program) (w : World) (a : Addr) (ns : List Int) : HO := .ext fun h => h.SetOf (intKind P w) a (fun z => decide (z ∈ ns)) (cntK ns ns.length)
section
variable {X : Cx}
end
end L2
namespace L2
open PySem PySem.Spec PyProof.Rows
section
variable {X : Cx}
def rUpper : V → List V → Hp → VK → Prop := fun x vs H Q => ∃ z : Str, x = .str z ∧ vs = [] ∧ z.length ≤ 1000 ∧ Q (.str (Txt.upper z)) H
end
end L2

namespace L2
open PySem PySem.Spec PyProof.Rows
/-! ### isinstance against an own class or a built-in one, of a tuple of the module too -/
def TyG (K : PySem.W.Frag) (H : Hp) (x : V) (t : Value) : Prop := TyOf K H x t ∨ ∃ a ys, x = .ref a ∧ SqT K H a ys ∧ t = .type "tuple"
inductive ClV : V → Value → Prop where
  | ty (T : String) : ClV (.ty T) (.type T)
  | ref (C : Addr) : ClV (.ref C) (.ref C)
section
variable {X : Cx}
theorem call_isiG : CallR X (.builtin "isinstance") (fun xs H Q => ∃ x c cv t b, xs = [x, c] ∧ ClV c cv ∧ TyG X.K H x t ∧ PySem.W.kitOne X.K t cv = some b ∧ Q (.bl b) H) := by
  intro pins s σ H xs us Q I r h
  obtain ⟨x, c, cv, t, b, rfl, rc, ty, e, q⟩ := h
  cases r with
  | cons rx r2 =>
    cases r2 with
    | @cons _ cu _ _ ry r3 =>
      cases r3
      have ec : cu = cv := by cases rc <;> exact ry
      subst ec
      rcases ty with ty | ⟨a, ys, rfl, hS, rfl⟩
      · exact isinst_ok I rx ty e fun tk => ⟨.bl b, H, I.tok tk, rfl, q⟩
      · cases (show _ = Value.ref a from rx)
        obtain ⟨its, r, ⟨o, h1, h2, _⟩, _⟩ := I.tuple hS
        exact PySem.W.kia_one PySem.W.kitx_tuple I.kIn ⟨o, h1, h2⟩ e (fun z => nomatch z) fun tk => ⟨.bl b, H, I.tok tk, rfl, q⟩
end
/-- what the text must have for isinstance of an instance of C -/
structure InsT (K : PySem.W.Frag) (C : Addr) : Prop where
  cl : Cls K C
  ha : PySem.W.findIn K (.ref C) "__class__" = some (some (.builtin "object.__class__"))
  hn : PySem.W.specialIn K (.builtin "object.__class__") "__get__" = some (some (.builtin "getset_descriptor.__get__"))
  tk : PySem.W.takesIn K (.builtin "object.__class__") = some true
  hm : PySem.W.mroIn K C (.type "object") = some true
theorem InsT.ty {K : PySem.W.Frag} {C : Addr} (h : InsT K C) {H : Hp} {a dx : Addr} {fs : List (Str × V)} (e : H a = some (.ins C dx fs)) : TyG K H (.ref a) (.ref C) := .inl (.ins e h.cl h.ha h.hn h.tk h.hm)
/-! ### a method of one of several classes -/
def PolM (CX : CXT) (P : Program) (w : World) (K : PySem.W.Frag) (mg : Str → Option Value) (base : Heap) (k : Nat) (m : Str) (ps : List Str) (cs : List (Addr × Sp)) : Prop :=
  ∀ p ∈ cs, MCallee CX P w K mg base k p.1 m ps p.2 ∧ Cls K p.1
section
variable {CX : CXT} {P : Program} {w : World} {K : PySem.W.Frag} {mg : Str → Option Value} {base : Heap} {k : Nat} {C : Addr} {m : Str} {ps : List Str} {sp : Sp} {cs : List (Addr × Sp)}
theorem poln : PolM CX P w K mg base k m ps [] := fun _ h => nomatch h
theorem polc (M : MCallee CX P w K mg base k C m ps sp) (c : Cls K C) (r : PolM CX P w K mg base k m ps cs) : PolM CX P w K mg base k m ps ((C, sp) :: cs) := fun p h => by
  rcases List.mem_cons.mp h with rfl | h
  · exact ⟨M, c⟩
  · exact r p h
end
def tMtP (cs : List (Addr × Sp)) (m : Str) (ta : TE) (t : TA) : TE := fun σ H Q => ta σ H fun x H1 => ∃ a p dx fs, x = .ref a ∧ p ∈ cs ∧ H1 a = some (.ins p.1 dx fs) ∧ fs.lookup m = none ∧ t σ H1 fun vs H2 => p.2 (x :: vs) H2 Q E0
section
variable {X : Cx} {CX : CXT} {k : Nat} {f C : Addr} {fd : FuncData} {ps : List Str} {sp : Sp} {x m : Str} {p np pos apos : Pos} {e o : Expr} {es : List Expr} {ta : TE} {t : TA} {cs : List (Addr × Sp)}
theorem pe_mtP {pl : Sem Bool} (M : PolM CX X.prog X.w X.K X.mg X.base k m ps cs) (hx : Passes CX X E0) (hr : Room k X.A) (he : PE X o ta) (ha : PA X (e :: es) t)
    (hst : starEach (e :: es) X.env = (false, eval e X.env) :: starEach es X.env := by rfl) (hpl : (backTo pos (starEach es X.env)).any (·.1) = false := by rfl)
    (ht : eval (.Call (.Attribute o m apos) (e :: es) [] pos) X.env = (do
      let ov ← eval o X.env
      standAt apos.atName
      let (f, first) ← holding [ov] (getMethod ov m pl)
      callWith pos f first (backTo pos (starEach (e :: es) X.env)) (backToKw pos (keywordEach [] X.env))) := by rfl) :
    PE X (.Call (.Attribute o m apos) (e :: es) [] pos) (tMtP cs m ta t) := by
  intro pins s σ H Q I h
  refine PySem.W.methodCall_KW (pl := pl) (thn (he pins s σ H _ I h) fun u s1 ⟨x, H1, I1, rx, a, p, dx, fs, ex, hp, ea, l, q⟩ => ?_) ht
  obtain ⟨⟨f, fd, hm, F, hb⟩, c⟩ := M p hp
  subst ex
  obtain rfl : u = Value.ref a := rx
  refine getmeth_ok I1 ea c hm l ?_
  refine PySem.W.callWith_K (first := [.ref a]) (h₀ := X.base) I.ok.mod.kin hm.kp (thn (ha pos pins s1 σ H1 _ I1 q) fun us s2 ⟨vs, H2, I2, r, q2⟩ => ⟨I2.kIn, ?_⟩) hst hpl
  exact run0 (us := .ref a :: us) (vs := .ref a :: vs) F hr hb hx I2 (.cons rfl r) q2
end
/-! ### a tuple of the module -/
def ModT (K : PySem.W.Frag) (a : Addr) (xs : List V) : Prop := ∃ (o : Obj) (its : Array Value) (n : Nat), K.lookup a = some o ∧ o.cls = .type "tuple" ∧ o.data = .seq its n ∧ its.size ≤ sizeLine ∧ Vals xs its.toList
end L2
namespace L2
open PySem PySem.Spec PyProof.Rows
theorem iteTS {c A B : Prop} [Decidable c] (hc : c) (h : A) : if decide c = true then A else B := by rw [if_pos (decide_eq_true hc)]; exact h
theorem iteFS {c A B : Prop} [Decidable c] (hc : ¬ c) (h : B) : if decide c = true then A else B := by rw [if_neg (by rw [decide_eq_false hc]; decide)]; exact h
end L2

set_option Elab.async false
set_option maxRecDepth 100000
set_option maxHeartbeats 4000000
set_option linter.all false
namespace My
open PySem L2
def top (i : Nat) : Stmt := PySem.Challenge.pw_rowjudge_k92_verdicts_shown.main.body.getD i (.Pass ⟨0, 0, 0, 0⟩)
abbrev s_all_among : Stmt := top 9
abbrev s_is_word : Stmt := top 10
abbrev s_number_text : Stmt := top 11
abbrev s_is_whole : Stmt := top 12
abbrev s_show_value : Stmt := top 17
abbrev s_verdict_text : Stmt := top 19
abbrev s_law_cell : Stmt := top 21
abbrev s_law_words : Stmt := top 22
abbrev s_law_text : Stmt := top 23
abbrev s_Words___init___Words : Stmt := inClass (top 15) 0
abbrev s_Domain___init___Words : Stmt := inClass (top 13) 0
abbrev s_Numbers___init___Numbers : Stmt := inClass (top 14) 0
abbrev s_Domain___init___Numbers : Stmt := inClass (top 13) 0
abbrev s_Domain_worth_Numbers : Stmt := inClass (top 13) 7
abbrev s_Numbers_value_at_Numbers : Stmt := inClass (top 14) 3
abbrev s_Domain_has_code_Numbers : Stmt := inClass (top 13) 5
abbrev s_Domain_worth_Words : Stmt := inClass (top 13) 7
abbrev s_Words_value_at_Words : Stmt := inClass (top 15) 3
abbrev s_Domain_has_code_Words : Stmt := inClass (top 13) 5
abbrev s_law : Stmt := top 24
theorem sc_all_among : FnScope ["text", "signs", "sign"] ["text", "signs"] (defScope s_all_among) := ⟨rfl, rfl, rfl, by decide +kernel, rfl, by decide +kernel, by decide +kernel⟩
theorem sc_is_word : FnScope ["text"] ["text"] (defScope s_is_word) := ⟨rfl, rfl, rfl, by decide +kernel, rfl, by decide +kernel, by decide +kernel⟩
theorem sc_number_text : FnScope ["number"] ["number"] (defScope s_number_text) := ⟨rfl, rfl, rfl, by decide +kernel, rfl, by decide +kernel, by decide +kernel⟩
theorem sc_is_whole : FnScope ["value"] ["value"] (defScope s_is_whole) := ⟨rfl, rfl, rfl, by decide +kernel, rfl, by decide +kernel, by decide +kernel⟩
theorem sc_show_value : FnScope ["domain", "code"] ["domain", "code"] (defScope s_show_value) := ⟨rfl, rfl, rfl, by decide +kernel, rfl, by decide +kernel, by decide +kernel⟩
theorem sc_verdict_text : FnScope ["outcome", "verdict"] ["outcome", "verdict"] (defScope s_verdict_text) := ⟨rfl, rfl, rfl, by decide +kernel, rfl, by decide +kernel, by decide +kernel⟩
theorem sc_law_cell : FnScope ["script", "k"] ["script", "k"] (defScope s_law_cell) := ⟨rfl, rfl, rfl, by decide +kernel, rfl, by decide +kernel, by decide +kernel⟩
theorem sc_law_words : FnScope ["cell", "count", "letters", "told", "k", "one"] ["cell"] (defScope s_law_words) := ⟨rfl, rfl, rfl, by decide +kernel, rfl, by decide +kernel, by decide +kernel⟩
theorem sc_law_text : FnScope ["found", "due"] ["found", "due"] (defScope s_law_text) := ⟨rfl, rfl, rfl, by decide +kernel, rfl, by decide +kernel, by decide +kernel⟩
theorem sc_Words___init___Words : FnScope ["self", "words", "word"] ["self", "words"] (defScope s_Words___init___Words) := ⟨rfl, rfl, rfl, by decide +kernel, rfl, by decide +kernel, by decide +kernel⟩
theorem sc_Domain___init___Words : FnScope ["self", "low", "high"] ["self", "low", "high"] (defScope s_Domain___init___Words) := ⟨rfl, rfl, rfl, by decide +kernel, rfl, by decide +kernel, by decide +kernel⟩
theorem sc_Numbers___init___Numbers : FnScope ["self", "low", "high"] ["self", "low", "high"] (defScope s_Numbers___init___Numbers) := ⟨rfl, rfl, rfl, by decide +kernel, rfl, by decide +kernel, by decide +kernel⟩
theorem sc_Domain___init___Numbers : FnScope ["self", "low", "high"] ["self", "low", "high"] (defScope s_Domain___init___Numbers) := ⟨rfl, rfl, rfl, by decide +kernel, rfl, by decide +kernel, by decide +kernel⟩
theorem sc_Domain_worth_Numbers : FnScope ["self", "code"] ["self", "code"] (defScope s_Domain_worth_Numbers) := ⟨rfl, rfl, rfl, by decide +kernel, rfl, by decide +kernel, by decide +kernel⟩
theorem sc_Numbers_value_at_Numbers : FnScope ["self", "code"] ["self", "code"] (defScope s_Numbers_value_at_Numbers) := ⟨rfl, rfl, rfl, by decide +kernel, rfl, by decide +kernel, by decide +kernel⟩
theorem sc_Domain_has_code_Numbers : FnScope ["self", "value"] ["self", "value"] (defScope s_Domain_has_code_Numbers) := ⟨rfl, rfl, rfl, by decide +kernel, rfl, by decide +kernel, by decide +kernel⟩
theorem sc_Domain_worth_Words : FnScope ["self", "code"] ["self", "code"] (defScope s_Domain_worth_Words) := ⟨rfl, rfl, rfl, by decide +kernel, rfl, by decide +kernel, by decide +kernel⟩
theorem sc_Words_value_at_Words : FnScope ["self", "code"] ["self", "code"] (defScope s_Words_value_at_Words) := ⟨rfl, rfl, rfl, by decide +kernel, rfl, by decide +kernel, by decide +kernel⟩
theorem sc_Domain_has_code_Words : FnScope ["self", "value"] ["self", "value"] (defScope s_Domain_has_code_Words) := ⟨rfl, rfl, rfl, by decide +kernel, rfl, by decide +kernel, by decide +kernel⟩
theorem sc_law : FnScope ["script", "cell", "words", "low", "wide", "outcome", "number", "code", "due"] ["script"] (defScope s_law) := ⟨rfl, rfl, rfl, by decide +kernel, rfl, by decide +kernel, by decide +kernel⟩
structure Bl (K : PySem.W.Frag) (mg : Str → Option Value) (cDomain cNumbers cWords : Addr) : Prop where
  Domain_ : mg "Domain" = some (.ref cDomain)
  n_Domain : PySem.W.nsIn K mainGlobals "Domain" = some (some (.ref cDomain))
  Numbers_ : mg "Numbers" = some (.ref cNumbers)
  n_Numbers : PySem.W.nsIn K mainGlobals "Numbers" = some (some (.ref cNumbers))
  Words_ : mg "Words" = some (.ref cWords)
  n_Words : PySem.W.nsIn K mainGlobals "Words" = some (some (.ref cWords))
  k_Numbers : Cls K cNumbers
  k_Words : Cls K cWords
  t_Numbers : InsT K cNumbers
  t_Words : InsT K cWords
  na_Numbers_low : NoAttr K cNumbers "low"
  na_Numbers_high : NoAttr K cNumbers "high"
  na_Words_low : NoAttr K cWords "low"
  na_Words_high : NoAttr K cWords "high"
  na_Words_words : NoAttr K cWords "words"
  f_nw : PySem.W.kitOne K (.ref cNumbers) (.ref cWords) = some false
  f_ww : PySem.W.kitOne K (.ref cWords) (.ref cWords) = some true
  len_ : mg "len" = none
  str_ : mg "str" = none
  isinstance_ : mg "isinstance" = none
  int_ : mg "int" = none
  bool_ : mg "bool" = none
  range_ : mg "range" = none
  list_ : mg "list" = none
  set_ : mg "set" = none
  MOST_SIGNS_ : ∃ u, mg "MOST_SIGNS" = some u ∧ RelV (V.int 12) u
  SMALL_LETTERS_ : ∃ u, mg "SMALL_LETTERS" = some u ∧ RelV (V.str "abcdefghijklmnopqrstuvwxyz") u
  MOST_WORDS_ : ∃ u, mg "MOST_WORDS" = some u ∧ RelV (V.int 40) u
theorem cut_map (ns : List Int) (lo hi : Option Int) : ∃ ms : List Int, cutV (ns.map V.int) lo hi = ms.map V.int ∧ ms.length ≤ ns.length := by
  unfold cutV
  refine ⟨(ns.drop (HT.sIx (ns.map V.int).length 0 lo)).take (HT.sIx (ns.map V.int).length (ns.map V.int).length hi - HT.sIx (ns.map V.int).length 0 lo), ?_, ?_⟩
  · rw [List.map_take, List.map_drop]
  · rw [List.length_take, List.length_drop]; omega
theorem p10 (n : Nat) : (0 : Int) < 10 ^ n := Int.pow_pos (by decide)
theorem ret_r1 {H : Hp} {r : Addr} {o : HO} {b : Addr} {u : HO} (h : H r = some u) (n : H b = none) : upd H b o r = some u := by rw [upd_ne (ne_of_none h n)]; exact h
theorem take_snoc {α : Type} {l : List α} {i : Nat} {x : α} (e : l[i]? = some x) : l.take (i + 1) = l.take i ++ [x] := by rw [List.take_add_one, e]; rfl
theorem of_map {ns : List Int} {i : Nat} {x : V} (e : (ns.map V.int)[i]? = some x) : ∃ c, x = .int c ∧ ns[i]? = some c := by
  rw [List.getElem?_map] at e
  cases q : ns[i]? with
  | none => rw [q] at e; cases e
  | some c => rw [q] at e; cases e; exact ⟨c, rfl, rfl⟩
def lets : Str := "abcdefghijklmnopqrstuvwxyz"
def isw (z : Str) : Bool := decide ((1 : Int) ≤ ((z.length : Nat) : Int)) && (decide (((z.length : Nat) : Int) ≤ 12) && (!decide (V.str z = V.str "not") && allIn z lets))
theorem all_no {l : List Nat} {i : Nat} {c : Nat} {p : Nat → Bool} (e : l[i]? = some c) (h : p c = false) : l.all p = false := by
  cases q : l.all p with
  | false => rfl
  | true => rw [List.all_eq_true.mp q c (List.mem_of_getElem? e)] at h; cases h
theorem all_succ {l : List Nat} {i : Nat} {c : Nat} {p : Nat → Bool} (e : l[i]? = some c) (h : p c = true) (ha : (l.take i).all p = true) : (l.take (i + 1)).all p = true := by
  rw [take_snoc e, List.all_append, ha]; simp [h]
theorem all_done {z g : Str} (h : (z.cps.toList.take z.cps.size).all (sg g) = true) : allIn z g = true := by
  have e : z.cps.toList.take z.cps.size = z.cps.toList := by rw [← Array.length_toList]; exact List.take_length
  rw [e] at h; exact h
theorem not_sg {g : Str} {c : Nat} (h : (!(!(Builtin.Str.occurrences g ⟨#[c]⟩ 0 g.length 1).isEmpty)) = true) : sg g c = false := by unfold sg; simpa using h
theorem is_sg {g : Str} {c : Nat} (h : ¬ (!(!(Builtin.Str.occurrences g ⟨#[c]⟩ 0 g.length 1).isEmpty)) = true) : sg g c = true := by unfold sg; simpa using h
theorem big {n : Nat} (h : n ≤ 1000) : n ≤ sizeLine := Nat.le_of_lt (small1000 h)
def mkd (C : Addr) (H : Hp) (x dx : Addr) (lo hi : Int) : Hp := upd (upd H x (.ins C dx [("low", .int lo)])) x (.ins C dx [("low", .int lo), ("high", .int hi)])
theorem put2 (v u : V) : putF (Str.ofString "high") u [(Str.ofString "low", v)] = [(Str.ofString "low", v), (Str.ofString "high", u)] := by
  unfold putF putF
  rw [if_neg (by decide)]
theorem put3 (v u t : V) : putF (Str.ofString "words") t [(Str.ofString "low", v), (Str.ofString "high", u)] = [(Str.ofString "low", v), (Str.ofString "high", u), (Str.ofString "words", t)] := by
  unfold putF putF putF
  rw [if_neg (by decide), if_neg (by decide)]
def hiW (zs : List Str) : Int := ((zs.length : Nat) : Int) - 1
structure Good (zs : List Str) : Prop where
  some_ : 1 ≤ zs.length
  few : zs.length ≤ 40
  words : ∀ z ∈ zs, isw z = true
  once : zs.Nodup
theorem get_strs {zs : List Str} {i : Nat} {x : V} (e : (zs.map V.str)[i]? = some x) : ∃ z, x = .str z ∧ zs[i]? = some z := by
  rw [List.getElem?_map] at e
  cases q : zs[i]? with
  | none => rw [q] at e; cases e
  | some z => rw [q] at e; cases e; exact ⟨z, rfl, rfl⟩
def six : List Str := [Str.ofString "first", Str.ofString "only", Str.ofString "like", Str.ofString "low", Str.ofString "high", Str.ofString "sum"]
def WyN (C : Addr) (H : Hp) (x : Addr) (z : Str) : Prop := ∃ dx, H x = some (.ins C dx [("called", .str z)])
def fnew (C : Addr) (z : Str) : Sp := fun vs H Q _ => ∃ (x dx : Addr), vs = [.ref x] ∧ H x = some (.ins C dx []) ∧ Q .non (upd H x (.ins C dx [("called", .str z)]))
/-- the six classes, told by place -/
def cl6 (a b c d e f : Addr) : List Addr := [a, b, c, d, e, f]

/-! domains, told by their ends -/
def DomC (C : Addr) (H : Hp) (a : Addr) (lo hi : Int) : Prop := ∃ dx fs, H a = some (.ins C dx fs) ∧ fs.lookup (Str.ofString "low") = some (.int lo) ∧ fs.lookup (Str.ofString "high") = some (.int hi) ∧ fs.lookup (Str.ofString "has_code") = none
def Dom (cN cW : Addr) (H : Hp) (a : Addr) (b : Int × Int) : Prop := ∃ C, (C = cN ∨ C = cW) ∧ DomC C H a b.1 b.2
/-- a row of refs, item by item -/
def RefL {α : Type} (xs : List V) (as : List α) (P : Addr → α → Prop) : Prop := xs.length = as.length ∧ ∀ (j : Nat) (a : α), as[j]? = some a → ∃ r, xs[j]? = some (.ref r) ∧ P r a
abbrev Prs := List (Int × Int)
/-- a list of pairs at l -/
def SpA (N : Addr → Prop) (H : Hp) (l : Addr) (ps : Prs) : Prop := N l ∧ ∃ ys, H l = some (.lst ys) ∧ PL H ys ps
def CL (N : Addr → Prop) (H : Hp) (xs : List V) (pss : List Prs) : Prop := RefL xs pss (SpA N H)
abbrev Rw := List Prs × Int
def RowA (N : Addr → Prop) (H : Hp) (r : Addr) (rw_ : Rw) : Prop := ∃ ce cs, H r = some (.tup [.ref ce, .int rw_.2]) ∧ N ce ∧ H ce = some (.lst cs) ∧ CL N H cs rw_.1
def RL (N : Addr → Prop) (H : Hp) (xs : List V) (rws : List Rw) : Prop := RefL xs rws (RowA N H)
abbrev NT : Addr → Prop := fun _ => True
/-- free ahead, and not D -/
def Fr (H : Hp) (D : Addr) : Addr → Prop := fun a => H a = none ∧ a ≠ D
/-- columns of the law -/
structure RngOk (b : Int × Int) (zs : List Str) : Prop where
  le : b.1 ≤ b.2
  ws : zs ≠ [] → Good zs ∧ b = (0, hiW zs)
def ColA (N : Addr → Prop) (H : Hp) (l : Addr) (b : Int × Int) : Prop := ∃ (w : Addr) (zs : List Str), N l ∧ N w ∧ H l = some (.lst [.int b.1, .int b.2, .ref w]) ∧ H w = some (.lst (zs.map V.str)) ∧ RngOk b zs
def Cols (N : Addr → Prop) (H : Hp) (xs : List V) (bs : Prs) : Prop := RefL xs bs (ColA N H)
/-- a row that a table takes -/
structure RowOk (bs : Prs) (o : Int × Int) (w : Rw) : Prop where
  len : w.1.length = bs.length
  inn : ∀ (j : Nat) (ps : Prs) (b : Int × Int), w.1[j]? = some ps → bs[j]? = some b → ∀ p ∈ ps, b.1 ≤ p.1 ∧ p.2 ≤ b.2
  lo : o.1 ≤ w.2
  hi : w.2 ≤ o.2
/-- a row fits codes -/
def rfit (pss : List Prs) (cs : List Int) : Bool := (List.range cs.length).all fun j => inP (pss.getD j []) (cs.getD j 0)
/-- the heap without x -/
def hide (H : Hp) (x : Addr) : Hp := fun b => if b = x then none else H b
/-! words -/
def wcs (c k : Int) : List Nat := List.replicate (c / 26 % 6).toNat (97 + (c % 26).toNat) ++ ([97 + (k / 7 % 7).toNat, 97 + (k % 7).toNat] ++ List.replicate (k % 5).toNat (97 + (c / 156 % 26).toNat))
def wd (c k : Int) : Str := ⟨(wcs c k).toArray⟩
theorem sg_let {c : Nat} (h : 97 ≤ c ∧ c ≤ 122) : sg lets c = true := by
  have : ∀ d : Nat, d < 26 → sg lets (97 + d) = true := by decide +kernel
  have z := this (c - 97) (by omega)
  rw [show 97 + (c - 97) = c by omega] at z
  exact z
theorem lets_at {s : Str} {n : Nat} (h : s.cps.toList = (List.range n).map (97 + ·)) {k : Int} (h0 : 0 ≤ k) (h1 : k < n) : atI s.cps.toList k = some (97 + k.toNat) := by
  have hk : k.toNat < n := by omega
  have z : s.cps.toList[k.toNat]? = some (97 + k.toNat) := by rw [h, List.getElem?_map, List.getElem?_range hk]; rfl
  have q := atI_nat z
  rw [show ((k.toNat : Nat) : Int) = k by omega] at q
  exact q
/-- the words of a domain -/
def wds (c : Int) (n : Nat) : List Str := (List.range n).map fun j : Nat => wd c (j : Int)
def WrdD (C : Addr) (H : Hp) (a : Addr) (zs : List Str) : Prop := ∃ dx l, H a = some (.ins C dx [("low", .int 0), ("high", .int (hiW zs)), ("words", .ref l)]) ∧ H l = some (.lst (zs.map V.str))
def NumD (C : Addr) (H : Hp) (a : Addr) (lo hi : Int) : Prop := ∃ dx, H a = some (.ins C dx [("low", .int lo), ("high", .int hi)])
theorem WrdD.same {C : Addr} {H H' : Hp} {a : Addr} {zs : List Str} (h : WrdD C H a zs) (s : Same H H') : WrdD C H' a zs := let ⟨dx, l, e, f⟩ := h; ⟨dx, l, s _ _ e, s _ _ f⟩
theorem NumD.same {C : Addr} {H H' : Hp} {a : Addr} {lo hi : Int} (h : NumD C H a lo hi) (s : Same H H') : NumD C H' a lo hi := let ⟨dx, e⟩ := h; ⟨dx, s _ _ e⟩
def bnd (i : Int) : Prop := i.natAbs < 10 ^ 60
/-- the text of a code -/
def Shown (cN cW : Addr) (H : Hp) (d : Addr) (c : Int) (z : Str) : Prop :=
  (∃ lo hi, NumD cN H d lo hi ∧ lo ≤ c ∧ c ≤ hi ∧ bnd c ∧ z = toString c) ∨ ∃ zs, WrdD cW H d zs ∧ 0 ≤ c ∧ zs[c.toNat]? = some z
theorem isw_of {l : List Nat} (h1 : 1 ≤ l.length) (h2 : l.length ≤ 12) (h3 : ∀ x ∈ l, 97 ≤ x ∧ x ≤ 122) (h4 : l ≠ [110, 111, 116]) : isw ⟨l.toArray⟩ = true := by
  have ha : allIn ⟨l.toArray⟩ lets = true := by
    unfold allIn
    rw [List.all_eq_true]
    intro x hx
    exact sg_let (h3 x (by simpa using hx))
  have hn : ¬ (V.str ⟨l.toArray⟩ = V.str (Str.ofString "not")) := fun h => by
    injection h with h
    have e : Str.ofString "not" = ⟨[110, 111, 116].toArray⟩ := by decide +kernel
    rw [e] at h
    injection h with h
    exact h4 (by simpa using congrArg Array.toList h)
  have hl : (⟨l.toArray⟩ : Str).length = l.length := by simp [Str.length]
  unfold isw
  rw [ha, decide_eq_true (show (1 : Int) ≤ (((⟨l.toArray⟩ : Str).length : Nat) : Int) by omega), decide_eq_true (show (((⟨l.toArray⟩ : Str).length : Nat) : Int) ≤ 12 by omega)]
  show (true && (true && (!decide (V.str ⟨l.toArray⟩ = V.str (Str.ofString "not")) && true))) = true
  rw [decide_eq_false hn]; rfl
theorem abc8 : (Str.ofString "abcdefgh").cps.toList = (List.range 8).map (97 + ·) := by decide +kernel
def pz (t : Int) : List Nat := [122, 117, 118].take t.toNat
theorem pz_slice {t : Int} (h0 : 0 ≤ t) (h1 : t < 4) : Txt.slice (Str.ofString "zuv") none (some t) = ⟨(pz t).toArray⟩ := by
  have : t = 0 ∨ t = 1 ∨ t = 2 ∨ t = 3 := by omega
  rcases this with rfl | rfl | rfl | rfl <;> decide +kernel
def l2w (c k : Int) : List Nat := [97 + (k % 8).toNat, 97 + ((k / 8 + c / 80) % 8).toNat]
def w92 (c k : Int) : Str := ⟨(pz (c / 80 % 4) ++ l2w c k).toArray⟩
theorem w92_isw (c k : Int) : isw (w92 c k) = true := by
  have a0 := Int.emod_nonneg k (show (8 : Int) ≠ 0 by decide)
  have a1 := Int.emod_lt_of_pos k (show (0 : Int) < 8 by decide)
  have b0 := Int.emod_nonneg (k / 8 + c / 80) (show (8 : Int) ≠ 0 by decide)
  have b1 := Int.emod_lt_of_pos (k / 8 + c / 80) (show (0 : Int) < 8 by decide)
  have hp : (pz (c / 80 % 4)).length ≤ 3 := by unfold pz; rw [List.length_take]; exact Nat.le_trans (Nat.min_le_right _ _) (Nat.le_refl 3)
  refine isw_of (by unfold l2w; simp) (by unfold l2w; simp; omega) (fun x hx => ?_) (fun h => ?_)
  · rcases List.mem_append.mp hx with hx | hx
    · have : x ∈ [122, 117, 118] := List.mem_of_mem_take hx
      simp only [List.mem_cons, List.not_mem_nil, or_false] at this
      omega
    · unfold l2w at hx
      simp only [List.mem_cons, List.not_mem_nil, or_false] at hx
      omega
  · have z := congrArg List.getLast? h
    unfold l2w at z
    rw [List.getLast?_append] at z
    simp at z
    omega
theorem w92_inj {c k k' : Int} (h0 : 0 ≤ k) (h1 : k < 40) (h2 : 0 ≤ k') (h3 : k' < 40) (e : w92 c k = w92 c k') : k = k' := by
  unfold w92 at e
  injection e with e
  have e : pz (c / 80 % 4) ++ l2w c k = pz (c / 80 % 4) ++ l2w c k' := by simpa using congrArg Array.toList e
  have e := List.append_cancel_left e
  unfold l2w at e
  injection e with e1 e2
  injection e2 with e2
  omega
def ws92 (c : Int) (n : Nat) : List Str := (List.range n).map fun j : Nat => w92 c (0 + (j : Int))
theorem ws92_good {c : Int} {n : Nat} (h1 : 1 ≤ n) (h2 : n ≤ 40) : Good (ws92 c n) := by
  refine ⟨by unfold ws92; simp; omega, by unfold ws92; simp; omega, fun z hz => ?_, ?_⟩
  · obtain ⟨j, _, rfl⟩ := List.mem_map.mp hz
    exact w92_isw _ _
  · unfold ws92
    rw [List.nodup_iff_pairwise_ne, List.pairwise_map]
    refine List.Pairwise.imp_of_mem (R := fun a b => a ≠ b) (fun {a b} ha hb hab e => ?_) List.nodup_range
    have ha := List.mem_range.mp ha
    have hb := List.mem_range.mp hb
    have := w92_inj (by omega) (by omega) (by omega) (by omega) e
    omega
theorem ws92_succ (c : Int) (n : Nat) : ws92 c (n + 1) = ws92 c n ++ [w92 c (0 + (n : Int))] := by unfold ws92; rw [List.range_succ, List.map_append]; rfl
theorem ws92_len (c : Int) (n : Nat) : (ws92 c n).length = n := by unfold ws92; simp
theorem p58 : (10 : Int) ^ (58 : Int).toNat = ((10 ^ 58 : Nat) : Int) := by decide
theorem p57 : (10 : Int) ^ (57 : Int).toNat = ((10 ^ 57 : Nat) : Int) := by decide
theorem log_sm {i : Int} (h : bnd i) : i.natAbs.log2 < 1920 := by
  by_cases hz : i.natAbs = 0
  · rw [hz]; decide
  · refine (Nat.log2_lt hz).mpr ?_
    have k : (10 ^ 60 : Nat) ≤ 2 ^ 200 := by decide
    have k2 : (2 : Nat) ^ 200 ≤ 2 ^ 1920 := Nat.pow_le_pow_right (by decide) (by decide)
    unfold bnd at h
    exact Nat.lt_of_lt_of_le h (Nat.le_trans k k2)
theorem len_num {i : Int} (h : bnd i) : (Str.ofString (toString i)).length ≤ 61 := by
  have e : (Str.ofString (toString i)).length = (toString i).length := by
    rw [Str.ofString_eq_toList]
    show (List.map Char.toNat (toString i).toList).toArray.size = _
    rw [List.size_toArray, List.length_map]
    exact String.length_toList
  rw [e]
  exact int_text_length_le10 (by decide) h
theorem bnd_small {c : Int} (h0 : -((10 ^ 58 : Nat) : Int) ≤ c) (h1 : c < ((10 ^ 58 : Nat) : Int) + ((10 ^ 57 : Nat) : Int)) : bnd c := by
  unfold bnd
  have k : (10 ^ 58 : Nat) + 10 ^ 57 < 10 ^ 60 := by decide
  generalize (10 ^ 58 : Nat) = A at h0 h1 k
  generalize (10 ^ 57 : Nat) = B at h1 k
  generalize (10 ^ 60 : Nat) = W at k ⊢
  omega
theorem bnd40 {k : Int} (h0 : 0 ≤ k) (h1 : k < 40) : bnd k := by
  unfold bnd
  have e : (40 : Nat) ≤ 10 ^ 60 := by decide
  generalize (10 ^ 60 : Nat) = W at e ⊢
  omega
theorem small1000' {n : Nat} (h : n ≤ 1000) : 4 + n < sizeLine := Nat.lt_of_le_of_lt (Nat.add_le_add_left h 4) (by decide)
def sp_all_among (K : PySem.W.Frag) (cDomain cNumbers cWords : Addr) : Sp := fun vs H Q _ => ∃ (z g : Str), vs = [.str z, .str g] ∧ Q (.bl (allIn z g)) H
def sp_number_text (K : PySem.W.Frag) (cDomain cNumbers cWords : Addr) : Sp := fun vs H Q _ => ∃ c : Int, vs = [.int c] ∧ bnd c ∧ Q (.str (toString c)) H
def sp_is_whole (K : PySem.W.Frag) (cDomain cNumbers cWords : Addr) : Sp := fun vs H Q _ => ∃ i : Int, vs = [.int i] ∧ Q (.bl true) H
def sp_law_cell (K : PySem.W.Frag) (cDomain cNumbers cWords : Addr) : Sp := fun vs H Q _ => ∃ (a : Addr) (ns : List Int) (k : Int), vs = [.ref a, .int k] ∧ SqL K H a (ns.map V.int) ∧ 0 ≤ k ∧ ∀ r : Int, Q (.int r) H
def sp_law_words (K : PySem.W.Frag) (cDomain cNumbers cWords : Addr) : Sp := fun vs H Q _ => ∃ c : Int, vs = [.int c] ∧ ∀ (l : Addr) (n : Nat) (H' : Hp), Same H H' → H' l = some (.lst ((ws92 c n).map V.str)) → 1 ≤ n → n ≤ 40 → Q (.ref l) H'
def sp_law_text (K : PySem.W.Frag) (cDomain cNumbers cWords : Addr) : Sp := fun vs H Q _ => ∃ z : Str, vs = [.str z, .str z] ∧ Q (.bl true) H
def sp_Domain___init___Words (K : PySem.W.Frag) (cDomain cNumbers cWords : Addr) : Sp := fun vs H Q _ => ∃ (x dx : Addr) (lo hi : Int), vs = [.ref x, .int lo, .int hi] ∧ H x = some (.ins cWords dx []) ∧ Q .non (mkd cWords H x dx lo hi)
def sp_Domain___init___Numbers (K : PySem.W.Frag) (cDomain cNumbers cWords : Addr) : Sp := fun vs H Q _ => ∃ (x dx : Addr) (lo hi : Int), vs = [.ref x, .int lo, .int hi] ∧ H x = some (.ins cNumbers dx []) ∧ Q .non (mkd cNumbers H x dx lo hi)
def sp_Numbers_value_at_Numbers (K : PySem.W.Frag) (cDomain cNumbers cWords : Addr) : Sp := fun vs H Q _ => ∃ (a : Addr) (c : Int), vs = [.ref a, .int c] ∧ Q (.int c) H
def sp_Words_value_at_Words (K : PySem.W.Frag) (cDomain cNumbers cWords : Addr) : Sp := fun vs H Q _ => ∃ (a : Addr) (zs : List Str) (c : Int) (z : Str), vs = [.ref a, .int c] ∧ WrdD cWords H a zs ∧ 0 ≤ c ∧ zs[c.toNat]? = some z ∧ Q (.str z) H
def sp_is_word (K : PySem.W.Frag) (cDomain cNumbers cWords : Addr) : Sp := fun vs H Q _ => ∃ (z : Str), vs = [.str z] ∧ z.length ≤ 1000 ∧ Q (.bl (isw z)) H
def sp_Numbers___init___Numbers (K : PySem.W.Frag) (cDomain cNumbers cWords : Addr) : Sp := fun vs H Q _ => ∃ (x dx : Addr) (lo hi : Int), vs = [.ref x, .int lo, .int hi] ∧ H x = some (.ins cNumbers dx []) ∧ lo ≤ hi ∧ Q .non (mkd cNumbers H x dx lo hi)
def sp_Domain_has_code_Numbers (K : PySem.W.Frag) (cDomain cNumbers cWords : Addr) : Sp := fun vs H Q _ => ∃ (a : Addr) (b : Int × Int) (i : Int), vs = [.ref a, .int i] ∧ DomC cNumbers H a b.1 b.2 ∧ b.1 ≤ i ∧ i ≤ b.2 ∧ Q (.bl true) H
def sp_Domain_has_code_Words (K : PySem.W.Frag) (cDomain cNumbers cWords : Addr) : Sp := fun vs H Q _ => ∃ (a : Addr) (b : Int × Int) (i : Int), vs = [.ref a, .int i] ∧ DomC cWords H a b.1 b.2 ∧ b.1 ≤ i ∧ i ≤ b.2 ∧ Q (.bl true) H
def sp_Words___init___Words (K : PySem.W.Frag) (cDomain cNumbers cWords : Addr) : Sp := fun vs H Q _ => ∃ (x dx p : Addr) (zs : List Str), vs = [.ref x, .ref p] ∧ H x = some (.ins cWords dx []) ∧ H p = some (.lst (zs.map V.str)) ∧ Good zs ∧
  ∀ (H' : Hp) (l : Addr), (∀ b o, b ≠ x → H b = some o → H' b = some o) → H' x = some (.ins cWords dx [("low", .int 0), ("high", .int (hiW zs)), ("words", .ref l)]) → H' l = some (.lst (zs.map V.str)) → Q .non H'
def sp_Domain_worth_Numbers (K : PySem.W.Frag) (cDomain cNumbers cWords : Addr) : Sp := fun vs H Q _ => ∃ (a : Addr) (lo hi c : Int), vs = [.ref a, .int c] ∧ NumD cNumbers H a lo hi ∧ lo ≤ c ∧ c ≤ hi ∧ Q (.int c) H
def sp_Domain_worth_Words (K : PySem.W.Frag) (cDomain cNumbers cWords : Addr) : Sp := fun vs H Q _ => ∃ (a : Addr) (zs : List Str) (c : Int) (z : Str), vs = [.ref a, .int c] ∧ WrdD cWords H a zs ∧ 0 ≤ c ∧ zs[c.toNat]? = some z ∧ Q (.str z) H
def sp_show_value (K : PySem.W.Frag) (cDomain cNumbers cWords : Addr) : Sp := fun vs H Q _ => ∃ (d : Addr) (c : Int) (z : Str), vs = [.ref d, .int c] ∧ Shown cNumbers cWords H d c z ∧ Q (.str z) H
def sp_verdict_text (K : PySem.W.Frag) (cDomain cNumbers cWords : Addr) : Sp := fun vs H Q _ => ∃ (d t : Addr) (x z : Str) (c : Int), vs = [.ref d, .ref t] ∧ H t = some (.tup [.str x, .int c]) ∧ (x = Str.ofString "say" → Shown cNumbers cWords H d c z ∧ z.length ≤ 1000 ∧ Q (.str (Str.ofString "say " ++ z)) H) ∧ (x ≠ Str.ofString "say" → Q (.str x) H)
def sp_law (K : PySem.W.Frag) : Sp := fun vs H Q _ => ∃ (a : Addr) (ns : List Int), vs = [.ref a] ∧ SqL K H a (ns.map V.int) ∧ ns.length ≤ 63 ∧ ∀ H', Q (.bl true) H'
section
variable {P : Program} {w : World} {K : PySem.W.Frag} {mg : Str → Option Value} {base : Heap} {f : Addr} {fd : FuncData} {cDomain cNumbers cWords : Addr}
theorem ok_all_among (F : Fun K "all_among" "all_among" s_all_among f fd) (bl : Bl K mg cDomain cNumbers cWords)  : FnOk P w K mg base CX0 1 f fd ["text", "signs"] (sp_all_among K cDomain cNumbers cWords) := by
  refine F.ok sc_all_among (fun vs H Q E h => ?_) (fun cdv A outer s H vs Q E hr h => ?_)
  · obtain ⟨z, g, rfl, q⟩ := h
    rfl
  obtain ⟨z, g, rfl, q⟩ := h
  refine ⟨_, (pss_cons (ps_for PassesOwn.never rfl (pi_str (pv 0)) (pg_name (i := 2) sc_all_among.nd rfl (Or.inl rfl))
     (pss_one (ps_if (pt_cmpR op_notin_str (pv 2) (pv 1) (by with_unfolding_all rfl))
     (pss_one (ps_ret pe_bl))
     pss_nil)))
     (pss_one (ps_ret pe_bl))), ?_⟩
  refine ⟨_, rfl, z, rfl, for_str (fun i σ H' => (∃ c2 : Option V, σ = [some (.str z), some (.str g), c2]) ∧ H' = H ∧ (z.cps.toList.take i).all (sg g) = true) ⟨⟨_, rfl⟩, rfl, rfl⟩ (fun i c σ H' e h => ?_) (fun σ H' h => ?_)⟩
  · obtain ⟨⟨c2, rfl⟩, e0, ha⟩ := h
    rw [e0]
    refine ⟨_, rfl, _, rfl, _, _, rfl, rfl, _, rfl, ?_⟩
    refine ite2 (fun d => ?_) (fun d => ?_)
    · have z2 : allIn z g = false := all_no e (not_sg d)
      rw [z2] at q; exact q
    · exact ⟨⟨_, rfl⟩, rfl, all_succ e (is_sg d) ha⟩
  · obtain ⟨⟨c2, rfl⟩, e0, ha⟩ := h
    rw [e0]
    rw [all_done ha] at q; exact q
theorem ok_number_text (F : Fun K "number_text" "number_text" s_number_text f fd) (bl : Bl K mg cDomain cNumbers cWords)  : FnOk P w K mg base CX0 1 f fd ["number"] (sp_number_text K cDomain cNumbers cWords) := by
  refine F.ok sc_number_text (fun vs H Q E h => ?_) (fun cdv A outer s H vs Q E hr h => ?_)
  · obtain ⟨c, rfl, hc, q⟩ := h
    rfl
  obtain ⟨c, rfl, hc, q⟩ := h
  refine ⟨_, (pss_one (ps_ret (pe_callTy call_str_int rfl bl.str_ PyProof.Rows.boot_str (pa_cons (pv 0) pa_nil)))), ?_⟩
  exact ⟨_, rfl, c, rfl, log_sm hc, q⟩
theorem ok_is_whole (F : Fun K "is_whole" "is_whole" s_is_whole f fd) (bl : Bl K mg cDomain cNumbers cWords)  : FnOk P w K mg base CX0 1 f fd ["value"] (sp_is_whole K cDomain cNumbers cWords) := by
  refine F.ok sc_is_whole (fun vs H Q E h => ?_) (fun cdv A outer s H vs Q E hr h => ?_)
  · obtain ⟨i, rfl, q⟩ := h
    rfl
  obtain ⟨i, rfl, q⟩ := h
  refine ⟨_, (pss_one (ps_ret (pe_and (pe_callB call_isiG rfl bl.isinstance_ PyProof.Rows.boot_isinstance (pa_cons (pv 0) (pa_cons (pe_bltn (v := .ty "int") rfl bl.int_ PyProof.Rows.boot_int rfl) pa_nil))) (pe_one (pe_not (pe_callB call_isiG rfl bl.isinstance_ PyProof.Rows.boot_isinstance (pa_cons (pv 0) (pa_cons (pe_bltn (v := .ty "bool") rfl bl.bool_ PyProof.Rows.boot_bool rfl) pa_nil)))))))), ?_⟩
  exact ⟨_, rfl, _, _, _, _, true, rfl, .ty _, .inl (.int _), (by first | rfl | with_unfolding_all rfl | decide +kernel), _, rfl, iteT ⟨_, rfl, _, _, _, _, false, rfl, .ty _, .inl (.int _), (by first | rfl | with_unfolding_all rfl | decide +kernel), _, rfl, q⟩⟩
theorem ok_law_cell (F : Fun K "_law_cell" "_law_cell" s_law_cell f fd) (bl : Bl K mg cDomain cNumbers cWords)  : FnOk P w K mg base CX0 1 f fd ["script", "k"] (sp_law_cell K cDomain cNumbers cWords) := by
  refine F.ok sc_law_cell (fun vs H Q E h => ?_) (fun cdv A outer s H vs Q E hr h => ?_)
  · obtain ⟨a, ns, k, rfl, hS, h0, q⟩ := h
    rfl
  obtain ⟨a, ns, k, rfl, hS, h0, q⟩ := h
  refine ⟨_, (pss_cons (ps_if (pt_cmpR op_lt (pv 1) (pe_callB call_len_seq rfl bl.len_ PySem.boot_len (pa_cons (pv 0) pa_nil)) (nomark _))
     (pss_one (ps_ret (pe_ix ix_list (pv 0) (pv 1) (fun _ _ => rfl))))
     pss_nil)
     (pss_one (ps_ret pe_int))), ?_⟩
  refine ⟨_, rfl, _, rfl, a, _, rfl, .inl hS, _, _, rfl, rfl, _, rfl, ?_⟩
  refine ite2 (fun c => ?_) (fun c => ?_)
  · have c' : k < (((ns.map V.int).length : Nat) : Int) := dec_t c
    rw [List.length_map] at c'
    have hk : k.toNat < ns.length := by omega
    have hv : atI (ns.map V.int) k = some (.int ns[k.toNat]) := by
      have z : atI (ns.map V.int) ((k.toNat : Nat) : Int) = some (.int ns[k.toNat]) := atI_nat (by rw [List.getElem?_map, List.getElem?_eq_getElem hk]; rfl)
      rw [show ((k.toNat : Nat) : Int) = k by omega] at z
      exact z
    exact ⟨_, rfl, _, rfl, a, _, _, _, rfl, rfl, hS, hv, q _⟩
  · exact q 0
theorem ok_law_words (F : Fun K "_law_words" "_law_words" s_law_words f fd) (bl : Bl K mg cDomain cNumbers cWords)  : FnOk P w K mg base CX0 1 f fd ["cell"] (sp_law_words K cDomain cNumbers cWords) := by
  refine F.ok sc_law_words (fun vs H Q E h => ?_) (fun cdv A outer s H vs Q E hr h => ?_)
  · obtain ⟨c, rfl, q⟩ := h
    rfl
  obtain ⟨c, rfl, q⟩ := h
  refine ⟨_, (pss_cons (ps_set (i := 1) sc_law_words.nd rfl (Or.inl rfl) (pe_op op_add pe_int (pe_op op_mod (pe_op op_fdiv (pv 0) pe_int) pe_int)))
     (pss_cons (ps_set (i := 2) sc_law_words.nd rfl (Or.inl rfl) pe_str)
     (pss_cons (ps_set (i := 3) sc_law_words.nd rfl (Or.inl rfl) (pe_lst pa_nil))
     (pss_cons (ps_for PassesOwn.never rfl (pi_range1 rfl bl.range_ (pa_cons (pv 1) pa_nil)) (pg_name (i := 4) sc_law_words.nd rfl (Or.inl rfl))
     (pss_cut (ps_set (i := 5) sc_law_words.nd rfl (Or.inl rfl) (pe_op op_add_str (pe_ix ix_str (pv 2) (pe_op op_mod (pv 4) pe_int) (fun _ _ => rfl)) (pe_ix ix_str (pv 2) (pe_op op_mod (pe_op op_add (pe_op op_fdiv (pv 4) pe_int) (pe_op op_fdiv (pv 0) pe_int)) pe_int) (fun _ _ => rfl))))
     (pss_one (ps_expr (pe_bm PySem.F.plainAttrs_list PySem.F.slot_list_append PySem.F.type_list_append mt_append (pv 3) (pa_cons (pe_op op_add_str (pe_slice sl_str pe_str po_none (po_some (pe_op op_mod (pe_op op_fdiv (pv 0) pe_int) pe_int))) (pv 5)) pa_nil))))))
     (pss_one (ps_ret (pv 3))))))), ?_⟩
  have c0 := Int.emod_nonneg (c / 2) (show (40 : Int) ≠ 0 by decide)
  have c1 := Int.emod_lt_of_pos (c / 2) (show (0 : Int) < 40 by decide)
  have t0 := Int.emod_nonneg (c / 80) (show (4 : Int) ≠ 0 by decide)
  have t1 := Int.emod_lt_of_pos (c / 80) (show (0 : Int) < 4 by decide)
  refine ⟨_, rfl, _, _, rfl, rfl, ⟨by decide, by decide⟩, _, _, rfl, rfl, (by show (0 : Int) < 40; decide), _, _, rfl, rfl, ?_⟩
  refine ⟨(by show 0 ≤ sizeLine; decide), fun l hl => ?_⟩
  have s0 : Same H (upd H l (.lst ((ws92 c 0).map V.str))) := same_new hl _
  have e0 : upd H l (.lst ((ws92 c 0).map V.str)) l = some (.lst ((ws92 c 0).map V.str)) := upd_same
  have ee : upd H l (.lst []) = upd H l (.lst ((ws92 c 0).map V.str)) := rfl
  rw [ee]
  generalize upd H l (.lst ((ws92 c 0).map V.str)) = H0 at s0 e0 ⊢
  clear ee
  have o1 : ∀ x : Nat, (⟨#[x]⟩ : Str).length = 1 := fun _ => rfl
  refine ⟨_, rfl, _, rfl, (by show -(2 ^ 62) ≤ 1 + c / 2 % 40; omega), (by show 1 + c / 2 % 40 < 2 ^ 62; omega), for_range (fun i σ H' => Same H H' ∧ H' l = some (.lst ((ws92 c i).map V.str)) ∧ ∃ c4 c5 : Option V, σ = [some (.int c), some (.int (1 + c / 2 % 40)), some (.str (Str.ofString "abcdefgh")), some (.ref l), c4, c5]) ⟨s0, e0, _, _, rfl⟩ (fun i σ H' hi h => ?_) (fun σ H' h => ?_)⟩
  · obtain ⟨sm, el, c4, c5, rfl⟩ := h
    have hi40 : i < 40 := by omega
    have a0 := Int.emod_nonneg (0 + (i : Int)) (show (8 : Int) ≠ 0 by decide)
    have a1 := Int.emod_lt_of_pos (0 + (i : Int)) (show (0 : Int) < 8 by decide)
    have b0 := Int.emod_nonneg ((0 + (i : Int)) / 8 + c / 80) (show (8 : Int) ≠ 0 by decide)
    have b1 := Int.emod_lt_of_pos ((0 + (i : Int)) / 8 + c / 80) (show (0 : Int) < 8 by decide)
    refine ⟨fun σ' H2 => H2 = H' ∧ σ' = [some (.int c), some (.int (1 + c / 2 % 40)), some (.str (Str.ofString "abcdefgh")), some (.ref l), some (.int (0 + (i : Int))), some (.str ⟨(l2w c (0 + (i : Int))).toArray⟩)], ?_, ?_⟩
    · refine ⟨_, rfl, _, rfl, _, _, rfl, rfl, (by show (0 : Int) < 8; decide), _, _, _, rfl, rfl, (by decide), lets_at abc8 a0 a1, _, rfl, _, rfl, _, _, rfl, rfl, ⟨by decide, by decide⟩, _, rfl, _, _, rfl, rfl, ⟨by decide, by decide⟩, _, _, rfl, rfl, _, _, rfl, rfl, (by show (0 : Int) < 8; decide), _, _, _, rfl, rfl, (by decide), lets_at abc8 b0 b1, _, _, rfl, rfl, big (by rw [o1, o1]; decide), rfl, ?_⟩
      rfl
    rintro σa Ha ⟨rfl, rfl⟩
    have hpl : (⟨(pz (c / 80 % 4)).toArray⟩ : Str).length ≤ 3 := by
      unfold pz
      simp [Str.length]
      omega
    refine ⟨_, rfl, .inl ⟨rfl, _, SqL.of el⟩, _, rfl, _, _, rfl, rfl, ⟨by decide, by decide⟩, _, _, rfl, rfl, (by show (0 : Int) < 4; decide), _, rfl, _, rfl, (by decide), ?_⟩
    rw [pz_slice t0 t1]
    have ew : (⟨(pz (c / 80 % 4)).toArray⟩ : Str) ++ (⟨(l2w c (0 + (i : Int))).toArray⟩ : Str) = w92 c (0 + (i : Int)) := by
      show Str.append _ _ = _
      unfold Str.append w92
      simp
    have h2l : (⟨(l2w c (0 + (i : Int))).toArray⟩ : Str).length = 2 := rfl
    refine ⟨_, rfl, _, _, rfl, rfl, big (by rw [h2l]; omega), ?_⟩
    rw [ew]
    refine ⟨l, _, _, rfl, rfl, el, small1000 (by rw [List.length_map, ws92_len]; omega), sm.upd hl, ?_, _, _, rfl⟩
    rw [upd_same, ws92_succ, List.map_append]
    rfl
  · obtain ⟨sm, el, c4, c5, rfl⟩ := h
    exact ⟨_, rfl, q l _ H' sm el (by omega) (by omega)⟩
theorem ok_law_text (F : Fun K "_law_text" "_law_text" s_law_text f fd) (bl : Bl K mg cDomain cNumbers cWords)  : FnOk P w K mg base CX0 1 f fd ["found", "due"] (sp_law_text K cDomain cNumbers cWords) := by
  refine F.ok sc_law_text (fun vs H Q E h => ?_) (fun cdv A outer s H vs Q E hr h => ?_)
  · obtain ⟨z, rfl, q⟩ := h
    rfl
  obtain ⟨z, rfl, q⟩ := h
  refine ⟨_, (pss_one (ps_ret (pe_and (pe_callB call_isiG rfl bl.isinstance_ PyProof.Rows.boot_isinstance (pa_cons (pv 0) (pa_cons (pe_bltn (v := .ty "str") rfl bl.str_ PyProof.Rows.boot_str rfl) pa_nil))) (pe_one (pe_cmpR op_eq (pv 0) (pv 1) (nomark _)))))), ?_⟩
  refine ⟨_, rfl, _, _, _, _, true, rfl, .ty _, .inl (.str _), (by first | rfl | with_unfolding_all rfl | decide +kernel), _, rfl, iteT ?_⟩
  refine ⟨_, rfl, _, rfl, rfl, ?_⟩
  rw [decide_eq_true rfl]
  exact q
theorem ok_Domain___init___Words (F : Fun K "__init__" "Domain.__init__" s_Domain___init___Words f fd) (bl : Bl K mg cDomain cNumbers cWords)  : FnOk P w K mg base CX0 1 f fd ["self", "low", "high"] (sp_Domain___init___Words K cDomain cNumbers cWords) := by
  refine F.ok sc_Domain___init___Words (fun vs H Q E h => ?_) (fun cdv A outer s H vs Q E hr h => ?_)
  · obtain ⟨x, dx, lo, hi, rfl, hx, q⟩ := h
    rfl
  obtain ⟨x, dx, lo, hi, rfl, hx, q⟩ := h
  refine ⟨_, (pss_cons (ps_fld (pv 0) (pv 1) rfl)
     (pss_one (ps_fld (pv 0) (pv 2) rfl))), ?_⟩
  refine ⟨_, rfl, _, rfl, x, _, dx, _, rfl, hx, bl.k_Words, bl.na_Words_low, (by show 0 < 1000; decide), _, rfl, _, rfl, x, _, dx, _, rfl, upd_same, bl.k_Words, bl.na_Words_high, (by show 1 < 1000; decide), ?_⟩
  show Q .non (upd (upd H x (.ins cWords dx [("low", .int lo)])) x (.ins cWords dx (putF "high" (.int hi) [("low", .int lo)])))
  rw [put2]
  exact q
theorem ok_Domain___init___Numbers (F : Fun K "__init__" "Domain.__init__" s_Domain___init___Numbers f fd) (bl : Bl K mg cDomain cNumbers cWords)  : FnOk P w K mg base CX0 1 f fd ["self", "low", "high"] (sp_Domain___init___Numbers K cDomain cNumbers cWords) := by
  refine F.ok sc_Domain___init___Numbers (fun vs H Q E h => ?_) (fun cdv A outer s H vs Q E hr h => ?_)
  · obtain ⟨x, dx, lo, hi, rfl, hx, q⟩ := h
    rfl
  obtain ⟨x, dx, lo, hi, rfl, hx, q⟩ := h
  refine ⟨_, (pss_cons (ps_fld (pv 0) (pv 1) rfl)
     (pss_one (ps_fld (pv 0) (pv 2) rfl))), ?_⟩
  refine ⟨_, rfl, _, rfl, x, _, dx, _, rfl, hx, bl.k_Numbers, bl.na_Numbers_low, (by show 0 < 1000; decide), _, rfl, _, rfl, x, _, dx, _, rfl, upd_same, bl.k_Numbers, bl.na_Numbers_high, (by show 1 < 1000; decide), ?_⟩
  show Q .non (upd (upd H x (.ins cNumbers dx [("low", .int lo)])) x (.ins cNumbers dx (putF "high" (.int hi) [("low", .int lo)])))
  rw [put2]
  exact q
theorem ok_Numbers_value_at_Numbers (F : Fun K "value_at" "Numbers.value_at" s_Numbers_value_at_Numbers f fd) (bl : Bl K mg cDomain cNumbers cWords)  : FnOk P w K mg base CX0 1 f fd ["self", "code"] (sp_Numbers_value_at_Numbers K cDomain cNumbers cWords) := by
  refine F.ok sc_Numbers_value_at_Numbers (fun vs H Q E h => ?_) (fun cdv A outer s H vs Q E hr h => ?_)
  · obtain ⟨a, c, rfl, q⟩ := h
    rfl
  obtain ⟨a, c, rfl, q⟩ := h
  refine ⟨_, (pss_one (ps_ret (pv 1))), ?_⟩
  exact ⟨_, rfl, q⟩
theorem ok_Words_value_at_Words (F : Fun K "value_at" "Words.value_at" s_Words_value_at_Words f fd) (bl : Bl K mg cDomain cNumbers cWords)  : FnOk P w K mg base CX0 1 f fd ["self", "code"] (sp_Words_value_at_Words K cDomain cNumbers cWords) := by
  refine F.ok sc_Words_value_at_Words (fun vs H Q E h => ?_) (fun cdv A outer s H vs Q E hr h => ?_)
  · obtain ⟨a, zs, c, z, rfl, ⟨dx, l, ha, hl⟩, h0, hz, q⟩ := h
    rfl
  obtain ⟨a, zs, c, z, rfl, ⟨dx, l, ha, hl⟩, h0, hz, q⟩ := h
  refine ⟨_, (pss_one (ps_ret (pe_ix ix_list (pe_fld (pv 0) rfl) (pv 1) (fun _ _ => rfl)))), ?_⟩
  have e : atI (zs.map V.str) c = some (.str z) := by
    have q : atI (zs.map V.str) ((c.toNat : Nat) : Int) = some (.str z) := atI_nat (by rw [List.getElem?_map, hz]; rfl)
    rw [show ((c.toNat : Nat) : Int) = c by omega] at q
    exact q
  exact ⟨_, rfl, a, _, _, _, _, rfl, ha, bl.k_Words, bl.na_Words_words, rfl, _, rfl, l, _, _, _, rfl, rfl, SqL.of hl, e, q⟩
theorem ok_is_word (F : Fun K "is_word" "is_word" s_is_word f fd) (bl : Bl K mg cDomain cNumbers cWords) (c_all_among : Callee P w K mg base 1 "all_among" ["text", "signs"] (sp_all_among K cDomain cNumbers cWords)) : FnOk P w K mg base CX0 2 f fd ["text"] (sp_is_word K cDomain cNumbers cWords) := by
  refine F.ok sc_is_word (fun vs H Q E h => ?_) (fun cdv A outer s H vs Q E hr h => ?_)
  · obtain ⟨z, rfl, hz, q⟩ := h
    rfl
  obtain ⟨z, rfl, hz, q⟩ := h
  refine ⟨_, (pss_one (ps_ret (pe_and (pe_chain op_le op_le pe_int (pe_callB call_len_str rfl bl.len_ PySem.boot_len (pa_cons (pv 0) pa_nil)) (pe_gl rfl bl.MOST_SIGNS_)) (pe_and (pe_cmpR op_ne (pv 0) pe_str (nomark _)) (pe_one (pe_fn c_all_among hr rfl (pa_cons (pv 0) (pa_cons (pe_gl rfl bl.SMALL_LETTERS_) pa_nil)))))))), ?_⟩
  refine ⟨_, rfl, _, rfl, big hz, _, _, rfl, rfl, _, rfl, ?_⟩
  refine ite2 (fun g1 => ?_) (fun g1 => ?_)
  · refine ⟨_, _, rfl, rfl, _, rfl, ?_⟩
    refine ite2 (fun g2 => ?_) (fun g2 => ?_)
    · refine ⟨_, rfl, rfl, _, rfl, ?_⟩
      refine ite2 (fun g3 => ?_) (fun g3 => ?_)
      · refine ⟨_, rfl, z, lets, rfl, ?_⟩
        have e : isw z = allIn z lets := by unfold isw; rw [g1, g2, g3]; rfl
        rw [e] at q; exact q
      · have e : isw z = false := by unfold isw; rw [Bool.eq_false_iff.mpr g3, Bool.false_and, Bool.and_false, Bool.and_false]
        rw [e] at q; exact q
    · have e : isw z = false := by unfold isw; rw [Bool.eq_false_iff.mpr g2, Bool.false_and, Bool.and_false]
      rw [e] at q; exact q
  · have e : isw z = false := by unfold isw; rw [Bool.eq_false_iff.mpr g1, Bool.false_and]
    rw [e] at q; exact ⟨_, rfl, iteF q⟩
theorem ok_Numbers___init___Numbers (F : Fun K "__init__" "Numbers.__init__" s_Numbers___init___Numbers f fd) (bl : Bl K mg cDomain cNumbers cWords) (b_Domain___init___Numbers : BCallee CX0 P w K mg base 1 "Domain" "__init__" ["self", "low", "high"] (sp_Domain___init___Numbers K cDomain cNumbers cWords)) : FnOk P w K mg base CX0 2 f fd ["self", "low", "high"] (sp_Numbers___init___Numbers K cDomain cNumbers cWords) := by
  refine F.ok sc_Numbers___init___Numbers (fun vs H Q E h => ?_) (fun cdv A outer s H vs Q E hr h => ?_)
  · obtain ⟨x, dx, lo, hi, rfl, hx, hle, q⟩ := h
    rfl
  obtain ⟨x, dx, lo, hi, rfl, hx, hle, q⟩ := h
  refine ⟨_, (pss_cons (ps_if (pt_cmpR op_gt (pv 1) (pv 2) (nomark _))
     (pss_one ps_never)
     pss_nil)
     (pss_one (ps_expr (pe_base b_Domain___init___Numbers pass0 hr rfl (pa_cons (pv 0) (pa_cons (pv 1) (pa_cons (pv 2) pa_nil))))))), ?_⟩
  exact ⟨_, rfl, _, rfl, _, _, rfl, rfl, _, rfl, iteFS (by omega) ⟨_, rfl, _, rfl, _, rfl, x, dx, lo, hi, rfl, hx, q⟩⟩
theorem ok_Domain_has_code_Numbers (F : Fun K "has_code" "Domain.has_code" s_Domain_has_code_Numbers f fd) (bl : Bl K mg cDomain cNumbers cWords) (c_is_whole : Callee P w K mg base 1 "is_whole" ["value"] (sp_is_whole K cDomain cNumbers cWords)) : FnOk P w K mg base CX0 2 f fd ["self", "value"] (sp_Domain_has_code_Numbers K cDomain cNumbers cWords) := by
  refine F.ok sc_Domain_has_code_Numbers (fun vs H Q E h => ?_) (fun cdv A outer s H vs Q E hr h => ?_)
  · obtain ⟨a, b, i, rfl, ⟨dx, fs, ha, hl, hh, _⟩, h1, h2, q⟩ := h
    rfl
  obtain ⟨a, b, i, rfl, ⟨dx, fs, ha, hl, hh, _⟩, h1, h2, q⟩ := h
  refine ⟨_, (pss_one (ps_ret (pe_and (pe_fn c_is_whole hr rfl (pa_cons (pv 1) pa_nil)) (pe_one (pe_chain op_le op_le (pe_fld (pv 0) rfl) (pv 1) (pe_fld (pv 0) rfl)))))), ?_⟩
  refine ⟨_, rfl, i, rfl, _, rfl, iteT ?_⟩
  refine ⟨_, rfl, a, _, _, _, _, rfl, ha, bl.k_Numbers, bl.na_Numbers_low, hl, _, rfl, _, _, rfl, rfl, _, rfl, iteTS h1 ?_⟩
  refine ⟨_, rfl, a, _, _, _, _, rfl, ha, bl.k_Numbers, bl.na_Numbers_high, hh, _, _, rfl, rfl, ?_⟩
  show Q (.bl (decide (i ≤ b.2))) H
  rw [decide_eq_true h2]
  exact q
theorem ok_Domain_has_code_Words (F : Fun K "has_code" "Domain.has_code" s_Domain_has_code_Words f fd) (bl : Bl K mg cDomain cNumbers cWords) (c_is_whole : Callee P w K mg base 1 "is_whole" ["value"] (sp_is_whole K cDomain cNumbers cWords)) : FnOk P w K mg base CX0 2 f fd ["self", "value"] (sp_Domain_has_code_Words K cDomain cNumbers cWords) := by
  refine F.ok sc_Domain_has_code_Words (fun vs H Q E h => ?_) (fun cdv A outer s H vs Q E hr h => ?_)
  · obtain ⟨a, b, i, rfl, ⟨dx, fs, ha, hl, hh, _⟩, h1, h2, q⟩ := h
    rfl
  obtain ⟨a, b, i, rfl, ⟨dx, fs, ha, hl, hh, _⟩, h1, h2, q⟩ := h
  refine ⟨_, (pss_one (ps_ret (pe_and (pe_fn c_is_whole hr rfl (pa_cons (pv 1) pa_nil)) (pe_one (pe_chain op_le op_le (pe_fld (pv 0) rfl) (pv 1) (pe_fld (pv 0) rfl)))))), ?_⟩
  refine ⟨_, rfl, i, rfl, _, rfl, iteT ?_⟩
  refine ⟨_, rfl, a, _, _, _, _, rfl, ha, bl.k_Words, bl.na_Words_low, hl, _, rfl, _, _, rfl, rfl, _, rfl, iteTS h1 ?_⟩
  refine ⟨_, rfl, a, _, _, _, _, rfl, ha, bl.k_Words, bl.na_Words_high, hh, _, _, rfl, rfl, ?_⟩
  show Q (.bl (decide (i ≤ b.2))) H
  rw [decide_eq_true h2]
  exact q
theorem ok_Words___init___Words (F : Fun K "__init__" "Words.__init__" s_Words___init___Words f fd) (bl : Bl K mg cDomain cNumbers cWords) (b_Domain___init___Words : BCallee CX0 P w K mg base 2 "Domain" "__init__" ["self", "low", "high"] (sp_Domain___init___Words K cDomain cNumbers cWords)) (c_is_word : Callee P w K mg base 2 "is_word" ["text"] (sp_is_word K cDomain cNumbers cWords)) : FnOk P w K mg base CX0 3 f fd ["self", "words"] (sp_Words___init___Words K cDomain cNumbers cWords) := by
  refine F.ok sc_Words___init___Words (fun vs H Q E h => ?_) (fun cdv A outer s H vs Q E hr h => ?_)
  · obtain ⟨x, dx, p, zs, rfl, hx, hP, hg, q⟩ := h
    rfl
  obtain ⟨x, dx, p, zs, rfl, hx, hP, hg, q⟩ := h
  refine ⟨_, (pss_cons (ps_if (pt_not (pt_chain op_le op_le pe_int (pe_callB call_len_seq rfl bl.len_ PySem.boot_len (pa_cons (pv 1) pa_nil)) (pe_gl rfl bl.MOST_WORDS_)))
     (pss_one ps_never)
     pss_nil)
     (pss_cut (ps_for PassesOwn.never rfl (pi_list (pv 1)) (pg_name (i := 2) sc_Words___init___Words.nd rfl (Or.inl rfl))
     (pss_one (ps_if (pt_not (pt_val (pe_fn c_is_word hr rfl (pa_cons (pv 2) pa_nil))))
     (pss_one ps_never)
     pss_nil)))
     (pss_cons (ps_if (pt_cmpR op_lt (pe_callB call_len_setO rfl bl.len_ PySem.boot_len (pa_cons (pe_callTy (call_set_strs rfl) rfl bl.set_ PyProof.Rows.boot_set (pa_cons (pv 1) pa_nil)) pa_nil)) (pe_callB call_len_seq rfl bl.len_ PySem.boot_len (pa_cons (pv 1) pa_nil)) (nomark _))
     (pss_one ps_never)
     pss_nil)
     (pss_cons (ps_expr (pe_base b_Domain___init___Words pass0 hr rfl (pa_cons (pv 0) (pa_cons pe_int (pa_cons (pe_op op_sub (pe_callB call_len_seq rfl bl.len_ PySem.boot_len (pa_cons (pv 1) pa_nil)) pe_int) pa_nil)))))
     (pss_one (ps_fld (pv 0) (pe_callTy call_list_of rfl bl.list_ PyProof.Rows.boot_list (pa_cons (pv 1) pa_nil)) rfl)))))), ?_⟩
  have hS : SqL K H p (zs.map V.str) := SqL.of hP
  have hpx : p ≠ x := ne_of hP hx (by intro z; cases z)
  have hlen : (zs.map V.str).length = zs.length := List.length_map _
  have h1 := hg.some_
  have h40 := hg.few
  refine ⟨_, rfl, p, _, rfl, .inl hS, _, _, rfl, rfl, _, rfl, iteTS (by rw [hlen]; omega) ?_⟩
  refine ⟨_, _, rfl, rfl, _, rfl, ?_⟩
  rw [decide_eq_true (show (((zs.map V.str).length : Nat) : Int) ≤ 40 by rw [hlen]; omega)]
  refine iteF ?_
  refine ⟨fun σ' H' => H' = H ∧ ∃ c2 : Option V, σ' = [some (.ref x), some (.ref p), c2], ?_, ?_⟩
  · refine ⟨_, rfl, p, rfl, ⟨_, hS⟩, for_list (xs := zs.map V.str) (fun i σ H' => H' = H ∧ ∃ c2 : Option V, σ = [some (.ref x), some (.ref p), c2]) ⟨rfl, _, rfl⟩ (fun i σ H' _ h => by rw [h.1]; exact hS) (fun i y σ H' e h => ?_) (fun σ H' h => h)⟩
    obtain ⟨e0, c2, rfl⟩ := h
    rw [e0]
    obtain ⟨z, rfl, ez⟩ := get_strs e
    have hw := hg.words z (List.mem_of_getElem? ez)
    have hz : z.length ≤ 1000 := by
      have hw2 := hw
      unfold isw at hw2
      simp only [Bool.and_eq_true, decide_eq_true_eq] at hw2
      omega
    refine ⟨_, rfl, z, rfl, hz, _, rfl, ?_⟩
    rw [hw]
    exact iteF ⟨rfl, _, rfl⟩
  rintro σ2 H2 ⟨e2, c2, rfl⟩
  rw [e2]
  refine ⟨_, rfl, p, zs, rfl, hS, by omega, fun l hl => ⟨l, zs, rfl, upd_same, by omega, _, rfl, p, _, rfl, .inl ((same_new hl _).seq hS), _, _, rfl, rfl, _, rfl, ?_⟩⟩
  have s1 := same_new hl (SetO P w l zs)
  have cf := cntK_full zs zs.length (Nat.le_refl _)
  rw [List.take_length] at cf
  refine iteFS (by rw [hlen, cf.mpr hg.once]; omega) ?_
  have hx1 := s1 _ _ hx
  have hP1 := s1 _ _ hP
  refine ⟨_, rfl, _, rfl, p, _, rfl, .inl (SqL.of hP1), _, _, rfl, rfl, x, dx, 0, _, rfl, hx1, ?_⟩
  have e1 : mkd cWords (upd H l (SetO P w l zs)) x dx 0 ((((zs.map V.str).length : Nat) : Int) - 1) x = some (.ins cWords dx [("low", .int 0), ("high", .int ((((zs.map V.str).length : Nat) : Int) - 1))]) := upd_same
  have e2 : mkd cWords (upd H l (SetO P w l zs)) x dx 0 ((((zs.map V.str).length : Nat) : Int) - 1) p = some (.lst (zs.map V.str)) := by unfold mkd; rw [upd_ne hpx, upd_ne hpx]; exact hP1
  have e3 : ∀ b o, b ≠ x → H b = some o → mkd cWords (upd H l (SetO P w l zs)) x dx 0 ((((zs.map V.str).length : Nat) : Int) - 1) b = some o := fun b o hb h => by unfold mkd; rw [upd_ne hb, upd_ne hb]; exact s1 b o h
  have eh : (((zs.map V.str).length : Nat) : Int) - 1 = hiW zs := by rw [hlen]; rfl
  refine ⟨_, rfl, p, _, rfl, .inl (SqL.of e2), fun l2 hl2 => ⟨_, rfl, x, _, dx, _, rfl, ret_r1 e1 hl2, bl.k_Words, bl.na_Words_words, (by show 2 < 1000; decide), ?_⟩⟩
  show Q .non (upd (upd (mkd cWords (upd H l (SetO P w l zs)) x dx 0 ((((zs.map V.str).length : Nat) : Int) - 1)) l2 (.lst (zs.map V.str))) x (.ins cWords dx (putF (Str.ofString "words") (.ref l2) [(Str.ofString "low", .int 0), (Str.ofString "high", .int ((((zs.map V.str).length : Nat) : Int) - 1))])))
  rw [put3]
  have hl3 : mkd cWords (upd H l (SetO P w l zs)) x dx 0 ((((zs.map V.str).length : Nat) : Int) - 1) l2 = none := hl2
  clear hl2
  generalize mkd cWords (upd H l (SetO P w l zs)) x dx 0 ((((zs.map V.str).length : Nat) : Int) - 1) = H2 at e1 e2 e3 hl3 ⊢
  rw [eh]
  exact q _ l2 (fun b o hb h => (upd_ne hb).trans (ret_r1 (e3 b o hb h) hl3)) upd_same ((upd_ne (ne_of_none e1 hl3).symm).trans upd_same)
theorem ok_Domain_worth_Numbers (F : Fun K "worth" "Domain.worth" s_Domain_worth_Numbers f fd) (bl : Bl K mg cDomain cNumbers cWords) (m_Numbers_value_at_Numbers : MCallee CX0 P w K mg base 2 cNumbers "value_at" ["self", "code"] (sp_Numbers_value_at_Numbers K cDomain cNumbers cWords)) (m_Domain_has_code_Numbers : MCallee CX0 P w K mg base 2 cNumbers "has_code" ["self", "value"] (sp_Domain_has_code_Numbers K cDomain cNumbers cWords)) : FnOk P w K mg base CX0 3 f fd ["self", "code"] (sp_Domain_worth_Numbers K cDomain cNumbers cWords) := by
  refine F.ok sc_Domain_worth_Numbers (fun vs H Q E h => ?_) (fun cdv A outer s H vs Q E hr h => ?_)
  · obtain ⟨a, lo, hi, c, rfl, ⟨dx, ha⟩, h1, h2, q⟩ := h
    rfl
  obtain ⟨a, lo, hi, c, rfl, ⟨dx, ha⟩, h1, h2, q⟩ := h
  refine ⟨_, (pss_cons (ps_if (pt_not (pt_val (pe_mt m_Domain_has_code_Numbers pass0 bl.k_Numbers hr (pv 0) (pa_cons (pv 1) pa_nil))))
     (pss_one ps_never)
     pss_nil)
     (pss_one (ps_ret (pe_mt m_Numbers_value_at_Numbers pass0 bl.k_Numbers hr (pv 0) (pa_cons (pv 1) pa_nil))))), ?_⟩
  refine ⟨_, rfl, a, _, _, rfl, ha, rfl, _, rfl, a, (lo, hi), c, rfl, ⟨dx, _, ha, rfl, rfl, rfl⟩, h1, h2, _, rfl, iteF ?_⟩
  exact ⟨_, rfl, a, _, _, rfl, ha, rfl, _, rfl, a, c, rfl, q⟩
theorem ok_Domain_worth_Words (F : Fun K "worth" "Domain.worth" s_Domain_worth_Words f fd) (bl : Bl K mg cDomain cNumbers cWords) (m_Words_value_at_Words : MCallee CX0 P w K mg base 2 cWords "value_at" ["self", "code"] (sp_Words_value_at_Words K cDomain cNumbers cWords)) (m_Domain_has_code_Words : MCallee CX0 P w K mg base 2 cWords "has_code" ["self", "value"] (sp_Domain_has_code_Words K cDomain cNumbers cWords)) : FnOk P w K mg base CX0 3 f fd ["self", "code"] (sp_Domain_worth_Words K cDomain cNumbers cWords) := by
  refine F.ok sc_Domain_worth_Words (fun vs H Q E h => ?_) (fun cdv A outer s H vs Q E hr h => ?_)
  · obtain ⟨a, zs, c, z, rfl, hW, h0, hz, q⟩ := h
    rfl
  obtain ⟨a, zs, c, z, rfl, hW, h0, hz, q⟩ := h
  refine ⟨_, (pss_cons (ps_if (pt_not (pt_val (pe_mt m_Domain_has_code_Words pass0 bl.k_Words hr (pv 0) (pa_cons (pv 1) pa_nil))))
     (pss_one ps_never)
     pss_nil)
     (pss_one (ps_ret (pe_mt m_Words_value_at_Words pass0 bl.k_Words hr (pv 0) (pa_cons (pv 1) pa_nil))))), ?_⟩
  obtain ⟨dx, l, ha, hl⟩ := id hW
  have hlt := (List.getElem?_eq_some_iff.mp hz).1
  refine ⟨_, rfl, a, _, _, rfl, ha, rfl, _, rfl, a, (0, hiW zs), c, rfl, ⟨dx, _, ha, rfl, rfl, rfl⟩, h0, (by unfold hiW; omega), _, rfl, iteF ?_⟩
  exact ⟨_, rfl, a, _, _, rfl, ha, rfl, _, rfl, a, zs, c, z, rfl, hW, h0, hz, q⟩
theorem ok_show_value (F : Fun K "show_value" "show_value" s_show_value f fd) (bl : Bl K mg cDomain cNumbers cWords) (c_number_text : Callee P w K mg base 3 "number_text" ["number"] (sp_number_text K cDomain cNumbers cWords)) (m_Domain_worth_Numbers : MCallee CX0 P w K mg base 3 cNumbers "worth" ["self", "code"] (sp_Domain_worth_Numbers K cDomain cNumbers cWords)) (m_Domain_worth_Words : MCallee CX0 P w K mg base 3 cWords "worth" ["self", "code"] (sp_Domain_worth_Words K cDomain cNumbers cWords)) : FnOk P w K mg base CX0 4 f fd ["domain", "code"] (sp_show_value K cDomain cNumbers cWords) := by
  refine F.ok sc_show_value (fun vs H Q E h => ?_) (fun cdv A outer s H vs Q E hr h => ?_)
  · obtain ⟨d, c, z, rfl, hsh, q⟩ := h
    rfl
  obtain ⟨d, c, z, rfl, hsh, q⟩ := h
  refine ⟨_, (pss_cons (ps_if (pt_val (pe_callB call_isiG rfl bl.isinstance_ PyProof.Rows.boot_isinstance (pa_cons (pv 0) (pa_cons (pe_glob (v := .ref cWords) rfl bl.Words_ rfl) pa_nil))))
     (pss_one (ps_ret (pe_mtP (polc m_Domain_worth_Numbers bl.k_Numbers (polc m_Domain_worth_Words bl.k_Words poln)) pass0 hr (pv 0) (pa_cons (pv 1) pa_nil))))
     pss_nil)
     (pss_one (ps_ret (pe_fn c_number_text hr rfl (pa_cons (pe_mtP (polc m_Domain_worth_Numbers bl.k_Numbers (polc m_Domain_worth_Words bl.k_Words poln)) pass0 hr (pv 0) (pa_cons (pv 1) pa_nil)) pa_nil))))), ?_⟩
  rcases hsh with ⟨lo, hi, hN, h1, h2, hb, rfl⟩ | ⟨zs, hW, h0, hz⟩
  · obtain ⟨dx, ha⟩ := id hN
    refine ⟨_, rfl, _, _, _, _, false, rfl, .ref _, bl.t_Numbers.ty ha, bl.f_nw, _, rfl, iteF ?_⟩
    refine ⟨_, rfl, d, _, dx, _, rfl, .head _, ha, rfl, _, rfl, d, lo, hi, c, rfl, hN, h1, h2, c, rfl, hb, q⟩
  · obtain ⟨dx, l, ha, hl⟩ := id hW
    refine ⟨_, rfl, _, _, _, _, true, rfl, .ref _, bl.t_Words.ty ha, bl.f_ww, _, rfl, iteT ?_⟩
    exact ⟨_, rfl, d, _, dx, _, rfl, .tail _ (.head _), ha, rfl, _, rfl, d, zs, c, z, rfl, hW, h0, hz, q⟩
theorem ok_verdict_text (F : Fun K "verdict_text" "verdict_text" s_verdict_text f fd) (bl : Bl K mg cDomain cNumbers cWords) (c_show_value : Callee P w K mg base 4 "show_value" ["domain", "code"] (sp_show_value K cDomain cNumbers cWords)) : FnOk P w K mg base CX0 5 f fd ["outcome", "verdict"] (sp_verdict_text K cDomain cNumbers cWords) := by
  refine F.ok sc_verdict_text (fun vs H Q E h => ?_) (fun cdv A outer s H vs Q E hr h => ?_)
  · obtain ⟨d, t, x, z, c, rfl, ht, q1, q2⟩ := h
    rfl
  obtain ⟨d, t, x, z, c, rfl, ht, q1, q2⟩ := h
  refine ⟨_, (pss_cons (ps_if (pt_cmpR op_eq (pe_ix ix_tup (pv 1) pe_int (fun _ _ => rfl)) pe_str (nomark _))
     (pss_one (ps_ret (pe_op op_add_str pe_str (pe_fn c_show_value hr rfl (pa_cons (pv 0) (pa_cons (pe_ix ix_tup (pv 1) pe_int (fun _ _ => rfl)) pa_nil))))))
     pss_nil)
     (pss_one (ps_ret (pe_ix ix_tup (pv 1) pe_int (fun _ _ => rfl))))), ?_⟩
  refine ⟨_, rfl, t, _, _, _, rfl, rfl, SqT.of ht, rfl, rfl, _, rfl, ?_⟩
  refine ite2 (fun g => ?_) (fun g => ?_)
  · have g' : V.str x = V.str (Str.ofString "say") := dec_t g
    injection g' with g'
    obtain ⟨hs, hl, q⟩ := q1 g'
    have h4 : (Str.ofString "say ").length = 4 := by decide +kernel
    exact ⟨_, rfl, _, rfl, t, _, _, _, rfl, rfl, SqT.of ht, rfl, d, c, z, rfl, hs, _, _, rfl, rfl, (by rw [h4]; exact Nat.le_of_lt (small1000' hl)), q⟩
  · exact ⟨_, rfl, t, _, _, _, rfl, rfl, SqT.of ht, rfl, q2 fun e => dec_f g (by rw [e])⟩
theorem ok_law (F : Fun K "law" "law" s_law f fd) (bl : Bl K mg cDomain cNumbers cWords) (c__law_cell : Callee P w K mg base 5 "_law_cell" ["script", "k"] (sp_law_cell K cDomain cNumbers cWords)) (c__law_text : Callee P w K mg base 5 "_law_text" ["found", "due"] (sp_law_text K cDomain cNumbers cWords)) (c__law_words : Callee P w K mg base 5 "_law_words" ["cell"] (sp_law_words K cDomain cNumbers cWords)) (k_Words : MkCallee CX0 P w K mg base 4 "Words" cWords ["self", "words"] (sp_Words___init___Words K cDomain cNumbers cWords)) (k_Numbers : MkCallee CX0 P w K mg base 4 "Numbers" cNumbers ["self", "low", "high"] (sp_Numbers___init___Numbers K cDomain cNumbers cWords)) (c_verdict_text : Callee P w K mg base 5 "verdict_text" ["outcome", "verdict"] (sp_verdict_text K cDomain cNumbers cWords)) : FnOk P w K mg base CX0 6 f fd ["script"] (sp_law K) := by
  refine F.ok sc_law (fun vs H Q E h => ?_) (fun cdv A outer s H vs Q E hr h => ?_)
  · obtain ⟨a, ns, rfl, hS, h63, q⟩ := h
    rfl
  obtain ⟨a, ns, rfl, hS, h63, q⟩ := h
  refine ⟨_, (pss_cut (ps_set (i := 1) sc_law.nd rfl (Or.inl rfl) (pe_fn c__law_cell hr rfl (pa_cons (pv 0) (pa_cons pe_int pa_nil))))
     (pss_cons (ps_set (i := 2) sc_law.nd rfl (Or.inl rfl) (pe_lst pa_nil))
     (pss_cut (ps_set (i := 3) sc_law.nd rfl (Or.inl rfl) (pe_op op_sub (pe_op op_mod (pe_op op_fdiv (pv 1) pe_int) (pe_op op_mul pe_int (pe_op op_pow pe_int pe_int))) (pe_op op_pow pe_int pe_int)))
     (pss_cut (ps_set (i := 4) sc_law.nd rfl (Or.inl rfl) (pe_op op_add pe_int (pe_op op_mod (pe_fn c__law_cell hr rfl (pa_cons (pv 0) (pa_cons pe_int pa_nil))) (pe_op op_pow pe_int pe_int))))
     (pss_cut (ps_if (pt_cmpR op_eq (pe_op op_mod (pv 1) pe_int) pe_int (nomark _))
     (pss_cons (ps_set (i := 2) sc_law.nd rfl (Or.inl rfl) (pe_fn c__law_words hr rfl (pa_cons (pv 1) pa_nil)))
     (pss_cons (ps_set (i := 3) sc_law.nd rfl (Or.inl rfl) pe_int)
     (pss_cons (ps_set (i := 4) sc_law.nd rfl (Or.inl rfl) (pe_callB call_len_seq rfl bl.len_ PySem.boot_len (pa_cons (pv 2) pa_nil)))
     (pss_one (ps_set (i := 5) sc_law.nd rfl (Or.inl rfl) (pe_mk k_Words pass0 hr rfl (pa_cons (pv 2) pa_nil)))))))
     (pss_one (ps_set (i := 5) sc_law.nd rfl (Or.inl rfl) (pe_mk k_Numbers pass0 hr rfl (pa_cons (pv 3) (pa_cons (pe_op op_sub (pe_op op_add (pv 3) (pv 4)) pe_int) pa_nil))))))
     (pss_cons (ps_if (pt_not (pt_val (pe_fn c__law_text hr rfl (pa_cons (pe_fn c_verdict_text hr rfl (pa_cons (pv 5) (pa_cons (pe_tup (pa_cons pe_str (pa_cons pe_int pa_nil))) pa_nil))) (pa_cons pe_str pa_nil)))))
     (pss_one (ps_ret pe_bl))
     pss_nil)
     (pss_cut (ps_for PassesOwn.never rfl (pi_list (pe_op op_cat (pe_lst (pa_cons (pe_fn c__law_cell hr rfl (pa_cons (pv 0) (pa_cons pe_int pa_nil))) pa_nil)) (pe_slice sl_list (pv 0) (po_some pe_int) (po_some pe_int)))) (pg_name (i := 6) sc_law.nd rfl (Or.inl rfl))
     (pss_cut (ps_set (i := 7) sc_law.nd rfl (Or.inl rfl) (pe_op op_add (pv 3) (pe_op op_mod (pv 6) (pv 4))))
     (pss_cut (ps_set (i := 8) sc_law.nd rfl (Or.inl rfl) (pe_op op_add_str pe_str (pe_callTy call_str_int rfl bl.str_ PyProof.Rows.boot_str (pa_cons (pv 7) pa_nil))))
     (pss_cut (ps_if (pt_cmpR op_eq (pe_op op_mod (pv 1) pe_int) pe_int (nomark _))
     (pss_one (ps_set (i := 8) sc_law.nd rfl (Or.inl rfl) (pe_op op_add_str pe_str (pe_ix ix_list (pv 2) (pv 7) (fun _ _ => rfl)))))
     pss_nil)
     (pss_one (ps_if (pt_not (pt_val (pe_fn c__law_text hr rfl (pa_cons (pe_fn c_verdict_text hr rfl (pa_cons (pv 5) (pa_cons (pe_tup (pa_cons pe_str (pa_cons (pv 7) pa_nil))) pa_nil))) (pa_cons (pv 8) pa_nil)))))
     (pss_one (ps_ret pe_bl))
     pss_nil))))))
     (pss_one (ps_ret (pe_fn c__law_text hr rfl (pa_cons (pe_fn c_verdict_text hr rfl (pa_cons (pv 5) (pa_cons (pe_tup (pa_cons pe_str (pa_cons pe_int pa_nil))) pa_nil))) (pa_cons pe_str pa_nil)))))))))))), ?_⟩
  refine ⟨fun σ' H' => H' = H ∧ ∃ c : Int, σ' = [some (.ref a), some (.int c), none, none, none, none, none, none, none], ?_, ?_⟩
  · exact ⟨_, rfl, a, ns, 0, rfl, hS, Int.le_refl _, fun r => ⟨rfl, r, rfl⟩⟩
  rintro σ1 H1 ⟨rfl, c, rfl⟩
  refine ⟨(by show 0 ≤ sizeLine; decide), fun wl0 hwl0 => ?_⟩
  have s1 := same_new hwl0 (.lst [])
  have ew0 : upd H1 wl0 (.lst []) wl0 = some (.lst []) := upd_same
  generalize upd H1 wl0 (.lst []) = H2 at s1 ew0 ⊢
  have pb : (0 : Int) < 2 * 10 ^ (58 : Int).toNat := Int.mul_pos (by decide) (p10 _)
  refine ⟨fun σ' H' => H' = H2 ∧ ∃ lo : Int, -((10 ^ 58 : Nat) : Int) ≤ lo ∧ lo < ((10 ^ 58 : Nat) : Int) ∧ σ' = [some (.ref a), some (.int c), some (.ref wl0), some (.int lo), none, none, none, none, none], ?_, ?_⟩
  · have x0 := Int.emod_nonneg (c / 2) (Int.ne_of_gt pb)
    have x1 := Int.emod_lt_of_pos (c / 2) pb
    refine ⟨_, rfl, _, _, rfl, rfl, ⟨by decide, by decide⟩, _, _, rfl, rfl, ⟨by decide, by decide, by decide⟩, _, _, rfl, rfl, .inl ⟨by decide, by decide⟩, _, _, rfl, rfl, pb, _, _, rfl, rfl, ⟨by decide, by decide, by decide⟩, _, _, rfl, rfl, rfl, _, ?_, ?_, rfl⟩
    · rw [p58] at x0 x1 ⊢
      generalize (10 ^ 58 : Nat) = T at x0 x1 ⊢
      omega
    · rw [p58] at x0 x1 ⊢
      generalize (10 ^ 58 : Nat) = T at x0 x1 ⊢
      omega
  rintro σ2 H2 ⟨rfl, lo, hlo0, hlo1, rfl⟩
  refine ⟨fun σ' H' => H' = H2 ∧ ∃ wi : Int, 1 ≤ wi ∧ wi ≤ ((10 ^ 57 : Nat) : Int) ∧ σ' = [some (.ref a), some (.int c), some (.ref wl0), some (.int lo), some (.int wi), none, none, none, none], ?_, ?_⟩
  · refine ⟨_, rfl, a, ns, 1, rfl, s1.seq hS, by decide, fun r => ⟨_, _, rfl, rfl, ⟨by decide, by decide, by decide⟩, _, _, rfl, rfl, p10 _, _, _, rfl, rfl, rfl, _, ?_, ?_, rfl⟩⟩
    · have := Int.emod_nonneg r (Int.ne_of_gt (p10 (57 : Int).toNat))
      omega
    · have := Int.emod_lt_of_pos r (p10 (57 : Int).toNat)
      rw [p57] at this ⊢
      generalize (10 ^ 57 : Nat) = T at this ⊢
      omega
  rintro σ3 H3 ⟨rfl, wi, hw0, hw1, rfl⟩
  refine ⟨fun σ' H' => Same H3 H' ∧ ∃ (wl d : Addr) (lo wi : Int) (zs : List Str), 1 ≤ wi ∧ H' wl = some (.lst (zs.map V.str)) ∧ (∀ k : Int, lo ≤ k → k < lo + wi → bnd k ∧ if c % 2 = 1 then (0 ≤ k ∧ ∃ z : Str, zs[k.toNat]? = some z ∧ z.length ≤ 12 ∧ WrdD cWords H' d zs) else NumD cNumbers H' d lo (lo + wi - 1)) ∧ σ' = [some (.ref a), some (.int c), some (.ref wl), some (.int lo), some (.int wi), some (.ref d), none, none, none], ?_, ?_⟩
  · refine ⟨_, rfl, _, _, rfl, rfl, (by show (0 : Int) < 2; decide), rfl, _, rfl, ?_⟩
    refine ite2 (fun g => ?_) (fun g => ?_)
    · have g' : c % 2 = 1 := dec_int_t g
      refine ⟨_, rfl, c, rfl, fun l n H4 s4 el n1 n40 => ?_⟩
      have hg := ws92_good (c := c) n1 n40
      have hll := ws92_len c n
      generalize ws92 c n = zs at el hg hll
      refine ⟨_, rfl, l, _, rfl, .inl (SqL.of el), _, rfl, fun x dx hx hdx hne => ?_⟩
      have s5 : Same H4 (upd (upd H4 dx (.own x)) x (.ins cWords dx [])) := (same_new hdx _).upd hx
      refine ⟨x, dx, l, zs, rfl, upd_same, s5 _ _ el, hg, fun H6 l6 k1 k2 k3 => ?_⟩
      have s6 : Same H4 H6 := fun b u e => k1 b u (ne_of_none e hx) (s5 _ _ e)
      refine ⟨rfl, s4.trans s6, l, x, 0, _, zs, (by rw [List.length_map]; omega), s6 _ _ el, fun k hk0 hk1 => ?_, rfl⟩
      rw [List.length_map] at hk1
      rw [if_pos g']
      have hkl : k.toNat < zs.length := by omega
      refine ⟨bnd40 hk0 (by have := hg.few; omega), hk0, zs[k.toNat], List.getElem?_eq_getElem hkl, ?_, ⟨dx, l6, k2, k3⟩⟩
      have hw := hg.words _ (List.getElem_mem hkl)
      unfold isw at hw
      simp only [Bool.and_eq_true, decide_eq_true_eq] at hw
      omega
    · have g' : c % 2 ≠ 1 := dec_int_f g
      refine ⟨_, rfl, _, rfl, _, rfl, _, _, rfl, rfl, _, _, rfl, rfl, fun x dx hx hdx hne => ⟨x, dx, lo, lo + wi - 1, rfl, upd_same, by omega, rfl, ?_⟩⟩
      have sx : Same H3 (mkd cNumbers (upd (upd H3 dx (.own x)) x (.ins cNumbers dx [])) x dx lo (lo + wi - 1)) := by
        unfold mkd
        exact (((same_new hdx _).upd hx).upd hx).upd hx
      refine ⟨sx, wl0, x, lo, wi, [], hw0, sx _ _ ew0, fun k hk0 hk1 => ?_, rfl⟩
      rw [if_neg g']
      refine ⟨bnd_small (by omega) ?_, ⟨dx, upd_same⟩⟩
      generalize ((10 ^ 58 : Nat) : Int) = A at hlo1 ⊢
      generalize ((10 ^ 57 : Nat) : Int) = B at hw1 ⊢
      omega
  clear hw0 hw1 hlo0 hlo1
  rintro σ4 H4 ⟨t4, wl, d, lo, wi, zs, hw, ewl, hk, rfl⟩
  have s4 := s1.trans t4
  have noSay : Str.ofString "none" ≠ Str.ofString "say" := by decide +kernel
  have noSay2 : Str.ofString "clash" ≠ Str.ofString "say" := by decide +kernel
  have hShow : ∀ (H' : Hp), Same H4 H' → ∀ k : Int, lo ≤ k → k < lo + wi → ∃ z : Str, Shown cNumbers cWords H' d k z ∧ z.length ≤ 1000 ∧ bnd k ∧ (c % 2 = 1 → 0 ≤ k ∧ zs[k.toNat]? = some z) ∧ (c % 2 ≠ 1 → z = toString k) := fun H' s' k h0 h1 => by
    obtain ⟨hb, this⟩ := hk k h0 h1
    by_cases g : c % 2 = 1
    · rw [if_pos g] at this
      obtain ⟨k0, z, ez, hz, hW⟩ := this
      exact ⟨z, .inr ⟨zs, hW.same s', k0, ez⟩, by omega, hb, fun _ => ⟨k0, ez⟩, fun n => absurd g n⟩
    · rw [if_neg g] at this
      exact ⟨toString k, .inl ⟨lo, lo + wi - 1, this.same s', h0, by omega, hb, rfl⟩, Nat.le_trans (len_num hb) (by decide), hb, fun n => absurd n g, fun _ => rfl⟩
  refine ⟨_, rfl, (by show 2 ≤ sizeLine; decide), fun t ht => ?_⟩
  have u1 := same_new ht (.tup [.str (Str.ofString "none"), .int 0])
  refine ⟨d, t, _, Str.ofString "", 0, rfl, upd_same, (fun e => absurd e noSay), fun _ => ⟨_, rfl, _, rfl, iteF ?_⟩⟩
  generalize upd H4 t (.tup [.str (Str.ofString "none"), .int 0]) = H5 at u1 ⊢
  have s5 := s4.trans u1
  refine ⟨fun σ' H' => Same H5 H' ∧ ∃ c6 c7 c8 : Option V, σ' = [some (.ref a), some (.int c), some (.ref wl), some (.int lo), some (.int wi), some (.ref d), c6, c7, c8], ?_, ?_⟩
  · refine ⟨_, rfl, a, ns, 2, rfl, s5.seq hS, by decide, fun r => ⟨(by show 1 ≤ sizeLine; decide), fun c1 hc1 => ?_⟩⟩
    have u2 := same_new hc1 (.lst ([r].map V.int))
    have e2 : upd H5 c1 (.lst ([r].map V.int)) c1 = some (.lst ([r].map V.int)) := upd_same
    have ee : upd H5 c1 (.lst [.int r]) = upd H5 c1 (.lst ([r].map V.int)) := rfl
    rw [ee]
    generalize upd H5 c1 (.lst ([r].map V.int)) = H6 at u2 e2 ⊢
    clear ee
    obtain ⟨ms, em, lm⟩ := cut_map ns (some 3) (some 62)
    refine ⟨_, rfl, _, rfl, _, rfl, a, _, rfl, (s5.trans u2).seq hS, fun c2 hc2 => ?_⟩
    rw [em]
    have u3 := same_new hc2 (.lst (ms.map V.int))
    have e3 : upd H6 c2 (.lst (ms.map V.int)) c2 = some (.lst (ms.map V.int)) := upd_same
    have e2 := u3 _ _ e2
    generalize upd H6 c2 (.lst (ms.map V.int)) = H7 at u3 e2 e3 ⊢
    refine ⟨c1, c2, _, _, rfl, rfl, e2, e3, (by rw [List.length_map, List.length_map]; show 1 + ms.length ≤ sizeLine; exact Nat.le_of_lt (small1000 (by omega))), fun c3 hc3 => ?_⟩
    rw [← List.map_append]
    have u4 := same_new hc3 (.lst (([r] ++ ms).map V.int))
    have e4 : upd H7 c3 (.lst (([r] ++ ms).map V.int)) c3 = some (.lst (([r] ++ ms).map V.int)) := upd_same
    generalize upd H7 c3 (.lst (([r] ++ ms).map V.int)) = H8 at u4 e4 ⊢
    generalize [r] ++ ms = ws at e4 ⊢
    have u8 : Same H4 H8 := ((u1.trans u2).trans u3).trans u4
    refine ⟨c3, rfl, ⟨_, SqL.of e4⟩, for_list (xs := ws.map V.int) (fun i σ H' => Same H8 H' ∧ ∃ c6 c7 c8 : Option V, σ = [some (.ref a), some (.int c), some (.ref wl), some (.int lo), some (.int wi), some (.ref d), c6, c7, c8]) ⟨Same.refl _, _, _, _, rfl⟩ (fun i σ H' _ h => SqL.of (h.1 _ _ e4)) (fun i y σ H' e h => ?_) (fun σ H' h => ⟨((u2.trans u3).trans u4).trans h.1, h.2⟩)⟩
    obtain ⟨sm, c6, c7, c8, rfl⟩ := h
    obtain ⟨num, rfl, _⟩ := of_map e
    have hp : (0 : Int) < wi := by omega
    have n0 := Int.emod_nonneg num (Int.ne_of_gt hp)
    have n1 := Int.emod_lt_of_pos num hp
    refine ⟨fun σ' H2 => H2 = H' ∧ ∃ k : Int, lo ≤ k ∧ k < lo + wi ∧ σ' = [some (.ref a), some (.int c), some (.ref wl), some (.int lo), some (.int wi), some (.ref d), some (.int num), some (.int k), c8], ?_, ?_⟩
    · exact ⟨_, rfl, _, rfl, _, rfl, _, _, rfl, rfl, hp, _, _, rfl, rfl, rfl, _, by omega, by omega, rfl⟩
    rintro σ9 H9 ⟨rfl, k, k0, k1, rfl⟩
    have u9 := u8.trans sm
    obtain ⟨z, hs, hz, hb, hz1, hz2⟩ := hShow H9 u9 k k0 k1
    have h4 : (Str.ofString "say ").length = 4 := by decide +kernel
    have hts : (Str.ofString (toString k)).length ≤ 1000 := Nat.le_trans (len_num hb) (by decide)
    refine ⟨fun σ' H2 => H2 = H9 ∧ σ' = [some (.ref a), some (.int c), some (.ref wl), some (.int lo), some (.int wi), some (.ref d), some (.int num), some (.int k), some (.str (Str.ofString "say " ++ toString k))], ?_, ?_⟩
    · exact ⟨_, rfl, k, rfl, log_sm hb, _, _, rfl, rfl, (by rw [h4]; exact Nat.le_of_lt (small1000' hts)), rfl, rfl⟩
    rintro σa Ha ⟨rfl, rfl⟩
    refine ⟨fun σ' H2 => H2 = Ha ∧ σ' = [some (.ref a), some (.int c), some (.ref wl), some (.int lo), some (.int wi), some (.ref d), some (.int num), some (.int k), some (.str (Str.ofString "say " ++ z))], ?_, ?_⟩
    · refine ⟨_, rfl, _, _, rfl, rfl, (by show (0 : Int) < 2; decide), rfl, _, rfl, ?_⟩
      refine ite2 (fun g => ?_) (fun g => ?_)
      · have g' : c % 2 = 1 := dec_int_t g
        obtain ⟨q0, ez⟩ := hz1 g'
        have ex : atI (zs.map V.str) k = some (.str z) := by
          have q : atI (zs.map V.str) ((k.toNat : Nat) : Int) = some (.str z) := atI_nat (by rw [List.getElem?_map, ez]; rfl)
          rw [show ((k.toNat : Nat) : Int) = k by omega] at q
          exact q
        exact ⟨_, rfl, _, rfl, wl, _, _, _, rfl, rfl, SqL.of (u9 _ _ ewl), ex, _, _, rfl, rfl, (by rw [h4]; exact Nat.le_of_lt (small1000' hz)), rfl, rfl⟩
      · have g' : c % 2 ≠ 1 := dec_int_f g
        rw [hz2 g']
        exact ⟨rfl, rfl⟩
    rintro σb Hb ⟨rfl, rfl⟩
    refine ⟨_, rfl, _, rfl, (by show 2 ≤ sizeLine; decide), fun t ht => ?_⟩
    have ut := same_new ht (.tup [.str (Str.ofString "say"), .int k])
    obtain ⟨z', hs', hz', _, hy1, hy2⟩ := hShow _ (u9.trans ut) k k0 k1
    have ezz : z' = z := by
      by_cases g : c % 2 = 1
      · have e1 := (hz1 g).2
        have e2 := (hy1 g).2
        rw [e1] at e2
        exact (Option.some.inj e2).symm
      · rw [hz2 g, hy2 g]
    subst ezz
    refine ⟨d, t, _, z', k, rfl, upd_same, (fun _ => ⟨hs', hz', ?_⟩), (fun e => absurd rfl e)⟩
    exact ⟨_, rfl, _, rfl, _, rfl, iteF ⟨sm.trans ut, _, _, _, rfl⟩⟩
  rintro σ9 H9 ⟨s9, c6, c7, c8, rfl⟩
  refine ⟨_, rfl, (by show 2 ≤ sizeLine; decide), fun t2 ht2 => ?_⟩
  exact ⟨d, t2, _, Str.ofString "", 0, rfl, upd_same, (fun e => absurd e noSay2), fun _ => ⟨_, rfl, q _⟩⟩
end
theorem all_mk {l : PySem.W.OpenLaw} {w : World} {K : PySem.W.Frag} {h : Heap} {mg : Str → Option Value} {fa f0 f1 f2 f3 f4 f5 f6 f7 f8 f9 f10 f11 f12 f13 f14 f15 f16 f17 f18 f19 : Addr} (X : K.In h) (G : h.Ns mainGlobals mg) (hfa : mg "law" = some (.ref fa))
    {od0 an0 od1 an1 od2 an2 od3 an3 od4 an4 od5 an5 od6 an6 od7 an7 od8 an8 od9 an9 od10 an10 od11 an11 od12 an12 od13 an13 od14 an14 od15 an15 od16 an16 od17 an17 od18 an18 od19 an19 : Option Addr} {sl0 sl1 sl2 sl3 sl4 sl5 sl6 sl7 sl8 sl9 sl10 sl11 sl12 sl13 sl14 sl15 sl16 sl17 sl18 sl19 : Array (Option Value)} {oc0 kV0 dc0 pm0 cd0 ct0 oc1 kV1 dc1 pm1 cd1 ct1 oc2 kV2 dc2 pm2 cd2 ct2 oc3 kV3 dc3 pm3 cd3 ct3 oc4 kV4 dc4 pm4 cd4 ct4 oc5 kV5 dc5 pm5 cd5 ct5 oc6 kV6 dc6 pm6 cd6 ct6 oc7 kV7 dc7 pm7 cd7 ct7 oc8 kV8 dc8 pm8 cd8 ct8 oc9 kV9 dc9 pm9 cd9 ct9 oc10 kV10 dc10 pm10 cd10 ct10 oc11 kV11 dc11 pm11 cd11 ct11 oc12 kV12 dc12 pm12 cd12 ct12 oc13 kV13 dc13 pm13 cd13 ct13 oc14 kV14 dc14 pm14 cd14 ct14 oc15 kV15 dc15 pm15 cd15 ct15 oc16 kV16 dc16 pm16 cd16 ct16 oc17 kV17 dc17 pm17 cd17 ct17 oc18 kV18 dc18 pm18 cd18 ct18 oc19 kV19 dc19 pm19 cd19 ct19 : Value}
    {cDomain cNumbers cWords : Addr}
    (n_Domain : PySem.W.nsIn K mainGlobals "Domain" = some (some (.ref cDomain)))
    (n_Numbers : PySem.W.nsIn K mainGlobals "Numbers" = some (some (.ref cNumbers)))
    (n_Words : PySem.W.nsIn K mainGlobals "Words" = some (some (.ref cWords)))
    (a0 : PySem.W.nsIn K mainGlobals "all_among" = some (some (.ref f0))) (l0 : K.lookup f0 = some ⟨oc0, od0, .func (PySem.W.fnOf "all_among" "all_among" (defArgs s_all_among) (defBody s_all_among) (defScope s_all_among) .none kV0 dc0 pm0 an0 cd0 ct0), sl0⟩) (c0 : PySem.W.codeIn K cd0 "all_among" = true) (k0 : PySem.W.keepIn K (.ref f0) = true)
    (a1 : PySem.W.nsIn K mainGlobals "is_word" = some (some (.ref f1))) (l1 : K.lookup f1 = some ⟨oc1, od1, .func (PySem.W.fnOf "is_word" "is_word" (defArgs s_is_word) (defBody s_is_word) (defScope s_is_word) .none kV1 dc1 pm1 an1 cd1 ct1), sl1⟩) (c1 : PySem.W.codeIn K cd1 "is_word" = true) (k1 : PySem.W.keepIn K (.ref f1) = true)
    (a2 : PySem.W.nsIn K mainGlobals "number_text" = some (some (.ref f2))) (l2 : K.lookup f2 = some ⟨oc2, od2, .func (PySem.W.fnOf "number_text" "number_text" (defArgs s_number_text) (defBody s_number_text) (defScope s_number_text) .none kV2 dc2 pm2 an2 cd2 ct2), sl2⟩) (c2 : PySem.W.codeIn K cd2 "number_text" = true) (k2 : PySem.W.keepIn K (.ref f2) = true)
    (a3 : PySem.W.nsIn K mainGlobals "is_whole" = some (some (.ref f3))) (l3 : K.lookup f3 = some ⟨oc3, od3, .func (PySem.W.fnOf "is_whole" "is_whole" (defArgs s_is_whole) (defBody s_is_whole) (defScope s_is_whole) .none kV3 dc3 pm3 an3 cd3 ct3), sl3⟩) (c3 : PySem.W.codeIn K cd3 "is_whole" = true) (k3 : PySem.W.keepIn K (.ref f3) = true)
    (a4 : PySem.W.nsIn K mainGlobals "show_value" = some (some (.ref f4))) (l4 : K.lookup f4 = some ⟨oc4, od4, .func (PySem.W.fnOf "show_value" "show_value" (defArgs s_show_value) (defBody s_show_value) (defScope s_show_value) .none kV4 dc4 pm4 an4 cd4 ct4), sl4⟩) (c4 : PySem.W.codeIn K cd4 "show_value" = true) (k4 : PySem.W.keepIn K (.ref f4) = true)
    (a5 : PySem.W.nsIn K mainGlobals "verdict_text" = some (some (.ref f5))) (l5 : K.lookup f5 = some ⟨oc5, od5, .func (PySem.W.fnOf "verdict_text" "verdict_text" (defArgs s_verdict_text) (defBody s_verdict_text) (defScope s_verdict_text) .none kV5 dc5 pm5 an5 cd5 ct5), sl5⟩) (c5 : PySem.W.codeIn K cd5 "verdict_text" = true) (k5 : PySem.W.keepIn K (.ref f5) = true)
    (a6 : PySem.W.nsIn K mainGlobals "_law_cell" = some (some (.ref f6))) (l6 : K.lookup f6 = some ⟨oc6, od6, .func (PySem.W.fnOf "_law_cell" "_law_cell" (defArgs s_law_cell) (defBody s_law_cell) (defScope s_law_cell) .none kV6 dc6 pm6 an6 cd6 ct6), sl6⟩) (c6 : PySem.W.codeIn K cd6 "_law_cell" = true) (k6 : PySem.W.keepIn K (.ref f6) = true)
    (a7 : PySem.W.nsIn K mainGlobals "_law_words" = some (some (.ref f7))) (l7 : K.lookup f7 = some ⟨oc7, od7, .func (PySem.W.fnOf "_law_words" "_law_words" (defArgs s_law_words) (defBody s_law_words) (defScope s_law_words) .none kV7 dc7 pm7 an7 cd7 ct7), sl7⟩) (c7 : PySem.W.codeIn K cd7 "_law_words" = true) (k7 : PySem.W.keepIn K (.ref f7) = true)
    (a8 : PySem.W.nsIn K mainGlobals "_law_text" = some (some (.ref f8))) (l8 : K.lookup f8 = some ⟨oc8, od8, .func (PySem.W.fnOf "_law_text" "_law_text" (defArgs s_law_text) (defBody s_law_text) (defScope s_law_text) .none kV8 dc8 pm8 an8 cd8 ct8), sl8⟩) (c8 : PySem.W.codeIn K cd8 "_law_text" = true) (k8 : PySem.W.keepIn K (.ref f8) = true)
    (i9 : PySem.W.findIn K (.ref cWords) "__init__" = some (some (.ref f9))) (if9 : PySem.W.isFn K (.ref f9) = true) (im9 : PySem.W.makesIn K cWords = true) (ik9 : PySem.W.keepIn K (.ref cWords) = true) (l9 : K.lookup f9 = some ⟨oc9, od9, .func (PySem.W.fnOf "__init__" "Words.__init__" (defArgs s_Words___init___Words) (defBody s_Words___init___Words) (defScope s_Words___init___Words) .none kV9 dc9 pm9 an9 cd9 ct9), sl9⟩) (c9 : PySem.W.codeIn K cd9 "Words.__init__" = true) (k9 : PySem.W.keepIn K (.ref f9) = true)
    (b_s10 : PySem.W.specialIn K (.ref cDomain) "__getattribute__" = some (some (.builtin "type.__getattribute__"))) (b_r10 : PySem.W.readsIn K cDomain (.type "type") = true) (b_a10 : PySem.W.findCls K (.ref cDomain) (.type "type") "__init__" = some (.val (.ref f10))) (l10 : K.lookup f10 = some ⟨oc10, od10, .func (PySem.W.fnOf "__init__" "Domain.__init__" (defArgs s_Domain___init___Words) (defBody s_Domain___init___Words) (defScope s_Domain___init___Words) .none kV10 dc10 pm10 an10 cd10 ct10), sl10⟩) (c10 : PySem.W.codeIn K cd10 "Domain.__init__" = true) (k10 : PySem.W.keepIn K (.ref f10) = true)
    (i11 : PySem.W.findIn K (.ref cNumbers) "__init__" = some (some (.ref f11))) (if11 : PySem.W.isFn K (.ref f11) = true) (im11 : PySem.W.makesIn K cNumbers = true) (ik11 : PySem.W.keepIn K (.ref cNumbers) = true) (l11 : K.lookup f11 = some ⟨oc11, od11, .func (PySem.W.fnOf "__init__" "Numbers.__init__" (defArgs s_Numbers___init___Numbers) (defBody s_Numbers___init___Numbers) (defScope s_Numbers___init___Numbers) .none kV11 dc11 pm11 an11 cd11 ct11), sl11⟩) (c11 : PySem.W.codeIn K cd11 "Numbers.__init__" = true) (k11 : PySem.W.keepIn K (.ref f11) = true)
    (b_s12 : PySem.W.specialIn K (.ref cDomain) "__getattribute__" = some (some (.builtin "type.__getattribute__"))) (b_r12 : PySem.W.readsIn K cDomain (.type "type") = true) (b_a12 : PySem.W.findCls K (.ref cDomain) (.type "type") "__init__" = some (.val (.ref f12))) (l12 : K.lookup f12 = some ⟨oc12, od12, .func (PySem.W.fnOf "__init__" "Domain.__init__" (defArgs s_Domain___init___Numbers) (defBody s_Domain___init___Numbers) (defScope s_Domain___init___Numbers) .none kV12 dc12 pm12 an12 cd12 ct12), sl12⟩) (c12 : PySem.W.codeIn K cd12 "Domain.__init__" = true) (k12 : PySem.W.keepIn K (.ref f12) = true)
    (m13 : PySem.W.findIn K (.ref cNumbers) "worth" = some (some (.ref f13))) (mf13 : PySem.W.isFn K (.ref f13) = true) (l13 : K.lookup f13 = some ⟨oc13, od13, .func (PySem.W.fnOf "worth" "Domain.worth" (defArgs s_Domain_worth_Numbers) (defBody s_Domain_worth_Numbers) (defScope s_Domain_worth_Numbers) .none kV13 dc13 pm13 an13 cd13 ct13), sl13⟩) (c13 : PySem.W.codeIn K cd13 "Domain.worth" = true) (k13 : PySem.W.keepIn K (.ref f13) = true)
    (m14 : PySem.W.findIn K (.ref cNumbers) "value_at" = some (some (.ref f14))) (mf14 : PySem.W.isFn K (.ref f14) = true) (l14 : K.lookup f14 = some ⟨oc14, od14, .func (PySem.W.fnOf "value_at" "Numbers.value_at" (defArgs s_Numbers_value_at_Numbers) (defBody s_Numbers_value_at_Numbers) (defScope s_Numbers_value_at_Numbers) .none kV14 dc14 pm14 an14 cd14 ct14), sl14⟩) (c14 : PySem.W.codeIn K cd14 "Numbers.value_at" = true) (k14 : PySem.W.keepIn K (.ref f14) = true)
    (m15 : PySem.W.findIn K (.ref cNumbers) "has_code" = some (some (.ref f15))) (mf15 : PySem.W.isFn K (.ref f15) = true) (l15 : K.lookup f15 = some ⟨oc15, od15, .func (PySem.W.fnOf "has_code" "Domain.has_code" (defArgs s_Domain_has_code_Numbers) (defBody s_Domain_has_code_Numbers) (defScope s_Domain_has_code_Numbers) .none kV15 dc15 pm15 an15 cd15 ct15), sl15⟩) (c15 : PySem.W.codeIn K cd15 "Domain.has_code" = true) (k15 : PySem.W.keepIn K (.ref f15) = true)
    (m16 : PySem.W.findIn K (.ref cWords) "worth" = some (some (.ref f16))) (mf16 : PySem.W.isFn K (.ref f16) = true) (l16 : K.lookup f16 = some ⟨oc16, od16, .func (PySem.W.fnOf "worth" "Domain.worth" (defArgs s_Domain_worth_Words) (defBody s_Domain_worth_Words) (defScope s_Domain_worth_Words) .none kV16 dc16 pm16 an16 cd16 ct16), sl16⟩) (c16 : PySem.W.codeIn K cd16 "Domain.worth" = true) (k16 : PySem.W.keepIn K (.ref f16) = true)
    (m17 : PySem.W.findIn K (.ref cWords) "value_at" = some (some (.ref f17))) (mf17 : PySem.W.isFn K (.ref f17) = true) (l17 : K.lookup f17 = some ⟨oc17, od17, .func (PySem.W.fnOf "value_at" "Words.value_at" (defArgs s_Words_value_at_Words) (defBody s_Words_value_at_Words) (defScope s_Words_value_at_Words) .none kV17 dc17 pm17 an17 cd17 ct17), sl17⟩) (c17 : PySem.W.codeIn K cd17 "Words.value_at" = true) (k17 : PySem.W.keepIn K (.ref f17) = true)
    (m18 : PySem.W.findIn K (.ref cWords) "has_code" = some (some (.ref f18))) (mf18 : PySem.W.isFn K (.ref f18) = true) (l18 : K.lookup f18 = some ⟨oc18, od18, .func (PySem.W.fnOf "has_code" "Domain.has_code" (defArgs s_Domain_has_code_Words) (defBody s_Domain_has_code_Words) (defScope s_Domain_has_code_Words) .none kV18 dc18 pm18 an18 cd18 ct18), sl18⟩) (c18 : PySem.W.codeIn K cd18 "Domain.has_code" = true) (k18 : PySem.W.keepIn K (.ref f18) = true)
    (a19 : PySem.W.nsIn K mainGlobals "law" = some (some (.ref f19))) (l19 : K.lookup f19 = some ⟨oc19, od19, .func (PySem.W.fnOf "law" "law" (defArgs s_law) (defBody s_law) (defScope s_law) .none kV19 dc19 pm19 an19 cd19 ct19), sl19⟩) (c19 : PySem.W.codeIn K cd19 "law" = true) (k19 : PySem.W.keepIn K (.ref f19) = true)
    (z0 : PySem.W.nsIn K mainGlobals "len" = some none)
    (z1 : PySem.W.nsIn K mainGlobals "str" = some none)
    (z2 : PySem.W.nsIn K mainGlobals "isinstance" = some none)
    (z3 : PySem.W.nsIn K mainGlobals "int" = some none)
    (z4 : PySem.W.nsIn K mainGlobals "bool" = some none)
    (z5 : PySem.W.nsIn K mainGlobals "range" = some none)
    (z6 : PySem.W.nsIn K mainGlobals "list" = some none)
    (z7 : PySem.W.nsIn K mainGlobals "set" = some none)
    {w0 : Value} (y0 : PySem.W.nsIn K mainGlobals "MOST_SIGNS" = some (some w0)) (x0 : RelV (V.int 12) w0)
    {w1 : Value} (y1 : PySem.W.nsIn K mainGlobals "SMALL_LETTERS" = some (some w1)) (x1 : RelV (V.str "abcdefghijklmnopqrstuvwxyz") w1)
    {w2 : Value} (y2 : PySem.W.nsIn K mainGlobals "MOST_WORDS" = some (some w2)) (x2 : RelV (V.int 40) w2)
    (pg_Numbers : PySem.W.plainGet K cNumbers Str.empty = true) (hd_Numbers : PySem.W.hasDictIn K cNumbers = true) (po_Numbers : PySem.W.plainOver K cNumbers = true) (sa_Numbers : PySem.W.findIn K (.ref cNumbers) "__setattr__" = some (some (.builtin "object.__setattr__")))
    (pg_Words : PySem.W.plainGet K cWords Str.empty = true) (hd_Words : PySem.W.hasDictIn K cWords = true) (po_Words : PySem.W.plainOver K cWords = true) (sa_Words : PySem.W.findIn K (.ref cWords) "__setattr__" = some (some (.builtin "object.__setattr__")))
    (ta_Numbers : PySem.W.findIn K (.ref cNumbers) "__class__" = some (some (.builtin "object.__class__"))) (tn_Numbers : PySem.W.specialIn K (.builtin "object.__class__") "__get__" = some (some (.builtin "getset_descriptor.__get__"))) (tt_Numbers : PySem.W.takesIn K (.builtin "object.__class__") = some true) (tm_Numbers : PySem.W.mroIn K cNumbers (.type "object") = some true)
    (ta_Words : PySem.W.findIn K (.ref cWords) "__class__" = some (some (.builtin "object.__class__"))) (tn_Words : PySem.W.specialIn K (.builtin "object.__class__") "__get__" = some (some (.builtin "getset_descriptor.__get__"))) (tt_Words : PySem.W.takesIn K (.builtin "object.__class__") = some true) (tm_Words : PySem.W.mroIn K cWords (.type "object") = some true)
    (na_Numbers_low : PySem.W.findIn K (.ref cNumbers) "low" = some none)
    (na_Numbers_high : PySem.W.findIn K (.ref cNumbers) "high" = some none)
    (na_Words_low : PySem.W.findIn K (.ref cWords) "low" = some none)
    (na_Words_high : PySem.W.findIn K (.ref cWords) "high" = some none)
    (na_Words_words : PySem.W.findIn K (.ref cWords) "words" = some none)
    (f_nw : PySem.W.kitOne K (.ref cNumbers) (.ref cWords) = some false)
    (f_ww : PySem.W.kitOne K (.ref cWords) (.ref cWords) = some true)
    : ∃ fd : FuncData, (∀ (s : Shared) (v : Value), BindsTo s fd ⟨[v], []⟩ [("script", v)]) ∧ ∀ base : Heap, K.In base → base.Ns mainGlobals mg → FnOk l.prog w K mg base CX0 6 fa fd ["script"] (sp_law K) := by
  have e := hfa.symm.trans (PySem.W.mg_of X G a19)
  cases e
  have F0 := fun_mk (st := s_all_among) l0 c0 k0
  have b0 := F0.binds (ps := ["text", "signs"]) fun _ _ _ _ _ _ us hl => match us, hl with | [_, _], _ => rfl
  have F1 := fun_mk (st := s_is_word) l1 c1 k1
  have b1 := F1.binds (ps := ["text"]) fun _ _ _ _ _ _ us hl => match us, hl with | [_], _ => rfl
  have F2 := fun_mk (st := s_number_text) l2 c2 k2
  have b2 := F2.binds (ps := ["number"]) fun _ _ _ _ _ _ us hl => match us, hl with | [_], _ => rfl
  have F3 := fun_mk (st := s_is_whole) l3 c3 k3
  have b3 := F3.binds (ps := ["value"]) fun _ _ _ _ _ _ us hl => match us, hl with | [_], _ => rfl
  have F4 := fun_mk (st := s_show_value) l4 c4 k4
  have b4 := F4.binds (ps := ["domain", "code"]) fun _ _ _ _ _ _ us hl => match us, hl with | [_, _], _ => rfl
  have F5 := fun_mk (st := s_verdict_text) l5 c5 k5
  have b5 := F5.binds (ps := ["outcome", "verdict"]) fun _ _ _ _ _ _ us hl => match us, hl with | [_, _], _ => rfl
  have F6 := fun_mk (st := s_law_cell) l6 c6 k6
  have b6 := F6.binds (ps := ["script", "k"]) fun _ _ _ _ _ _ us hl => match us, hl with | [_, _], _ => rfl
  have F7 := fun_mk (st := s_law_words) l7 c7 k7
  have b7 := F7.binds (ps := ["cell"]) fun _ _ _ _ _ _ us hl => match us, hl with | [_], _ => rfl
  have F8 := fun_mk (st := s_law_text) l8 c8 k8
  have b8 := F8.binds (ps := ["found", "due"]) fun _ _ _ _ _ _ us hl => match us, hl with | [_, _], _ => rfl
  have F9 := fun_mk (st := s_Words___init___Words) l9 c9 k9
  have b9 := F9.binds (ps := ["self", "words"]) fun _ _ _ _ _ _ us hl => match us, hl with | [_, _], _ => rfl
  have F10 := fun_mk (st := s_Domain___init___Words) l10 c10 k10
  have b10 := F10.binds (ps := ["self", "low", "high"]) fun _ _ _ _ _ _ us hl => match us, hl with | [_, _, _], _ => rfl
  have F11 := fun_mk (st := s_Numbers___init___Numbers) l11 c11 k11
  have b11 := F11.binds (ps := ["self", "low", "high"]) fun _ _ _ _ _ _ us hl => match us, hl with | [_, _, _], _ => rfl
  have F12 := fun_mk (st := s_Domain___init___Numbers) l12 c12 k12
  have b12 := F12.binds (ps := ["self", "low", "high"]) fun _ _ _ _ _ _ us hl => match us, hl with | [_, _, _], _ => rfl
  have F13 := fun_mk (st := s_Domain_worth_Numbers) l13 c13 k13
  have b13 := F13.binds (ps := ["self", "code"]) fun _ _ _ _ _ _ us hl => match us, hl with | [_, _], _ => rfl
  have F14 := fun_mk (st := s_Numbers_value_at_Numbers) l14 c14 k14
  have b14 := F14.binds (ps := ["self", "code"]) fun _ _ _ _ _ _ us hl => match us, hl with | [_, _], _ => rfl
  have F15 := fun_mk (st := s_Domain_has_code_Numbers) l15 c15 k15
  have b15 := F15.binds (ps := ["self", "value"]) fun _ _ _ _ _ _ us hl => match us, hl with | [_, _], _ => rfl
  have F16 := fun_mk (st := s_Domain_worth_Words) l16 c16 k16
  have b16 := F16.binds (ps := ["self", "code"]) fun _ _ _ _ _ _ us hl => match us, hl with | [_, _], _ => rfl
  have F17 := fun_mk (st := s_Words_value_at_Words) l17 c17 k17
  have b17 := F17.binds (ps := ["self", "code"]) fun _ _ _ _ _ _ us hl => match us, hl with | [_, _], _ => rfl
  have F18 := fun_mk (st := s_Domain_has_code_Words) l18 c18 k18
  have b18 := F18.binds (ps := ["self", "value"]) fun _ _ _ _ _ _ us hl => match us, hl with | [_, _], _ => rfl
  have F19 := fun_mk (st := s_law) l19 c19 k19
  have b19 := F19.binds (ps := ["script"]) fun _ _ _ _ _ _ us hl => match us, hl with | [_], _ => rfl
  have bl : Bl K mg cDomain cNumbers cWords := ⟨PySem.W.mg_of X G n_Domain, n_Domain, PySem.W.mg_of X G n_Numbers, n_Numbers, PySem.W.mg_of X G n_Words, n_Words, ⟨pg_Numbers, hd_Numbers, po_Numbers, sa_Numbers⟩, ⟨pg_Words, hd_Words, po_Words, sa_Words⟩, ⟨⟨pg_Numbers, hd_Numbers, po_Numbers, sa_Numbers⟩, ta_Numbers, tn_Numbers, tt_Numbers, tm_Numbers⟩, ⟨⟨pg_Words, hd_Words, po_Words, sa_Words⟩, ta_Words, tn_Words, tt_Words, tm_Words⟩, na_Numbers_low, na_Numbers_high, na_Words_low, na_Words_high, na_Words_words, f_nw, f_ww, PySem.W.mg_none_of X G z0, PySem.W.mg_none_of X G z1, PySem.W.mg_none_of X G z2, PySem.W.mg_none_of X G z3, PySem.W.mg_none_of X G z4, PySem.W.mg_none_of X G z5, PySem.W.mg_none_of X G z6, PySem.W.mg_none_of X G z7, ⟨_, PySem.W.mg_of X G y0, x0⟩, ⟨_, PySem.W.mg_of X G y1, x1⟩, ⟨_, PySem.W.mg_of X G y2, x2⟩⟩
  refine ⟨PySem.W.fnOf "law" "law" (defArgs s_law) (defBody s_law) (defScope s_law) .none kV19 dc19 pm19 an19 cd19 ct19, fun s v => .of_eq rfl, fun base _ _ => ?_⟩
  have O0 := ok_all_among (P := l.prog) (w := w) (base := base) F0 bl 
  have C_all_among : Callee l.prog w K mg base 1 "all_among" ["text", "signs"] (sp_all_among K cDomain cNumbers cWords) := ⟨_, _, O0, b0, k0, PySem.W.mg_of X G a0⟩
  have O2 := ok_number_text (P := l.prog) (w := w) (base := base) F2 bl 
  have C_number_text : Callee l.prog w K mg base 1 "number_text" ["number"] (sp_number_text K cDomain cNumbers cWords) := ⟨_, _, O2, b2, k2, PySem.W.mg_of X G a2⟩
  have O3 := ok_is_whole (P := l.prog) (w := w) (base := base) F3 bl 
  have C_is_whole : Callee l.prog w K mg base 1 "is_whole" ["value"] (sp_is_whole K cDomain cNumbers cWords) := ⟨_, _, O3, b3, k3, PySem.W.mg_of X G a3⟩
  have O6 := ok_law_cell (P := l.prog) (w := w) (base := base) F6 bl 
  have C_law_cell : Callee l.prog w K mg base 1 "_law_cell" ["script", "k"] (sp_law_cell K cDomain cNumbers cWords) := ⟨_, _, O6, b6, k6, PySem.W.mg_of X G a6⟩
  have O7 := ok_law_words (P := l.prog) (w := w) (base := base) F7 bl 
  have C_law_words : Callee l.prog w K mg base 1 "_law_words" ["cell"] (sp_law_words K cDomain cNumbers cWords) := ⟨_, _, O7, b7, k7, PySem.W.mg_of X G a7⟩
  have O8 := ok_law_text (P := l.prog) (w := w) (base := base) F8 bl 
  have C_law_text : Callee l.prog w K mg base 1 "_law_text" ["found", "due"] (sp_law_text K cDomain cNumbers cWords) := ⟨_, _, O8, b8, k8, PySem.W.mg_of X G a8⟩
  have O10 := ok_Domain___init___Words (P := l.prog) (w := w) (base := base) F10 bl 
  have B_Domain___init___Words : BCallee CX0 l.prog w K mg base 1 "Domain" "__init__" ["self", "low", "high"] (sp_Domain___init___Words K cDomain cNumbers cWords) := ⟨_, _, _, ⟨b_s10, b_r10, b_a10, k10⟩, O10, b10, PySem.W.mg_of X G n_Domain⟩
  have O12 := ok_Domain___init___Numbers (P := l.prog) (w := w) (base := base) F12 bl 
  have B_Domain___init___Numbers : BCallee CX0 l.prog w K mg base 1 "Domain" "__init__" ["self", "low", "high"] (sp_Domain___init___Numbers K cDomain cNumbers cWords) := ⟨_, _, _, ⟨b_s12, b_r12, b_a12, k12⟩, O12, b12, PySem.W.mg_of X G n_Domain⟩
  have O14 := ok_Numbers_value_at_Numbers (P := l.prog) (w := w) (base := base) F14 bl 
  have M_Numbers_value_at_Numbers : MCallee CX0 l.prog w K mg base 1 cNumbers "value_at" ["self", "code"] (sp_Numbers_value_at_Numbers K cDomain cNumbers cWords) := ⟨_, _, ⟨m14, mf14, k14⟩, O14, b14⟩
  have O17 := ok_Words_value_at_Words (P := l.prog) (w := w) (base := base) F17 bl 
  have M_Words_value_at_Words : MCallee CX0 l.prog w K mg base 1 cWords "value_at" ["self", "code"] (sp_Words_value_at_Words K cDomain cNumbers cWords) := ⟨_, _, ⟨m17, mf17, k17⟩, O17, b17⟩
  have O1 := ok_is_word (P := l.prog) (w := w) (base := base) F1 bl (C_all_among.mono (by decide))
  have C_is_word : Callee l.prog w K mg base 2 "is_word" ["text"] (sp_is_word K cDomain cNumbers cWords) := ⟨_, _, O1, b1, k1, PySem.W.mg_of X G a1⟩
  have O11 := ok_Numbers___init___Numbers (P := l.prog) (w := w) (base := base) F11 bl (B_Domain___init___Numbers.mono (by decide))
  have K_Numbers___init___Numbers : MkCallee CX0 l.prog w K mg base 2 "Numbers" cNumbers ["self", "low", "high"] (sp_Numbers___init___Numbers K cDomain cNumbers cWords) := ⟨_, _, ⟨im11, i11, if11, ik11⟩, O11, b11, PySem.W.mg_of X G n_Numbers⟩
  have O15 := ok_Domain_has_code_Numbers (P := l.prog) (w := w) (base := base) F15 bl (C_is_whole.mono (by decide))
  have M_Domain_has_code_Numbers : MCallee CX0 l.prog w K mg base 2 cNumbers "has_code" ["self", "value"] (sp_Domain_has_code_Numbers K cDomain cNumbers cWords) := ⟨_, _, ⟨m15, mf15, k15⟩, O15, b15⟩
  have O18 := ok_Domain_has_code_Words (P := l.prog) (w := w) (base := base) F18 bl (C_is_whole.mono (by decide))
  have M_Domain_has_code_Words : MCallee CX0 l.prog w K mg base 2 cWords "has_code" ["self", "value"] (sp_Domain_has_code_Words K cDomain cNumbers cWords) := ⟨_, _, ⟨m18, mf18, k18⟩, O18, b18⟩
  have O9 := ok_Words___init___Words (P := l.prog) (w := w) (base := base) F9 bl (B_Domain___init___Words.mono (by decide)) (C_is_word.mono (by decide))
  have K_Words___init___Words : MkCallee CX0 l.prog w K mg base 3 "Words" cWords ["self", "words"] (sp_Words___init___Words K cDomain cNumbers cWords) := ⟨_, _, ⟨im9, i9, if9, ik9⟩, O9, b9, PySem.W.mg_of X G n_Words⟩
  have O13 := ok_Domain_worth_Numbers (P := l.prog) (w := w) (base := base) F13 bl (M_Numbers_value_at_Numbers.mono (by decide)) (M_Domain_has_code_Numbers.mono (by decide))
  have M_Domain_worth_Numbers : MCallee CX0 l.prog w K mg base 3 cNumbers "worth" ["self", "code"] (sp_Domain_worth_Numbers K cDomain cNumbers cWords) := ⟨_, _, ⟨m13, mf13, k13⟩, O13, b13⟩
  have O16 := ok_Domain_worth_Words (P := l.prog) (w := w) (base := base) F16 bl (M_Words_value_at_Words.mono (by decide)) (M_Domain_has_code_Words.mono (by decide))
  have M_Domain_worth_Words : MCallee CX0 l.prog w K mg base 3 cWords "worth" ["self", "code"] (sp_Domain_worth_Words K cDomain cNumbers cWords) := ⟨_, _, ⟨m16, mf16, k16⟩, O16, b16⟩
  have O4 := ok_show_value (P := l.prog) (w := w) (base := base) F4 bl (C_number_text.mono (by decide)) (M_Domain_worth_Numbers.mono (by decide)) (M_Domain_worth_Words.mono (by decide))
  have C_show_value : Callee l.prog w K mg base 4 "show_value" ["domain", "code"] (sp_show_value K cDomain cNumbers cWords) := ⟨_, _, O4, b4, k4, PySem.W.mg_of X G a4⟩
  have O5 := ok_verdict_text (P := l.prog) (w := w) (base := base) F5 bl (C_show_value.mono (by decide))
  have C_verdict_text : Callee l.prog w K mg base 5 "verdict_text" ["outcome", "verdict"] (sp_verdict_text K cDomain cNumbers cWords) := ⟨_, _, O5, b5, k5, PySem.W.mg_of X G a5⟩
  exact ok_law F19 bl (C_law_cell.mono (by decide)) (C_law_text.mono (by decide)) (C_law_words.mono (by decide)) (K_Words___init___Words.mono (by decide)) (K_Numbers___init___Numbers.mono (by decide)) (C_verdict_text.mono (by decide))
theorem walk {l : PySem.W.OpenLaw} {q : Program} {loose : List Str} {XP : (Str → Option Value) → Heap → Prop} {YP : World → Heap → Prop} {d : DefRec} {K : Params → PySem.W.Frag} (hn : l.most = some 63) (hdf : d.params.defaults = [])
    (hY : ∀ (w : World) (h : Heap), YP w h → (K w.params).In h)
    (F : ∀ (w : World) (mg : Str → Option Value) (fa : Addr) (h : Heap), (K w.params).In h → h.Ns mainGlobals mg → mg d.name = some (.ref fa) →
      ∃ fd : FuncData, (∀ (s : Shared) (u : Value), BindsTo s fd ⟨[u], []⟩ [("script", u)]) ∧ ∀ base : Heap, (K w.params).In base → base.Ns mainGlobals mg → FnOk l.prog w (K w.params) mg base CX0 6 fa fd ["script"] (sp_law (K w.params))) :
    PySem.W.WalkO q loose XP YP l.row.toRowW d [] (fun f vs => PySem.call f vs) :=
  L2.walk_of (n := 63) (k := 6) (x := "script") (CX := fun _ => CX0) (sp := fun w => sp_law (K w.params)) hn (by decide) hdf ⟨rfl, by decide, by decide⟩ hY F (fun _ _ a ns hl _ hS => ⟨a, ns, rfl, hS, hl, fun _ => rfl⟩) fun _ _ _ _ _ z => z
end My
def PySem.W.Fast.tw4224066331909831371 : Unit := ()
def PySem.W.Fast.tw4743846324814533129 : Unit := ()
def PySem.W.Fast.tw12275412689125511678 : Unit := ()
def PySem.W.Fast.tw10943531477239482421 : Unit := ()
def PySem.W.Fast.tw14466107034147403933 : Unit := ()
def PySem.W.Fast.tw13165408397340441928 : Unit := ()
def PySem.W.Fast.tw402936217951127182 : Unit := ()
def PySem.W.Fast.tw4261684828084238159 : Unit := ()
def PySem.W.Fast.tw7984577587210665046 : Unit := ()
def PySem.W.Fast.tw13948952269270172759 : Unit := ()
def PySem.W.Fast.tw9468234460531510159 : Unit := ()
def PySem.W.Fast.tw9220139305899180886 : Unit := ()
def PySem.W.Fast.tw9255378547165382610 : Unit := ()
def PySem.W.Fast.tw8717516456717984120 : Unit := ()
def PySem.W.Fast.tw18333819149168291072 : Unit := ()
def PySem.W.Fast.tw18143080822481705110 : Unit := ()
def PySem.W.Fast.tw5676646758037388034 : Unit := ()
def PySem.W.Fast.tw17237510310685501922 : Unit := ()
def PySem.W.Fast.tw8149191207506709398 : Unit := ()
def PySem.W.Fast.tw17536424971087448295 : Unit := ()
def PySem.W.Fast.tw17251573599052066551 : Unit := ()
def PySem.W.Fast.tw931960024585672357 : Unit := ()
def PySem.W.Fast.tw6065209978257219830 : Unit := ()
def PySem.W.Fast.tw3007129931499402989 : Unit := ()
def PySem.W.Fast.tw10289528442018896480 : Unit := ()
def PySem.W.Fast.tw14537062073174602358 : Unit := ()
def PySem.W.Fast.tw11114805279830409994 : Unit := ()
def PySem.W.Fast.tw6381766706116746973 : Unit := ()
def PySem.W.Fast.tw14053618344813498500 : Unit := ()
def PySem.W.Fast.tw14296121997330053685 : Unit := ()
def PySem.W.Fast.tw4749338461663810565 : Unit := ()
def PySem.W.Fast.tw3630804616977647354 : Unit := ()
def PySem.W.Fast.tw15837020670992919646 : Unit := ()
def PySem.W.Fast.tw15991099674354581352 : Unit := ()
def PySem.W.Fast.tw1013884789026459164 : Unit := ()
def PySem.W.Fast.tw3047433506984065756 : Unit := ()
def PySem.W.Fast.tw3234892145609603232 : Unit := ()
def PySem.W.Fast.tw12280713575032520592 : Unit := ()
def PySem.W.Fast.tw6925067359615603381 : Unit := ()
def PySem.W.Fast.tw2893330220694422568 : Unit := ()
def PySem.W.Fast.tw156845458459876366 : Unit := ()
def PySem.W.Fast.tw16260390948653017553 : Unit := ()
def PySem.W.Fast.tw8918380575727270116 : Unit := ()
def PySem.W.Fast.tw2459037371900104451 : Unit := ()
def PySem.W.Fast.tw5609868074075425755 : Unit := ()
def PySem.W.Fast.tw16629350784626819804 : Unit := ()
def PySem.W.Fast.tw9803762039842020252 : Unit := ()
def PySem.W.Fast.tw8686475089019694216 : Unit := ()
def PySem.W.Fast.tw3021331996024377244 : Unit := ()
def PySem.W.Fast.tw5370541028425695002 : Unit := ()
def PySem.W.Fast.tw11313988817536664790 : Unit := ()
def PySem.W.Fast.tw10873054694390107435 : Unit := ()
def PySem.W.Fast.tw14321242883659383559 : Unit := ()
def PySem.W.Fast.tw8742044699102365200 : Unit := ()
def PySem.W.Fast.tw11551773943568320481 : Unit := ()
def PySem.W.Fast.tw5696355903483957990 : Unit := ()
def PySem.W.Fast.tw14681075038945851001 : Unit := ()
def PySem.W.Fast.tw775327340039903239 : Unit := ()
def PySem.W.Fast.tw11290014220543879373 : Unit := ()
def PySem.W.Fast.tw11199756688066378795 : Unit := ()
def PySem.W.Fast.tw12512532603184432153 : Unit := ()
def PySem.W.Fast.tw5081512233060903226 : Unit := ()
def PySem.W.Fast.tw10686389813071117757 : Unit := ()
def PySem.W.Fast.tw8609952573736093223 : Unit := ()
def PySem.W.Fast.tw16983688856481675434 : Unit := ()
def PySem.W.Fast.tw3097928876021225384 : Unit := ()
def PySem.W.Fast.tw8895881965063159214 : Unit := ()
def PySem.W.Fast.tw7975591101441814127 : Unit := ()
def PySem.W.Fast.tw16490010961675101912 : Unit := ()
def PySem.W.Fast.tw15517923080375325107 : Unit := ()
def PySem.W.Fast.tw7045650022605076028 : Unit := ()
def PySem.W.Fast.tw13464947389381020623 : Unit := ()
def PySem.W.Fast.tw14922271071300209289 : Unit := ()
def PySem.W.Fast.tw1611408815767997683 : Unit := ()
def PySem.W.Fast.tw17540562064844274015 : Unit := ()
def PySem.W.Fast.tw1722763947252453931 : Unit := ()
def PySem.W.Fast.tw6904041050479920040 : Unit := ()
def PySem.W.Fast.tw13432005437940358792 : Unit := ()
def PySem.W.Fast.tw13487217362733429514 : Unit := ()
def PySem.W.Fast.tw15076119985589462328 : Unit := ()
def PySem.W.Fast.tw8724652147196605096 : Unit := ()
def PySem.W.Fast.tw17076109906776763285 : Unit := ()
def PySem.W.Fast.tw1291910104970128481 : Unit := ()
def PySem.W.Fast.tw5460841722015744375 : Unit := ()
def PySem.W.Fast.tw8373684154926019661 : Unit := ()
def PySem.W.Fast.tw9243845993802803056 : Unit := ()
def PySem.W.Fast.tw3885439347453837380 : Unit := ()
def PySem.W.Fast.tw15951541326967336708 : Unit := ()
def PySem.W.Fast.tw13396067837939147087 : Unit := ()
def PySem.W.Fast.tw7002479056268581577 : Unit := ()
def PySem.W.Fast.tw14089001563687503645 : Unit := ()
def PySem.W.Fast.tw4156430797374702204 : Unit := ()
def PySem.W.Fast.tw4634389180495134448 : Unit := ()
def PySem.W.Fast.tw3148186549541691152 : Unit := ()
def PySem.W.Fast.tw9985979225219468646 : Unit := ()
def PySem.W.Fast.tw17469064489010935231 : Unit := ()
def PySem.W.Fast.tw18027591974829782849 : Unit := ()
def PySem.W.Fast.tw2803619515318158672 : Unit := ()
def PySem.W.Fast.tw16622922758940630026 : Unit := ()
def PySem.W.Fast.tw17106700518663597729 : Unit := ()
def PySem.W.Fast.tw15303203287934972145 : Unit := ()
def PySem.W.Fast.tw10891063089676806203 : Unit := ()
def PySem.W.Fast.tw3175253129402882833 : Unit := ()
def PySem.W.Fast.tw12839187861999468233 : Unit := ()
def PySem.W.Fast.tw10024373990676622875 : Unit := ()
def PySem.W.Fast.tw11625311222381387314 : Unit := ()
def PySem.W.Fast.tw2124877461435108360 : Unit := ()
def PySem.W.Fast.tw2164912121789634041 : Unit := ()
def PySem.W.Fast.tw5380519769135330740 : Unit := ()
def PySem.W.Fast.tw12067241162089708864 : Unit := ()
def PySem.W.Fast.tw17815263203289409715 : Unit := ()
def PySem.W.Fast.tw4250247995803989934 : Unit := ()
def PySem.W.Fast.tw10108926677005335432 : Unit := ()
def PySem.W.Fast.tw10996063141013933097 : Unit := ()
def PySem.W.Fast.tw8977711153940043094 : Unit := ()
def PySem.W.Fast.tw6307111315022366074 : Unit := ()
def PySem.W.Fast.tw13888722454089009753 : Unit := ()
def PySem.W.Fast.tw204815582213563393 : Unit := ()
def PySem.W.Fast.tw5951564685615680067 : Unit := ()
def PySem.W.Fast.tw8330996052128501937 : Unit := ()
def PySem.W.Fast.tw6413498169989929367 : Unit := ()
def PySem.W.Fast.tw6283188764485602669 : Unit := ()
def PySem.W.Fast.tw11889947328960700462 : Unit := ()
def PySem.W.Fast.tw5764343874044509830 : Unit := ()
def PySem.W.Fast.tw2282576213639855528 : Unit := ()
def PySem.W.Fast.tw11016231275220247214 : Unit := ()
def PySem.W.Fast.tw8267464632033767304 : Unit := ()
def PySem.W.Fast.tw517616768315672109 : Unit := ()
def PySem.W.Fast.tw5433889914684528183 : Unit := ()
def PySem.W.Fast.tw8954127097109080989 : Unit := ()
def PySem.W.Fast.tw9761370591923045699 : Unit := ()
def PySem.W.Fast.tw7923739137541384795 : Unit := ()
def PySem.W.Fast.tw1020785318465018268 : Unit := ()
def PySem.W.Fast.tw7601972790083759681 : Unit := ()
def PySem.W.Fast.tw7171649165891151772 : Unit := ()
def PySem.W.Fast.tw1995404106514149146 : Unit := ()
def PySem.W.Fast.tw3371000214330230702 : Unit := ()
def PySem.W.Fast.tw13641810826851274881 : Unit := ()
def PySem.W.Fast.tw9487632326861535352 : Unit := ()
def PySem.W.Fast.tw3981163749457170293 : Unit := ()
def PySem.W.Fast.tw11291184583485939798 : Unit := ()
def PySem.W.Fast.tw313173719088960896 : Unit := ()
def PySem.W.Fast.tw14953770964539090827 : Unit := ()
def PySem.W.Fast.tw6139598016089064416 : Unit := ()
def PySem.W.Fast.tw16786627510270309984 : Unit := ()
def PySem.W.Fast.tw16442467131740998250 : Unit := ()
def PySem.W.Fast.tw2450903876316118574 : Unit := ()
def PySem.W.Fast.tw5687239456922099985 : Unit := ()
def PySem.W.Fast.tw2843087144470322454 : Unit := ()
def PySem.W.Fast.tw7543256391921758971 : Unit := ()
def PySem.W.Fast.tw12315880674839346131 : Unit := ()
def PySem.W.Fast.tw15223268997823398989 : Unit := ()
def PySem.W.Fast.tw4863717481437423423 : Unit := ()
def PySem.W.Fast.tw13158510258279653845 : Unit := ()
def PySem.W.Fast.tw12568832659431376166 : Unit := ()
def PySem.W.Fast.tw13057330754759417410 : Unit := ()
def PySem.W.Fast.tw8484859044460180070 : Unit := ()
def PySem.W.Fast.tw5902027789973782304 : Unit := ()
def PySem.W.Fast.tw15408863301241158260 : Unit := ()
def PySem.W.Fast.tw13013299210075817237 : Unit := ()
def PySem.W.Fast.tw17186660176964040398 : Unit := ()
def PySem.W.Fast.tw8002482980381923653 : Unit := ()
def PySem.W.Fast.tw2133470460763501368 : Unit := ()
def PySem.W.Fast.tw5552293691404314146 : Unit := ()
def PySem.W.Fast.tw12223976820916366409 : Unit := ()
def PySem.W.Fast.tw7596783702863135536 : Unit := ()
def PySem.W.Fast.tw12672154239208259010 : Unit := ()
def PySem.W.Fast.tw1139152816410220553 : Unit := ()
def PySem.W.Fast.tw6981278696591480917 : Unit := ()
def PySem.W.Fast.tw12634821335016575030 : Unit := ()
def PySem.W.Fast.tw15509850269997577606 : Unit := ()
def PySem.W.Fast.tw10416416965730823080 : Unit := ()
def PySem.W.Fast.tw7869645128618618011 : Unit := ()
def PySem.W.Fast.tw4873215484148907421 : Unit := ()
def PySem.W.Fast.tw17445814332183501948 : Unit := ()
def PySem.W.Fast.tw562984727823828130 : Unit := ()
def PySem.W.Fast.tw1915672478579270610 : Unit := ()
def PySem.W.Fast.tw5158687605845709334 : Unit := ()
def PySem.W.Fast.tw3478893960749854256 : Unit := ()
def PySem.W.Fast.tw18172999725533115078 : Unit := ()
def PySem.W.Fast.tw9862505718128890447 : Unit := ()
def PySem.W.Fast.tw11936222783752403579 : Unit := ()
def PySem.W.Fast.tw3501927398049042019 : Unit := ()
def PySem.W.Fast.tw5145032690333302035 : Unit := ()
def PySem.W.Fast.tw6745359527584248235 : Unit := ()
def PySem.W.Fast.tw1549525915170891752 : Unit := ()
def PySem.W.Fast.tw5492577296041787036 : Unit := ()
def PySem.W.Fast.tw7530441795489184196 : Unit := ()
def PySem.W.Fast.tw9157888037117093756 : Unit := ()
def PySem.W.Fast.tw12685154469246459912 : Unit := ()
def PySem.W.Fast.tw13890100302443156712 : Unit := ()
def PySem.W.Fast.tw9878805383196629914 : Unit := ()
def PySem.W.Fast.tw10825402838693482588 : Unit := ()
def PySem.W.Fast.tw11639598939529877614 : Unit := ()
def PySem.W.Fast.tw10631628934643263448 : Unit := ()
def PySem.W.Fast.tw15016466376034867498 : Unit := ()
def PySem.W.Fast.tw10266094540562028845 : Unit := ()
def PySem.W.Fast.tw18355501344853994448 : Unit := ()
def PySem.W.Fast.tw16407635703788681888 : Unit := ()
def PySem.W.Fast.tw1395077685211203471 : Unit := ()
def PySem.W.Fast.tw17860051770570961913 : Unit := ()
def PySem.W.Fast.tw2482111201156743713 : Unit := ()
def PySem.W.Fast.tw2176707027966799126 : Unit := ()
def PySem.W.Fast.tw3500823070380411020 : Unit := ()
def PySem.W.Fast.tw3088677284335636377 : Unit := ()
def PySem.W.Fast.tw14265477149490325527 : Unit := ()
def PySem.W.Fast.tw13774177159621580502 : Unit := ()
def PySem.W.Fast.tw7396021045202647557 : Unit := ()
def PySem.W.Fast.tw870322714865039902 : Unit := ()
def PySem.W.Fast.tw8912535930288529111 : Unit := ()
def PySem.W.Fast.tw3423927438160388625 : Unit := ()
def PySem.W.Fast.tw14772521074203454321 : Unit := ()
def PySem.W.Fast.tw16260293806357899153 : Unit := ()
def PySem.W.Fast.tw15728673220914064193 : Unit := ()
def PySem.W.Fast.tw14089797355494219354 : Unit := ()
def PySem.W.Fast.tw7803097677902572537 : Unit := ()
def PySem.W.Fast.tw5611420394328895565 : Unit := ()
def PySem.W.Fast.tw4799966071585233759 : Unit := ()
def PySem.W.Fast.tw15523071237060089217 : Unit := ()
def PySem.W.Fast.tw10352943612724651481 : Unit := ()
def PySem.W.Fast.tw10581436923231036837 : Unit := ()
def PySem.W.Fast.tw5565538428436652092 : Unit := ()
def PySem.W.Fast.tw7660494753456261241 : Unit := ()
def PySem.W.Fast.tw13308748737148809615 : Unit := ()
def PySem.W.Fast.tw17848383887095137937 : Unit := ()
def PySem.W.Fast.tw16724239622451858055 : Unit := ()
def PySem.W.Fast.tw12908332715184405044 : Unit := ()
def PySem.W.Fast.tw5335099378765861619 : Unit := ()
def PySem.W.Fast.tw1583058745842844967 : Unit := ()
def PySem.W.Fast.tw6909431439209623106 : Unit := ()
def PySem.W.Fast.tw6814536002948484433 : Unit := ()
def PySem.W.Fast.tw17249431113897417102 : Unit := ()
def PySem.W.Fast.tw3025872700174572318 : Unit := ()
def PySem.W.Fast.tw17034909582286198217 : Unit := ()
def PySem.W.Fast.tw7002348154200627725 : Unit := ()
def PySem.W.Fast.tw16225642376906941226 : Unit := ()
def PySem.W.Fast.tw3093996749716271017 : Unit := ()
def PySem.W.Fast.tw16138580207204169553 : Unit := ()
def PySem.W.Fast.tw1859802113257766362 : Unit := ()
def PySem.W.Fast.tw16407379111965015210 : Unit := ()
def PySem.W.Fast.tw2219502232677876185 : Unit := ()
def PySem.W.Fast.tw391169804979632491 : Unit := ()
def PySem.W.Fast.tw1559714053921016951 : Unit := ()
def PySem.W.Fast.tw6536819423498284125 : Unit := ()
def PySem.W.Fast.tw2782812593230344859 : Unit := ()
def PySem.W.Fast.tw7337847348098744937 : Unit := ()
def PySem.W.Fast.tw14049790825356275837 : Unit := ()
def PySem.W.Fast.tw10213506738357982522 : Unit := ()
def PySem.W.Fast.tw13990911710125857273 : Unit := ()
def PySem.W.Fast.tw10828855411163267963 : Unit := ()
def PySem.W.Fast.tw17533828428425779238 : Unit := ()
def PySem.W.Fast.tw2721424570776164271 : Unit := ()
def PySem.W.Fast.tw6298500845433598907 : Unit := ()
def PySem.W.Fast.tw5422024482369358413 : Unit := ()
def PySem.W.Fast.tw18281834113330149779 : Unit := ()
def PySem.W.Fast.tw8710582487909231842 : Unit := ()
def PySem.W.Fast.tw11003519026418274080 : Unit := ()
def PySem.W.Fast.tw2764474346976354739 : Unit := ()
def PySem.W.Fast.tw17962907068399304539 : Unit := ()
def PySem.W.Fast.tw9389030041255627934 : Unit := ()
def PySem.W.Fast.tw7227563179803061804 : Unit := ()
def PySem.W.Fast.tw6350769988209914717 : Unit := ()
def PySem.W.Fast.tw8167016816163288296 : Unit := ()
def PySem.W.Fast.tw17551173888331181008 : Unit := ()
def PySem.W.Fast.tw12114926046465352989 : Unit := ()
def PySem.W.Fast.tw6928434195576075599 : Unit := ()
def PySem.W.Fast.tw12282590174151927674 : Unit := ()
def PySem.W.Fast.tw5567440502513253767 : Unit := ()
def PySem.W.Fast.tw11970799892361593644 : Unit := ()
def PySem.W.Fast.tw3009090553006838162 : Unit := ()
def PySem.W.Fast.tw10152904188558517096 : Unit := ()
def PySem.W.Fast.tw3234346194601000411 : Unit := ()
def PySem.W.Fast.tw6946960136307734697 : Unit := ()
def PySem.W.Fast.tw97984425161140385 : Unit := ()
def PySem.W.Fast.tw13166337956579413411 : Unit := ()
def PySem.W.Fast.tw18216208395047045827 : Unit := ()
def PySem.W.Fast.tw11995850969019726733 : Unit := ()
def PySem.W.Fast.tw15018497425337218972 : Unit := ()
def PySem.W.Fast.tw14972809713991598454 : Unit := ()
def PySem.W.Fast.tw3063267696780143749 : Unit := ()
def PySem.W.Fast.tw9616684952782092538 : Unit := ()
def PySem.W.Fast.tw16812103706163172588 : Unit := ()
def PySem.W.Fast.tw10914189183459768697 : Unit := ()
def PySem.W.Fast.tw4423378030997389267 : Unit := ()
def PySem.W.Fast.tw11214695385893600616 : Unit := ()
def PySem.W.Fast.tw3251232771905487317 : Unit := ()
def PySem.W.Fast.tw12529961402638284554 : Unit := ()
def PySem.W.Fast.tw13863028473139586699 : Unit := ()
def PySem.W.Fast.tw17151390216451201836 : Unit := ()
def PySem.W.Fast.tw14479079094096337276 : Unit := ()
def PySem.W.Fast.tw9600759390366727234 : Unit := ()
def PySem.W.Fast.tw3189530006544642466 : Unit := ()
def PySem.W.Fast.tw6732175390217447602 : Unit := ()
def PySem.W.Fast.tw15578750605585093590 : Unit := ()
def PySem.W.Fast.tw3644358097325998070 : Unit := ()
def PySem.W.Fast.tw5231943653431072091 : Unit := ()
def PySem.W.Fast.tw3875592018229802116 : Unit := ()
def PySem.W.Fast.tw13331745348220939845 : Unit := ()
def PySem.W.Fast.tw18020645531186551561 : Unit := ()
def PySem.W.Fast.tw10196774205777848061 : Unit := ()
def PySem.W.Fast.tw14599110691508435338 : Unit := ()
def PySem.W.Fast.tw4539613105391445257 : Unit := ()
def PySem.W.Fast.tw1578660487034299985 : Unit := ()
def PySem.W.Fast.tw11082777331643765117 : Unit := ()
def PySem.W.Fast.tw16718747131908031620 : Unit := ()
def PySem.W.Fast.tw4702829016755677496 : Unit := ()
def PySem.W.Fast.tw6609193690554668694 : Unit := ()
def PySem.W.Fast.tw1248486132110872342 : Unit := ()
def PySem.W.Fast.tw6085461716751990426 : Unit := ()
def PySem.W.Fast.tw10554087252329862107 : Unit := ()
def PySem.W.Fast.tw8826305142973276504 : Unit := ()
def PySem.W.Fast.tw8561850963701895708 : Unit := ()
def PySem.W.Fast.tw6714552060458961265 : Unit := ()
def PySem.W.Fast.tw15640568453874856809 : Unit := ()
def PySem.W.Fast.tw12919652342914044286 : Unit := ()
def PySem.W.Fast.tw12199427269494956525 : Unit := ()
def PySem.W.Fast.tw16102622381956822463 : Unit := ()
def PySem.W.Fast.tw10498657203812518426 : Unit := ()
def PySem.W.Fast.tw17997289886662573013 : Unit := ()
def PySem.W.Fast.tw4693647988442427750 : Unit := ()
def PySem.W.Fast.tw18392394700674390081 : Unit := ()
def PySem.W.Fast.tw1087302153995139635 : Unit := ()
def PySem.W.Fast.tw10405935678208298993 : Unit := ()
def PySem.W.Fast.tw10373425745507324356 : Unit := ()
def PySem.W.Fast.tw4858872008560622011 : Unit := ()
def PySem.W.Fast.tw14576307026842161547 : Unit := ()
def PySem.W.Fast.tw10541078154733019465 : Unit := ()
def PySem.W.Fast.tw9360136426003772552 : Unit := ()
def PySem.W.Fast.tw14699541687054123635 : Unit := ()
def PySem.W.Fast.tw13686672613149387967 : Unit := ()
def PySem.W.Fast.tw15304236594072148096 : Unit := ()
def PySem.W.Fast.tw8833422232059313463 : Unit := ()
def PySem.W.Fast.tw16953974695003110800 : Unit := ()
def PySem.W.Fast.tw14379822417544185065 : Unit := ()
open PySem PySem.W PyProof.Rows
set_option maxRecDepth 100000 in
set_option maxHeartbeats 0 in
theorem PySem.Challenge.cw_rowjudge_k92_verdicts_shown_holds : PySem.Challenge.rw_rowjudge_k92_verdicts_shown.Holds := by
  w_on; o_law; k_head; (case hw => w_witness2)
  k_fill
  refine My.walk (l := PySem.Challenge.rw_rowjudge_k92_verdicts_shown) rfl rfl (fun w h Y => PySem.W.kIn_of Y) ?F
  case F =>
    intro w mg fa h KX G hmg
    refine' My.all_mk KX G hmg ?n_Domain ?n_Numbers ?n_Words ?a0 ?l0 ?c0 ?k0 ?a1 ?l1 ?c1 ?k1 ?a2 ?l2 ?c2 ?k2 ?a3 ?l3 ?c3 ?k3 ?a4 ?l4 ?c4 ?k4 ?a5 ?l5 ?c5 ?k5 ?a6 ?l6 ?c6 ?k6 ?a7 ?l7 ?c7 ?k7 ?a8 ?l8 ?c8 ?k8 ?i9 ?if9 ?im9 ?ik9 ?l9 ?c9 ?k9 ?b_s10 ?b_r10 ?b_a10 ?l10 ?c10 ?k10 ?i11 ?if11 ?im11 ?ik11 ?l11 ?c11 ?k11 ?b_s12 ?b_r12 ?b_a12 ?l12 ?c12 ?k12 ?m13 ?mf13 ?l13 ?c13 ?k13 ?m14 ?mf14 ?l14 ?c14 ?k14 ?m15 ?mf15 ?l15 ?c15 ?k15 ?m16 ?mf16 ?l16 ?c16 ?k16 ?m17 ?mf17 ?l17 ?c17 ?k17 ?m18 ?mf18 ?l18 ?c18 ?k18 ?a19 ?l19 ?c19 ?k19 ?z0 ?z1 ?z2 ?z3 ?z4 ?z5 ?z6 ?z7 ?y0 ?x0 ?y1 ?x1 ?y2 ?x2 ?pg_Numbers ?hd_Numbers ?po_Numbers ?sa_Numbers ?pg_Words ?hd_Words ?po_Words ?sa_Words ?ta_Numbers ?tn_Numbers ?tt_Numbers ?tm_Numbers ?ta_Words ?tn_Words ?tt_Words ?tm_Words ?na_Numbers_low ?na_Numbers_high ?na_Words_low ?na_Words_high ?na_Words_words ?f_nw ?f_ww
    (case n_Domain => k_is)
    (case n_Numbers => k_is)
    (case n_Words => k_is)
    (case a0 => k_is); (case l0 => k_is); (case c0 => k_is); (case k0 => k_is)
    (case a1 => k_is); (case l1 => k_is); (case c1 => k_is); (case k1 => k_is)
    (case a2 => k_is); (case l2 => k_is); (case c2 => k_is); (case k2 => k_is)
    (case a3 => k_is); (case l3 => k_is); (case c3 => k_is); (case k3 => k_is)
    (case a4 => k_is); (case l4 => k_is); (case c4 => k_is); (case k4 => k_is)
    (case a5 => k_is); (case l5 => k_is); (case c5 => k_is); (case k5 => k_is)
    (case a6 => k_is); (case l6 => k_is); (case c6 => k_is); (case k6 => k_is)
    (case a7 => k_is); (case l7 => k_is); (case c7 => k_is); (case k7 => k_is)
    (case a8 => k_is); (case l8 => k_is); (case c8 => k_is); (case k8 => k_is)
    (case i9 => k_is); (case if9 => k_is); (case im9 => k_is); (case ik9 => k_is); (case l9 => k_is); (case c9 => k_is); (case k9 => k_is)
    (case b_s10 => k_is); (case b_r10 => k_is); (case b_a10 => k_is); (case l10 => k_is); (case c10 => k_is); (case k10 => k_is)
    (case i11 => k_is); (case if11 => k_is); (case im11 => k_is); (case ik11 => k_is); (case l11 => k_is); (case c11 => k_is); (case k11 => k_is)
    (case b_s12 => k_is); (case b_r12 => k_is); (case b_a12 => k_is); (case l12 => k_is); (case c12 => k_is); (case k12 => k_is)
    (case m13 => k_is); (case mf13 => k_is); (case l13 => k_is); (case c13 => k_is); (case k13 => k_is)
    (case m14 => k_is); (case mf14 => k_is); (case l14 => k_is); (case c14 => k_is); (case k14 => k_is)
    (case m15 => k_is); (case mf15 => k_is); (case l15 => k_is); (case c15 => k_is); (case k15 => k_is)
    (case m16 => k_is); (case mf16 => k_is); (case l16 => k_is); (case c16 => k_is); (case k16 => k_is)
    (case m17 => k_is); (case mf17 => k_is); (case l17 => k_is); (case c17 => k_is); (case k17 => k_is)
    (case m18 => k_is); (case mf18 => k_is); (case l18 => k_is); (case c18 => k_is); (case k18 => k_is)
    (case a19 => k_is); (case l19 => k_is); (case c19 => k_is); (case k19 => k_is)
    (case z0 => k_is)
    (case z1 => k_is)
    (case z2 => k_is)
    (case z3 => k_is)
    (case z4 => k_is)
    (case z5 => k_is)
    (case z6 => k_is)
    (case z7 => k_is)
    (case y0 => k_is)
    (case x0 => exact ⟨_, rfl⟩)
    (case y1 => k_is)
    (case x1 => exact ⟨_, rfl⟩)
    (case y2 => k_is)
    (case x2 => exact ⟨_, rfl⟩)
    (case pg_Numbers => first | k_is | rfl | with_unfolding_all rfl)
    (case hd_Numbers => first | k_is | rfl | with_unfolding_all rfl)
    (case po_Numbers => first | k_is | rfl | with_unfolding_all rfl)
    (case sa_Numbers => first | k_is | rfl | with_unfolding_all rfl)
    (case pg_Words => first | k_is | rfl | with_unfolding_all rfl)
    (case hd_Words => first | k_is | rfl | with_unfolding_all rfl)
    (case po_Words => first | k_is | rfl | with_unfolding_all rfl)
    (case sa_Words => first | k_is | rfl | with_unfolding_all rfl)
    (case ta_Numbers => first | k_is | rfl | with_unfolding_all rfl)
    (case tn_Numbers => first | k_is | rfl | with_unfolding_all rfl)
    (case tt_Numbers => first | k_is | rfl | with_unfolding_all rfl)
    (case tm_Numbers => first | k_is | rfl | with_unfolding_all rfl)
    (case ta_Words => first | k_is | rfl | with_unfolding_all rfl)
    (case tn_Words => first | k_is | rfl | with_unfolding_all rfl)
    (case tt_Words => first | k_is | rfl | with_unfolding_all rfl)
    (case tm_Words => first | k_is | rfl | with_unfolding_all rfl)
    (case na_Numbers_low => first | k_is | rfl | with_unfolding_all rfl)
    (case na_Numbers_high => first | k_is | rfl | with_unfolding_all rfl)
    (case na_Words_low => first | k_is | rfl | with_unfolding_all rfl)
    (case na_Words_high => first | k_is | rfl | with_unfolding_all rfl)
    (case na_Words_words => first | k_is | rfl | with_unfolding_all rfl)
    (case f_nw => first | k_is | rfl | with_unfolding_all rfl)
    (case f_ww => first | k_is | rfl | with_unfolding_all rfl)


