import PyProof.Rows.All
import Wide.All
import OpenK.AllK
import Wide.FinOn
import Lean
import PyProof.EqAt
import PyProof.EqKinds
import PyProof.TupleCall
import KE.KIntText
import KE.KTryMore
import KE.KIsAll
import PyProof.ZipIter
import KE.KRevIter
import PySem.Challenge.RW_rowjudge_k76_lines_written
set_option Elab.async false
set_option linter.all false
set_option maxRecDepth 100000
/-! THE HAND LAYER, for ints, bools, texts, own classes, LISTS and tuples (index, slices, in, append, pop ..), calls, loops. Paste it whole ahead of your own text; what your proof does not reach may be deleted. -/
namespace L2
open PySem PySem.Spec PyProof.Rows

/-- a key: an int or a str -/
abbrev Key := Sum Int Str
def keyIs : Key → Value → Bool
  | .inl k, v => Value.isInt k v
  | .inr x, v => Value.isStrOf x v
def keyH (w : World) : Key → Int
  | .inl k => hashInt k
  | .inr x => hashStr w x
theorem keyIs_shape : ∀ {k : Key} {v : Value}, keyIs k v = true → (∃ i t, k = Sum.inl i ∧ v = Value.int i t) ∨ (∃ x t, k = Sum.inr x ∧ v = Value.str x t)
  | .inl i, v, h => by
    obtain ⟨t, e⟩ := Value.isInt_shape (k := i) (v := v) h
    exact .inl ⟨i, t, rfl, e⟩
  | .inr x, v, h => by
    obtain ⟨t, e⟩ := Value.isStrOf_shape (x := x) (v := v) h
    exact .inr ⟨x, t, rfl, e⟩
theorem key_ll (a b : Int) : decide ((Sum.inl a : Key) = Sum.inl b) = (a == b) := by
  by_cases e : a = b
  · subst e; simp
  · have h : ¬ (Sum.inl a : Key) = Sum.inl b := fun q => e (Sum.inl.inj q)
    rw [decide_eq_false h]
    exact (beq_eq_false_iff_ne.mpr e).symm
theorem key_rr (a b : Str) : decide ((Sum.inr a : Key) = Sum.inr b) = decide (a = b) := by
  by_cases e : a = b
  · subst e; simp
  · have h : ¬ (Sum.inr a : Key) = Sum.inr b := fun q => e (Sum.inr.inj q)
    rw [decide_eq_false h, decide_eq_false e]
theorem key_lr (a : Int) (b : Str) : decide ((Sum.inl a : Key) = Sum.inr b) = false := decide_eq_false (fun q => nomatch q)
theorem key_rl (a : Str) (b : Int) : decide ((Sum.inr a : Key) = Sum.inl b) = false := decide_eq_false (fun q => nomatch q)

def mixKind (prog : Program) (w : World) : PySem.KeyKind prog w Key where
  is := keyIs
  hash := keyH w
  inj := fun v a b ha hb => by
    rcases keyIs_shape ha with ⟨i, t, rfl, rfl⟩ | ⟨x, t, rfl, rfl⟩
    · rcases keyIs_shape hb with ⟨j, u, rfl, e⟩ | ⟨y, u, rfl, e⟩
      · injection e with e1 _; rw [e1]
      · exact nomatch e
    · rcases keyIs_shape hb with ⟨j, u, rfl, e⟩ | ⟨y, u, rfl, e⟩
      · exact nomatch e
      · injection e with e1 _; rw [e1]
  byValue := fun k v h => by
    rcases keyIs_shape h with ⟨i, t, rfl, rfl⟩ | ⟨x, t, rfl, rfl⟩ <;> rfl
  pyHash := fun hv h => by
    rcases keyIs_shape hv with ⟨i, t, rfl, rfl⟩ | ⟨x, t, rfl, rfl⟩
    · exact wpAny_pyHash_int h
    · exact wpAny_pyHash_str h
  eqBool := fun hu hv h => by
    rcases keyIs_shape hu with ⟨i, t, rfl, rfl⟩ | ⟨x, t, rfl, rfl⟩
    · rcases keyIs_shape hv with ⟨j, u, rfl, rfl⟩ | ⟨y, u, rfl, rfl⟩
      · rw [key_ll] at h; exact wpAny_eqBool_int h
      · rw [key_lr] at h; exact SeqAt.EqAt.int_str i t y u _ _ _ _ h
    · rcases keyIs_shape hv with ⟨j, u, rfl, rfl⟩ | ⟨y, u, rfl, rfl⟩
      · rw [key_rl] at h; exact SeqAt.EqAt.str_int x t j u _ _ _ _ h
      · rw [key_rr] at h; exact wpAny_eqBool_str h
  «strs» := fun k x t v h => by
    rcases keyIs_shape h with ⟨i, u, rfl, e⟩ | ⟨y, u, rfl, e⟩
    · exact nomatch e
    · injection e with e1 _
      subst e1
      cases v <;> rfl

end L2

namespace L2
open PySem PySem.Spec PyProof.Rows

/-- a value, without the heap -/
inductive V where
  | non | bl (b : Bool) | int (i : Int) | str (x : Str) | byt (b : Array UInt8) | flt (b : UInt64) | ref (a : Addr) | ty (n : String)
  deriving DecidableEq

def RelV : V → Value → Prop
  | .non, u => u = Value.none
  | .bl b, u => u = Value.bool b
  | .int i, u => ∃ t, u = Value.int i t
  | .str x, u => ∃ t, u = Value.str x t
  | .byt b, u => ∃ t, u = Value.bytes b t
  | .flt b, u => ∃ t, u = Value.float b t
  | .ref a, u => u = Value.ref a
  | .ty n, u => u = Value.type n

abbrev Vals : List V → List Value → Prop := Paired RelV
theorem Vals.length {xs : List V} {us : List Value} (r : Vals xs us) : xs.length = us.length := Paired.length r
theorem Vals.get : ∀ {xs : List V} {us : List Value} {i : Nat} {x : V}, Vals xs us → xs[i]? = some x → ∃ u, us[i]? = some u ∧ RelV x u
  | _, _, _, _, .nil, e => by simp at e
  | _, _, 0, _, .cons r _, e => by simp at e; subst e; exact ⟨_, rfl, r⟩
  | _, _, i + 1, x, .cons _ t, e => by
    obtain ⟨u, h1, h2⟩ := Vals.get (i := i) (x := x) t (by simpa using e)
    exact ⟨u, by simpa using h1, h2⟩
theorem Vals.append : ∀ {xs ys : List V} {us ws : List Value}, Vals xs us → Vals ys ws → Vals (xs ++ ys) (us ++ ws)
  | _, _, _, _, .nil, s => s
  | _, _, _, _, .cons r t, s => .cons r (Vals.append t s)
theorem Vals.take : ∀ {xs : List V} {us : List Value} (n : Nat), Vals xs us → Vals (xs.take n) (us.take n)
  | _, _, 0, _ => .nil
  | _, _, _ + 1, .nil => .nil
  | _, _, n + 1, .cons r t => .cons r (Vals.take n t)
theorem Vals.drop : ∀ {xs : List V} {us : List Value} (n : Nat), Vals xs us → Vals (xs.drop n) (us.drop n)
  | _, _, 0, r => r
  | _, _, _ + 1, .nil => .nil
  | _, _, n + 1, .cons _ t => Vals.drop n t
def RelO : Option V → Option Value → Prop
  | some v, some u => RelV v u
  | none, none => True
  | _, _ => False
def KV {κ : Type} : List (κ × V) → List (κ × Value) → Prop := Paired fun (p : κ × V) (q : κ × Value) => p.1 = q.1 ∧ RelV p.2 q.2

/-- a key of a dict (00_mix): an int or a text -/
def kV : Key → V
  | .inl i => .int i
  | .inr x => .str x

/-- what stands at a tracked address -/
inductive HO where
  /-- a list -/
  | lst (xs : List V)
  /-- a tuple (never changes) -/
  | tup (xs : List V)
  /-- a dict whose keys are ints and texts; one whose keys are tuples of ints and texts (the empty one is both) -/
  | dK (kvs : List (Key × V)) | dT (kvs : List (List Key × V))
  /-- a set of ints: its members, its size -/
  | set (S : Int → Bool) (n : Nat)
  /-- an instance of the class at C, its dict at dx, its attributes -/
  | ins (C dx : Addr) (fs : List (Str × V))
  /-- the dict of the instance at x -/
  | own (x : Addr)
  /-- the dict of an exception -/
  | xd (fs : List (Str × V))
  /-- a bound method, f of x -/
  | met (f x : Addr)
  /-- a range object lo, lo + 1, .. below hi -/
  | rng (lo hi : Int)
  /-- a thing that is known to the object (the script; a dict while a loop walks it): read, never written while it is so -/
  | frz (o : Obj) (u : HO)
  /-- a code object's table -/
  | tbl (ps : Array Value)
  /-- any other thing, by what is true of its one object (a def of one's own: SetO a S n := HO.ext fun h => ..) -/
  | ext (φ : Heap → Prop)

abbrev Hp := Addr → Option HO
def upd (H : Hp) (a : Addr) (o : HO) : Hp := fun b => if b = a then some o else H b
theorem upd_same {H : Hp} {a : Addr} {o : HO} : upd H a o a = some o := by unfold upd; rw [if_pos rfl]
theorem upd_ne {H : Hp} {a b : Addr} {o : HO} (h : b ≠ a) : upd H a o b = H b := by unfold upd; rw [if_neg h]
/-- two objects of different content stand apart -/
theorem ne_of {H : Hp} {a b : Addr} {o u : HO} (h : H a = some o) (h' : H b = some u) (d : o ≠ u) : a ≠ b := by
  intro e; subst e; rw [h] at h'; exact d (Option.some.inj h')
theorem ne_of_none {H : Hp} {a b : Addr} {o : HO} (h : H a = some o) (h' : H b = none) : a ≠ b := by
  intro e; subst e; rw [h] at h'; cases h'

section
variable (P : Program) (w : World)
def ObjOk (H : Hp) (h : Heap) (a : Addr) : HO → Prop
  | .lst xs => xs.length ≤ sizeLine ∧ ∃ (its : List Value) (n : Nat), Vals xs its ∧ h.get? a = some { cls := .type "list", data := .seq its.toArray n }
  | .tup xs => xs.length ≤ sizeLine ∧ ∃ its : List Value, Vals xs its ∧ IsTup h a its.toArray
  | .dK kvs => kvs.length ≤ sizeLine ∧ (a == sysModules) = false ∧ ∃ vs, KV kvs vs ∧ h.DictOf (mixKind P w) a vs
  | .dT kvs => kvs.length ≤ sizeLine ∧ (a == sysModules) = false ∧ ∃ xs : List (List Key × Addr × Value),
      Paired (fun (p : List Key × V) (q : List Key × Addr × Value) => p.1 = q.1 ∧ H q.2.1 = some (.tup (p.1.map kV)) ∧ RelV p.2 q.2.2) kvs xs ∧
      ∃ o es ep, h.get? a = some o ∧ o.ExactDict ∧ o.data = .dict es ep ∧ es.toList = xs.map (entryOfKey (tupleKind (mixKind P w))) ∧ (xs.map (·.1)).Nodup
  | .set S n => h.SetOf (intKind P w) a S n
  | .ins C dx fs => H dx = some (.own a) ∧ fs.length ≤ 1000 ∧ dx ≠ a ∧ h.get? a = some (PySem.W.instObj C dx) ∧
      ∃ mA, h.Ns1 dx mA ∧ (∀ f, RelO (fs.lookup f) (mA f)) ∧ PySem.Within mA (fs.map (·.1))
  | .own _ => ∃ o, h.get? a = some o
  | .xd fs => ∃ mA, h.Ns1 a mA ∧ ∀ f, RelO (fs.lookup f) (mA f)
  | .rng lo hi => ∃ t u v, h.get? a = some { cls := .type "range", data := .fields #[.int lo t, .int hi u, .int 1 v] }
  | .frz o u => h.get? a = some o ∧ ObjOk H h a u
  | .tbl ps => h.get? a = some { cls := .none, data := .fields ps }
  | .met f x => h.get? a = some (PySem.W.methodObj (.ref f) (.ref x))
  | .ext φ => φ h ∧ (∃ o, h.get? a = some o) ∧ ∀ h1 h2 : Heap, φ h1 → (∀ o, h1.get? a = some o → h2.get? a = some o) → φ h2
/-- the abstract heap is held -/
def HOk (H : Hp) (h : Heap) : Prop := ∀ a o, H a = some o → ObjOk P w H h a o
end

section
variable {P : Program} {w : World} {H H' : Hp} {h h' : Heap} {a : Addr} {o : HO}
theorem ObjOk.lt (x : ObjOk P w H h a o) : a < h.objs.size := by
  cases o with
  | lst xs => obtain ⟨_, _, _, _, e⟩ := x; exact Heap.lt_size e
  | tup xs => obtain ⟨_, _, _, p⟩ := x; exact p.lt
  | dK kvs => obtain ⟨_, _, _, _, o, _, _, e, _⟩ := x; exact Heap.lt_size e
  | dT kvs => obtain ⟨_, _, _, _, o, _, _, e, _⟩ := x; exact Heap.lt_size e
  | set S n => obtain ⟨o, _, _, _, e, _⟩ := x; exact Heap.lt_size e
  | ins C dx fs => obtain ⟨_, _, _, e, _⟩ := x; exact Heap.lt_size e
  | own y => obtain ⟨_, e⟩ := x; exact Heap.lt_size e
  | xd fs => obtain ⟨_, ⟨_, _, _, e, _⟩, _⟩ := x; exact Heap.lt_size e
  | rng lo hi => obtain ⟨_, _, _, e⟩ := x; exact Heap.lt_size e
  | frz ob u => obtain ⟨e, _⟩ := x; exact Heap.lt_size e
  | tbl ps => exact Heap.lt_size (show h.get? a = some _ from x)
  | met f y => exact Heap.lt_size (show h.get? a = some _ from x)
  | ext φ => obtain ⟨_, ⟨_, e⟩, _⟩ := x; exact Heap.lt_size e
theorem Paired.mapP {α β : Type} {F G : α → β → Prop} : ∀ {l₁ : List α} {l₂ : List β}, Paired F l₁ l₂ → (∀ a b, F a b → G a b) → Paired G l₁ l₂
  | _, _, .nil, _ => .nil
  | _, _, .cons r t, f => .cons (f _ _ r) (Paired.mapP t f)
/-- what an object's description leans on: its own object, its own dict, the tuples -/
theorem ObjOk.stay (x : ObjOk P w H h a o) (k : ∀ b u, (b = a ∨ H b = some (.own a)) → h.get? b = some u → h'.get? b = some u)
    (ho : ∀ b, H b = some (.own a) → H' b = some (.own a)) (ht : ∀ b xs, H b = some (.tup xs) → H' b = some (.tup xs)) : ObjOk P w H' h' a o := by
  induction o with
  | lst xs => obtain ⟨z, its, n, r, e⟩ := x; exact ⟨z, its, n, r, k _ _ (.inl rfl) e⟩
  | tup xs => obtain ⟨z, its, r, ob, e, c⟩ := x; exact ⟨z, its, r, ob, k _ _ (.inl rfl) e, c⟩
  | dK kvs => obtain ⟨z, y, vs, r, ob, es, ep, e, c⟩ := x; exact ⟨z, y, vs, r, ob, es, ep, k _ _ (.inl rfl) e, c⟩
  | dT kvs =>
    obtain ⟨z, y, xs, r, ob, es, ep, e, c⟩ := x
    exact ⟨z, y, xs, Paired.mapP r fun p q z => ⟨z.1, ht _ _ z.2.1, z.2.2⟩, ob, es, ep, k _ _ (.inl rfl) e, c⟩
  | set S n => obtain ⟨ob, es, ep, t, e, c⟩ := x; exact ⟨ob, es, ep, t, k _ _ (.inl rfl) e, c⟩
  | ins C dx fs =>
    obtain ⟨d, z, ne, e, mA, ⟨od, es, ep, e2, c⟩, r⟩ := x
    exact ⟨ho _ d, z, ne, k _ _ (.inl rfl) e, mA, ⟨od, es, ep, k _ _ (.inr d) e2, c⟩, r⟩
  | own y => obtain ⟨ob, e⟩ := x; exact ⟨ob, k _ _ (.inl rfl) e⟩
  | xd fs => obtain ⟨mA, ⟨od, es, ep, e, c⟩, r⟩ := x; exact ⟨mA, ⟨od, es, ep, k _ _ (.inl rfl) e, c⟩, r⟩
  | rng lo hi => obtain ⟨t, u, v, e⟩ := x; exact ⟨t, u, v, k _ _ (.inl rfl) e⟩
  | frz ob u ih => obtain ⟨e, q⟩ := x; exact ⟨k _ _ (.inl rfl) e, ih q⟩
  | tbl ps =>
    have e : h.get? a = some { cls := .none, data := .fields ps } := x
    show h'.get? a = some { cls := .none, data := .fields ps }
    exact k a _ (.inl rfl) e
  | met f y =>
    have e : h.get? a = some (PySem.W.methodObj (.ref f) (.ref y)) := x
    show h'.get? a = some (PySem.W.methodObj (.ref f) (.ref y))
    exact k a _ (.inl rfl) e
  | ext φ => obtain ⟨p, ⟨o, e⟩, st⟩ := x; exact ⟨st _ _ p fun o q => k _ _ (.inl rfl) q, ⟨o, k _ _ (.inl rfl) e⟩, st⟩
theorem HOk.lt (x : HOk P w H h) (e : H a = some o) : a < h.objs.size := (x a o e).lt
theorem HOk.fresh (x : HOk P w H h) (e : h.objs.size ≤ a) : H a = none := by
  cases q : H a with
  | none => rfl
  | some u => exact absurd (Nat.lt_of_lt_of_le (x.lt q) e) (Nat.lt_irrefl _)
/-- every object of the heap is kept -/
theorem HOk.kept (x : HOk P w H h) (k : ∀ b u, h.get? b = some u → h'.get? b = some u) : HOk P w H h' := fun a o e =>
  (x a o e).stay (fun b u _ q => k b u q) (fun _ q => q) fun _ _ q => q
/-- a new object is laid and tracked -/
theorem HOk.laid (x : HOk P w H h) (k : ∀ b u, h.get? b = some u → h'.get? b = some u) (hp : h.objs.size ≤ a) (new : ObjOk P w (upd H a o) h' a o) : HOk P w (upd H a o) h' := fun b u e => by
  have hn := x.fresh hp
  by_cases hb : b = a
  · subst hb; rw [upd_same] at e; cases e; exact new
  · rw [upd_ne hb] at e
    exact (x b u e).stay (fun c v _ q => k c v q) (fun c q => by rw [upd_ne (ne_of_none q hn)]; exact q) fun c xs q => by rw [upd_ne (ne_of_none q hn)]; exact q
end

/-- what may be read as u: it is u, or a known u -/
def Rd (H : Hp) (a : Addr) (u : HO) : Prop := H a = some u ∨ ∃ o, H a = some (.frz o u)
theorem Rd.ok {P : Program} {w : World} {H : Hp} {h : Heap} {a : Addr} {u : HO} (r : Rd H a u) (x : HOk P w H h) : ObjOk P w H h a u := by
  rcases r with r | ⟨o, r⟩
  · exact x a u r
  · obtain ⟨_, q⟩ := x a _ r
    exact q
/-- what may be written -/
def Mut : Option HO → Prop
  | some (.lst _) => True
  | some (.dK _) => True
  | some (.dT _) => True
  | some (.set _ _) => True
  | some (.ins _ _ _) => True
  | some (.ext _) => True
  | _ => False
section
variable {P : Program} {w : World} {H : Hp} {h h' : Heap} {x e : Addr} {o' : HO}
/-- the object at e is changed: x itself, or the dict of the instance x -/
theorem HOk.write (ok : HOk P w H h) (mu : Mut (H x)) (he : e = x ∨ H e = some (.own x)) (k : ∀ b u, b ≠ e → h.get? b = some u → h'.get? b = some u) (heo : ∃ u, h'.get? e = some u)
    (new : ObjOk P w (upd H x o') h' x o') : HOk P w (upd H x o') h' := fun b u q => by
  have nown : ∀ c y, H c = some (.own y) → c ≠ x := fun c y r z => by subst z; rw [r] at mu; exact mu
  have ntup : ∀ c xs, H c = some (.tup xs) → c ≠ x := fun c xs r z => by subst z; rw [r] at mu; exact mu
  by_cases hb : b = x
  · subst hb; rw [upd_same] at q; cases q; exact new
  · rw [upd_ne hb] at q
    by_cases hbe : b = e
    · have q' : H b = some (.own x) := by
        rcases he with z | z
        · exact absurd (hbe.trans z) hb
        · rw [hbe]; exact z
      rw [q] at q'; cases q'
      obtain ⟨v, hv⟩ := heo
      exact ⟨v, by rw [hbe]; exact hv⟩
    · refine (ok b u q).stay (fun c v hc r => k c v ?_ r) (fun c r => by rw [upd_ne (nown c b r)]; exact r) fun c xs r => by rw [upd_ne (ntup c xs r)]; exact r
      rcases hc with rfl | hc
      · exact hbe
      · rintro rfl
        rcases he with z | z
        · exact nown c b hc z
        · rw [hc] at z; cases z; exact hb rfl
end

/-! ### kept unless tracked; of the frames at fs (the callers') the slots may change (an exception that passes writes there); of the records at ex (iterators) nothing is said -/
structure Un (fs ex : List Addr) (H H' : Hp) (h h' : Heap) : Prop where
  keep : ∀ b o, h.get? b = some o → H b = none → b ∉ fs → b ∉ ex → h'.get? b = some o
  slot : ∀ b o, h.get? b = some o → H b = none → b ∈ fs → b ∉ ex → ∃ sl, h'.get? b = some { o with slots := sl }
  free : ∀ b o, h.get? b = some o → H b = none → b ∉ ex → H' b = none
  there : ∀ b o, h.get? b = some o → b ∉ ex → ∃ o', h'.get? b = some o'
  tups : ∀ b xs, H b = some (.tup xs) → H' b = some (.tup xs)
  frzs : ∀ b o u, H b = some (.frz o u) → H' b = some (.frz o u)
  tbls : ∀ b ps, H b = some (.tbl ps) → ∃ more, H' b = some (.tbl (ps ++ more))
section
variable {fs fs' ex ex' : List Addr} {H H1 H2 : Hp} {h h1 h2 h' : Heap} {a x e : Addr} {o : HO}
theorem Un.any (u : Un fs ex H H1 h h1) {b : Addr} {ob : Obj} (q : h.get? b = some ob) (n : H b = none) (hx : b ∉ ex) : ∃ sl, h1.get? b = some { ob with slots := sl } := by
  by_cases hb : b ∈ fs
  · exact u.slot b ob q n hb hx
  · exact ⟨ob.slots, u.keep b ob q n hb hx⟩
theorem Un.kept (k : ∀ b u, h.get? b = some u → h'.get? b = some u) : Un fs ex H H h h' :=
  ⟨fun b ob q _ _ _ => k b ob q, fun b ob q _ _ _ => ⟨ob.slots, k b ob q⟩, fun _ _ _ n _ => n, fun b ob q _ => ⟨ob, k b ob q⟩, fun _ _ q => q, fun _ _ _ q => q, fun _ ps q => ⟨#[], by rw [q]; simp⟩⟩
theorem Un.refl : Un fs ex H H h h := Un.kept fun _ _ q => q
theorem Un.laid (k : ∀ b u, h.get? b = some u → h'.get? b = some u) (hp : h.objs.size ≤ a) (hn : H a = none) : Un fs ex H (upd H a o) h h' where
  keep := fun b u q _ _ _ => k b u q
  slot := fun b u q _ _ _ => ⟨u.slots, k b u q⟩
  free := fun b u q n _ => by rw [upd_ne (Nat.ne_of_lt (Nat.lt_of_lt_of_le (Heap.lt_size q) hp))]; exact n
  there := fun b u q _ => ⟨u, k b u q⟩
  tups := fun b xs q => by rw [upd_ne (ne_of_none q hn)]; exact q
  frzs := fun b u xs q => by rw [upd_ne (ne_of_none q hn)]; exact q
  tbls := fun b ps q => ⟨#[], by rw [upd_ne (ne_of_none q hn), q]; simp⟩
theorem Un.write (mu : Mut (H x)) (he : e = x ∨ H e = some (.own x)) (k : ∀ b u, b ≠ e → h.get? b = some u → h'.get? b = some u) (heo : ∃ u, h'.get? e = some u) : Un fs ex H (upd H x o) h h' := by
  have hx : ∀ b, H b = none → b ≠ x := fun b n z => by subst z; rw [n] at mu; exact mu
  have hb : ∀ b, H b = none → b ≠ e := fun b n z => by
    subst z
    rcases he with r | r
    · exact hx b n r
    · rw [n] at r; cases r
  have hm : ∀ b u, H b = some u → ¬ Mut (some u) → b ≠ x := fun b u q nm z => by subst z; rw [q] at mu; exact nm mu
  refine ⟨fun b u q n _ _ => k b u (hb b n) q, fun b u q n _ _ => ⟨u.slots, k b u (hb b n) q⟩, fun b u q n _ => by rw [upd_ne (hx b n)]; exact n, fun b u q _ => ?_,
    fun b xs q => by rw [upd_ne (hm b _ q fun z => z)]; exact q, fun b u xs q => by rw [upd_ne (hm b _ q fun z => z)]; exact q, fun b ps q => ⟨#[], by rw [upd_ne (hm b _ q fun z => z), q]; simp⟩⟩
  by_cases hbe : b = e
  · subst hbe; exact heo
  · exact ⟨u, k b u hbe q⟩
end

/-! ### the heap without what is tracked -/
def trk (h : Heap) (H : Hp) : List Addr := (List.range h.objs.size).filter fun a => (H a).isSome
def hidT (h : Heap) (H : Hp) : Heap := PySem.W.hideAll h (trk h H)
theorem hidT_size (h : Heap) (H : Hp) : (hidT h H).objs.size = h.objs.size := PySem.W.hideAll_size _ _
theorem hidT_get {h : Heap} {H : Hp} {b : Addr} {o : Obj} (e : h.get? b = some o) (n : H b = none) : (hidT h H).get? b = some o :=
  PySem.W.hideAll_get _ e fun hm => by
    have q : (H b).isSome = true := (List.mem_filter.mp hm).2
    rw [n] at q; simp at q
theorem of_hidT {h : Heap} {H : Hp} {b : Addr} {o : Obj} (e : (hidT h H).get? b = some o) : h.get? b = some o ∧ H b = none := by
  have e' : h.get? b = some o := PySem.W.of_hideAll (trk h H) e
  refine ⟨e', ?_⟩
  cases q : H b with
  | none => rfl
  | some x =>
    have hm : b ∈ trk h H := List.mem_filter.mpr ⟨List.mem_range.mpr (Heap.lt_size e'), by simp [q]⟩
    have z : (hidT h H).get? b = none := PySem.W.hideAll_none (trk h H) hm
    rw [z] at e; cases e

/-! ### OpenK's ledger, filled with every new object but one -/
def allNews (g h : Heap) (L : Addr) : List (Addr × Obj) := (List.range h.objs.size).filterMap fun a => if a = L ∨ (g.get? a).isSome = true then none else (h.get? a).map fun o => (a, o)
def rest (g h : Heap) (L d : Addr) : List (Addr × Obj) := (allNews g h L).filter fun p => decide (p.1 ≠ d)
end L2

namespace L2
open PySem PySem.Spec PyProof.Rows

/-- the module's facts, over the base: the heap at the law's entry without what is tracked there -/
structure Mod (K : PySem.W.Frag) (mg : Str → Option Value) (base : Heap) : Prop where
  kin : K.In base
  glob : base.Ns mainGlobals mg
  blt : ∃ mb, base.Ns builtinsNs mb ∧ ∀ x : Str, x ≠ "__name__" → mb x = bootBuiltins x
  nolimit : base.NoLimit

/-- the context: a def's body (or a comprehension's block) running. base: fixed through the whole law; s₀, H₀: the entry; outer: the frames whose slots others may change (a def's callers); stack: all frames that run;
   ex: iterators that were made ahead of the entry and are walked here (a comprehension's); fn: the names whose cells were made at the entry (a def: all; a comprehension's block: its own); calm: not within an except suite; pn: pins that every state bears; xe: what is wanted of an exception that leaves the code -/
structure Cx where
  prog : Program
  w : World
  K : PySem.W.Frag
  mg : Str → Option Value
  base : Heap
  A : Around
  N : List Str
  s₀ : Shared
  H₀ : Hp
  env : Env
  outer : List Env
  stack : List Env
  ex : List Addr
  fn : Str → Bool
  calm : Bool
  pn : List (Addr × Obj)
  xe : Value → Shared → Prop
/-- the callers' frames -/
def frs (l : List Env) : List Addr := l.filterMap (·.frame)
abbrev Cx.fs (X : Cx) : List Addr := frs X.outer

def Vis (sc : Scope) (x : Str) : Prop := sc.names.lookup x = some .local ∨ sc.names.lookup x = some .cell ∨ sc.names.lookup x = some .free
def Loc (sc : Scope) (x : Str) : Prop := sc.names.lookup x = some .local ∨ sc.names.lookup x = some .cell
def Look (env : Env) (h : Heap) (m : Str → Option Value) (x : Str) (u : Value) : Prop :=
  (env.kindOf x = some .local ∧ m x = some u) ∨ ((env.kindOf x = some .cell ∨ env.kindOf x = some .free) ∧ ∃ c, env.cells.lookup x = some c ∧ h.IsCell c (some u))

structure Cx.Ok (X : Cx) : Prop where
  mod : Mod X.K X.mg X.base
  kind : X.env.scope.kind = .function
  glob : X.env.globals = mainGlobals
  blt : X.env.builtins = builtinsNs
  above : X.s₀.heap.objs.size ≤ X.env.locals
  inj : ∀ x y c, X.env.cells.lookup x = some c → X.env.cells.lookup y = some c → x = y
  has : ∀ x, (X.env.kindOf x = some .cell ∨ X.env.kindOf x = some .free) → ∃ c, X.env.cells.lookup x = some c
  cab : ∀ x c, X.fn x = true → X.env.cells.lookup x = some c → X.s₀.heap.objs.size ≤ c
  hd : X.calm = true → X.A.handled = none
  frames : X.A.frames = some X.stack
  stk : X.stack = X.outer ∨ (X.stack = X.env :: X.outer ∧ X.env.frame = some X.env.locals)
  exf : ∀ b ∈ X.ex, b ≠ X.env.locals ∧ ∀ x c, X.env.cells.lookup x = some c → c ≠ b
  bs : ∀ b o, X.base.get? b = some o → X.s₀.heap.get? b = some o ∧ X.H₀ b = none
  bsz : X.base.objs.size ≤ X.s₀.heap.objs.size
  noex : ∀ b o, X.base.get? b = some o → b ∉ X.ex
  exfs : ∀ b ∈ X.ex, b ∉ X.fs
  funs : X.s₀.heap.FunFrames X.base X.outer
  frf : ∀ b ∈ X.fs, X.H₀ b = none

structure Inv (X : Cx) (pins : List (Addr × Obj)) (σ : List (Option V)) (H : Hp) (s : Shared) : Prop where
  ok : X.Ok
  os : s.os = X.s₀.os
  bare : AllBare s.gens
  base : Un X.fs X.ex X.H₀ H X.s₀.heap s.heap
  loc : ∃ m, s.heap.Ns X.env.locals m ∧ ∀ (i : Nat) (x : Str) (v : V), X.N[i]? = some x → σ[i]? = some (some v) → Vis X.env.scope x → ∃ u, RelV v u ∧ Look X.env s.heap m x u
  cell : ∀ x c, X.env.cells.lookup x = some c → ∃ v, s.heap.IsCell c v
  free : H X.env.locals = none
  freeC : ∀ x c, X.env.cells.lookup x = some c → H c = none
  pin : ∀ p ∈ X.pn ++ pins, s.heap.get? p.1 = some p.2 ∧ H p.1 = none ∧ p.1 ≠ X.env.locals ∧ p.1 ∉ X.fs ∧ ∀ v, p.2.data ≠ .cell v
  hok : HOk X.prog X.w H s.heap
  len : σ.length = X.N.length

section
variable {X : Cx} {pins : List (Addr × Obj)} {σ : List (Option V)} {H H' : Hp} {s : Shared} {h' : Heap}

theorem Cx.Ok.nofr (ok : X.Ok) {b : Addr} {o : Obj} (e : X.base.get? b = some o) : b ∉ X.fs := fun hb => by
  have := (ok.funs.mem hb).1
  rw [e] at this; cases this
theorem Inv.bs (I : Inv X pins σ H s) : ∀ b o, X.base.get? b = some o → s.heap.get? b = some o ∧ H b = none := fun b o e =>
  ⟨I.base.keep b o (I.ok.bs b o e).1 (I.ok.bs b o e).2 (I.ok.nofr e) (I.ok.noex b o e), I.base.free b o (I.ok.bs b o e).1 (I.ok.bs b o e).2 (I.ok.noex b o e)⟩
theorem Inv.bk (I : Inv X pins σ H s) : ∀ b o, X.base.get? b = some o → s.heap.get? b = some o := fun b o e => (I.bs b o e).1
theorem Inv.mod (I : Inv X pins σ H s) : Mod X.K X.mg X.base := I.ok.mod
theorem Inv.kIn (I : Inv X pins σ H s) : X.K.In s.heap := I.ok.mod.kin.keeps I.bk
theorem Inv.lt (I : Inv X pins σ H s) : X.env.locals < s.heap.objs.size := let ⟨_, hn, _⟩ := I.loc; hn.lt
theorem Inv.sz (I : Inv X pins σ H s) : X.s₀.heap.objs.size ≤ s.heap.objs.size := Nat.le_trans I.ok.above (Nat.le_of_lt I.lt)
theorem Inv.nofs (I : Inv X pins σ H s) {a : Addr} (h : s.heap.objs.size ≤ a) : a ∉ X.fs := fun hb => by
  obtain ⟨_, o, ho, _⟩ := I.ok.funs.mem hb
  exact absurd (Nat.lt_of_lt_of_le (Heap.lt_size ho) (Nat.le_trans I.sz h)) (Nat.lt_irrefl _)
theorem Inv.cne (I : Inv X pins σ H s) : ∀ x c, X.env.cells.lookup x = some c → c ≠ X.env.locals := fun x c e z => by
  obtain ⟨v, o, ho, hd⟩ := I.cell x c e
  obtain ⟨m, ⟨o', es, ep, ho', hd', _⟩, _⟩ := I.loc
  rw [z, ho'] at ho; cases ho; rw [hd'] at hd; cases hd
theorem Inv.funs (I : Inv X pins σ H s) : s.heap.FunFrames X.base X.outer := by
  have all : ∀ (l : List Env), (∀ b ∈ frs l, b ∈ X.fs) → X.s₀.heap.FunFrames X.base l → s.heap.FunFrames X.base l := by
    intro l
    induction l with
    | nil => intro _ _; trivial
    | cons env r ih =>
      intro hs hl
      obtain ⟨hk, ⟨L, o, hf, hn, ho, hd⟩, hr⟩ := hl
      have hL : L ∈ X.fs := hs L (by unfold frs; rw [List.filterMap_cons, hf]; exact List.mem_cons_self)
      obtain ⟨sl, e⟩ := I.base.slot L o ho (I.ok.frf L hL) hL fun z => I.ok.exfs L z hL
      exact ⟨hk, ⟨L, _, hf, hn, e, hd⟩, ih (fun b hb => hs b (by unfold frs; rw [List.filterMap_cons, hf]; exact List.mem_cons_of_mem _ hb)) hr⟩
  exact all X.outer (fun _ hb => hb) I.ok.funs

/-- the frames that run, for a call -/
theorem Inv.stack (I : Inv X pins σ H s) : s.heap.FunFrames X.base X.stack := by
  rcases I.ok.stk with e | ⟨e, hf⟩
  · rw [e]; exact I.funs
  · rw [e]
    obtain ⟨m, hn, _⟩ := I.loc
    refine .cons (by rw [I.ok.kind]; decide) hf hn ?_ I.funs
    exact Heap.get?_none_of_le (Nat.le_trans I.ok.bsz I.ok.above)
theorem Inv.stkSub (I : Inv X pins σ H s) : ∀ b ∈ frs X.stack, b ∈ X.env.locals :: X.fs := fun b hb => by
  rcases I.ok.stk with e | ⟨e, hf⟩
  · rw [e] at hb; exact List.mem_cons_of_mem _ hb
  · rw [e] at hb
    unfold frs at hb
    rw [List.filterMap_cons, hf] at hb
    exact hb
theorem Inv.stkFree (I : Inv X pins σ H s) : ∀ b ∈ frs X.stack, H b = none := fun b hb => by
  rcases List.mem_cons.mp (I.stkSub b hb) with e | hb
  · rw [e]; exact I.free
  · obtain ⟨_, o, ho, _⟩ := I.ok.funs.mem hb
    exact I.base.free b o ho (I.ok.frf b hb) fun z => I.ok.exfs b z hb

/-- THE STEP: the untracked objects but the frame and the records at ch are kept (the callers' frames up to slots), the frame's map is kept, the new abstract heap is held -/
theorem Inv.step {g' : Array GenState} {t' : Nat} {d' : Drawn} {ch : List Addr} (I : Inv X pins σ H s)
    (hch : ∀ b ∈ ch, (b ∈ X.ex ∨ X.s₀.heap.objs.size ≤ b) ∧ b ≠ X.env.locals ∧ (∀ x c, X.env.cells.lookup x = some c → c ≠ b) ∧ ∀ p ∈ X.pn ++ pins, p.1 ≠ b)
    (keep : ∀ b o, b ≠ X.env.locals → b ∉ X.fs → b ∉ ch → s.heap.get? b = some o → H b = none → h'.get? b = some o)
    (slot : ∀ b o, b ≠ X.env.locals → b ∈ X.fs → b ∉ ch → s.heap.get? b = some o → H b = none → ∃ sl, h'.get? b = some { o with slots := sl }) (free : ∀ b o, b ∉ ch → s.heap.get? b = some o → H b = none → H' b = none)
    (there : ∀ b o, b ∉ ch → s.heap.get? b = some o → ∃ o', h'.get? b = some o')
    (tups : ∀ b xs, H b = some (.tup xs) → H' b = some (.tup xs)) (frzs : ∀ b o u, H b = some (.frz o u) → H' b = some (.frz o u)) (tbls : ∀ b ps, H b = some (.tbl ps) → ∃ more, H' b = some (.tbl (ps ++ more)))
    (ns : ∀ m, s.heap.Ns X.env.locals m → h'.Ns X.env.locals m) (hok : HOk X.prog X.w H' h') (hg : AllBare g') :
    Inv X pins σ H' { s with heap := h', gens := g', drawn := d', toks := t' } := by
  have neL : ∀ b o, X.s₀.heap.get? b = some o → b ≠ X.env.locals := fun b o e => Nat.ne_of_lt (Nat.lt_of_lt_of_le (Heap.lt_size e) I.ok.above)
  have neC : ∀ b o, X.s₀.heap.get? b = some o → b ∉ X.ex → b ∉ ch := fun b o e hx hb => by
    rcases (hch b hb).1 with z | z
    · exact hx z
    · exact absurd (Nat.lt_of_lt_of_le (Heap.lt_size e) z) (Nat.lt_irrefl _)
  have cellK : ∀ x c, X.env.cells.lookup x = some c → ∀ v, s.heap.IsCell c v → h'.IsCell c v := fun x c e v ⟨o, ho, hd⟩ => by
    have nch : c ∉ ch := fun z => (hch c z).2.2.1 x c e rfl
    by_cases hc : c ∈ X.fs
    · obtain ⟨sl, q⟩ := slot c o (I.cne x c e) hc nch ho (I.freeC x c e)
      exact ⟨_, q, hd⟩
    · exact ⟨o, keep c o (I.cne x c e) hc nch ho (I.freeC x c e), hd⟩
  refine ⟨I.ok, I.os, hg, ⟨fun b o e n hb hx => ?_, fun b o e n hb hx => ?_, fun b o e n hx => ?_, fun b o e hx => ?_, fun b xs e => tups b xs (I.base.tups b xs e), fun b o xs e => frzs b o xs (I.base.frzs b o xs e), fun b ps e => ?_⟩, ?_, fun x c e => ?_, ?_, fun x c e => ?_, fun p hp => ?_, hok, I.len⟩
  · exact keep b o (neL b o e) hb (neC b o e hx) (I.base.keep b o e n hb hx) (I.base.free b o e n hx)
  · obtain ⟨sl, e1⟩ := I.base.slot b o e n hb hx
    obtain ⟨sl', e2⟩ := slot b _ (neL b o e) hb (neC b o e hx) e1 (I.base.free b o e n hx)
    exact ⟨sl', e2⟩
  · obtain ⟨o', e1⟩ := I.base.there b o e hx
    exact free b o' (neC b o e hx) e1 (I.base.free b o e n hx)
  · obtain ⟨o', e1⟩ := I.base.there b o e hx
    exact there b o' (neC b o e hx) e1
  · obtain ⟨m1, e1⟩ := I.base.tbls b ps e
    obtain ⟨m2, e2⟩ := tbls b _ e1
    exact ⟨m1 ++ m2, by rw [e2, Array.append_assoc]⟩
  · obtain ⟨m, hn, hl⟩ := I.loc
    refine ⟨m, ns m hn, fun i x v e1 e2 e3 => ?_⟩
    obtain ⟨u, r, l⟩ := hl i x v e1 e2 e3
    refine ⟨u, r, ?_⟩
    rcases l with l | ⟨k, c, e, z⟩
    · exact .inl l
    · exact .inr ⟨k, c, e, cellK x c e _ z⟩
  · obtain ⟨v, z⟩ := I.cell x c e
    exact ⟨v, cellK x c e v z⟩
  · obtain ⟨m, ⟨o, _, _, ho, _⟩, _⟩ := I.loc
    exact free _ o (fun z => (hch _ z).2.1 rfl) ho I.free
  · obtain ⟨v, o, ho, hd⟩ := I.cell x c e
    exact free c o (fun z => (hch c z).2.2.1 x c e rfl) ho (I.freeC x c e)
  · obtain ⟨e, n, ne, nf, d⟩ := I.pin p hp
    have nch : p.1 ∉ ch := fun z => (hch p.1 z).2.2.2 p hp rfl
    exact ⟨keep p.1 p.2 ne nf nch e n, free p.1 p.2 nch e n, ne, nf, d⟩
/-- .. where the frame's own object is kept too -/
theorem Inv.un {t' : Nat} (I : Inv X pins σ H s) (u : Un X.fs [] H H' s.heap h') (hok : HOk X.prog X.w H' h') : Inv X pins σ H' { s with heap := h', toks := t' } := by
  obtain ⟨m, ⟨o, es, ep, ho, r⟩, _⟩ := id I.loc
  obtain ⟨sl, hL⟩ := u.any ho I.free (by simp)
  exact I.step (g' := s.gens) (d' := s.drawn) (ch := []) (fun _ z => nomatch z) (fun b o _ hb _ e n => u.keep b o e n hb (by simp)) (fun b o _ hb _ e n => u.slot b o e n hb (by simp)) (fun b o _ e n => u.free b o e n (by simp)) (fun b o _ e => u.there b o e (by simp)) u.tups u.frzs u.tbls (fun m' hm => by
    obtain ⟨o', es', ep', ho', r'⟩ := hm
    rw [ho] at ho'; cases ho'
    exact ⟨_, es', ep', hL, r'⟩) hok I.bare
/-- behind a call (or a comprehension's block): the slots of this frame may have changed too, the records at ch may have turned -/
theorem Inv.call {g' : Array GenState} {t' : Nat} {d' : Drawn} {ch : List Addr} (I : Inv X pins σ H s) (u : Un (frs X.stack) ch H H' s.heap h') (hok : HOk X.prog X.w H' h') (hg : AllBare g')
    (hch : ∀ b ∈ ch, (b ∈ X.ex ∨ X.s₀.heap.objs.size ≤ b) ∧ b ≠ X.env.locals ∧ (∀ x c, X.env.cells.lookup x = some c → c ≠ b) ∧ ∀ p ∈ X.pn ++ pins, p.1 ≠ b) :
    Inv X pins σ H' { s with heap := h', gens := g', drawn := d', toks := t' } := by
  obtain ⟨m, ⟨o, es, ep, ho, r⟩, _⟩ := id I.loc
  obtain ⟨sl, hL⟩ := u.any ho I.free fun z => (hch _ z).2.1 rfl
  exact I.step (ch := ch) hch (fun b o hL hb hc e n => u.keep b o e n (fun z => (List.mem_cons.mp (I.stkSub b z)).elim hL hb) hc) (fun b o _ _ hc e n => u.any e n hc) (fun b o hc e n => u.free b o e n hc) (fun b o hc e => u.there b o e hc) u.tups u.frzs u.tbls (fun m' hm => by
    obtain ⟨o', es', ep', ho', r'⟩ := hm
    rw [ho] at ho'; cases ho'
    exact ⟨_, es', ep', hL, r'⟩) hok hg
/-- an untracked record of ours (an iterator) has turned -/
theorem Inv.turned {t' : Nat} {it : Addr} (I : Inv X pins σ H s) (k : ∀ b o, b ≠ it → s.heap.get? b = some o → h'.get? b = some o) (hn : H it = none) (hL : it ≠ X.env.locals)
    (h1 : it ∈ X.ex ∨ X.s₀.heap.objs.size ≤ it) (h2 : ∀ x c, X.env.cells.lookup x = some c → c ≠ it) (h3 : ∀ p ∈ X.pn ++ pins, p.1 ≠ it) : Inv X pins σ H { s with heap := h', toks := t' } := by
  have nit : ∀ b u, H b = some u → b ≠ it := fun b u e z => by rw [z, hn] at e; cases e
  refine I.step (g' := s.gens) (d' := s.drawn) (ch := [it]) (fun b hb => ?_) (fun b o _ _ hc e _ => k b o (fun z => hc (by simp [z])) e) (fun b o _ _ hc e _ => ⟨o.slots, k b o (fun z => hc (by simp [z])) e⟩) (fun _ _ _ _ n => n)
    (fun b o hc e => ⟨o, k b o (fun z => hc (by simp [z])) e⟩) (fun _ _ e => e) (fun _ _ _ e => e) (fun b ps e => ⟨#[], by rw [e]; simp⟩) (fun m hm => ?_) (fun b u e => ?_) I.bare
  · have e : b = it := by simpa using hb
    subst e
    exact ⟨h1, hL, h2, h3⟩
  · obtain ⟨o, es, ep, ho, r⟩ := hm
    exact ⟨o, es, ep, k _ o (Ne.symm hL) ho, r⟩
  · refine (I.hok b u e).stay (fun c v hc q => k c v ?_ q) (fun _ q => q) fun _ _ q => q
    rcases hc with z | z
    · rw [z]; exact nit b u e
    · exact nit c _ z
theorem Inv.tok (I : Inv X pins σ H s) (t : Nat) : Inv X pins σ H { s with toks := t } := I.un (h' := s.heap) (t' := t) Un.refl I.hok
/-- all objects kept -/
theorem Inv.kept {t' : Nat} (I : Inv X pins σ H s) (k : ∀ b u, s.heap.get? b = some u → h'.get? b = some u) : Inv X pins σ H { s with heap := h', toks := t' } := I.un (Un.kept k) (I.hok.kept k)
/-- a new object laid and tracked -/
theorem Inv.laid {a : Addr} {o : HO} {t' : Nat} (I : Inv X pins σ H s) (k : ∀ b u, s.heap.get? b = some u → h'.get? b = some u) (hp : s.heap.objs.size ≤ a) (new : ObjOk X.prog X.w (upd H a o) h' a o) :
    Inv X pins σ (upd H a o) { s with heap := h', toks := t' } := I.un (Un.laid k hp (I.hok.fresh hp)) (I.hok.laid k hp new)
/-- an object written -/
theorem Inv.write {x e : Addr} {o : HO} {t' : Nat} (I : Inv X pins σ H s) (mu : Mut (H x)) (he : e = x ∨ H e = some (.own x)) (k : ∀ b u, b ≠ e → s.heap.get? b = some u → h'.get? b = some u) (heo : ∃ u, h'.get? e = some u)
    (new : ObjOk X.prog X.w (upd H x o) h' x o) : Inv X pins σ (upd H x o) { s with heap := h', toks := t' } := I.un (Un.write mu he k heo) (I.hok.write mu he k heo new)
theorem Inv.pins_of {pins' : List (Addr × Obj)} (I : Inv X pins σ H s) (h : ∀ p ∈ pins', s.heap.get? p.1 = some p.2 ∧ H p.1 = none ∧ p.1 ≠ X.env.locals ∧ p.1 ∉ X.fs ∧ ∀ v, p.2.data ≠ .cell v) : Inv X pins' σ H s :=
  ⟨I.ok, I.os, I.bare, I.base, I.loc, I.cell, I.free, I.freeC, fun p hp => (List.mem_append.mp hp).elim (fun z => I.pin p (List.mem_append_left _ z)) (h p), I.hok, I.len⟩

theorem nodup_ix {N : List Str} (hN : N.Nodup) {i j : Nat} {x : Str} (a : N[i]? = some x) (b : N[j]? = some x) : i = j := by
  obtain ⟨h1, e1⟩ := List.getElem?_eq_some_iff.mp a
  obtain ⟨h2, e2⟩ := List.getElem?_eq_some_iff.mp b
  exact (List.getElem_inj hN).mp (e1.trans e2.symm)

/-- a name is stored; what changed -/
theorem store_ok2 {M : Model} {A : Around} {E : Value → Shared → Prop} {i : Nat} {x : Str} {v : V} {u : Value} {Q : Unit → Shared → Prop} (I : Inv X pins σ H s) (hN : X.N.Nodup) (hi : X.N[i]? = some x) (hx : Loc X.env.scope x) (r : RelV v u)
    (h : ∀ s', Inv X pins (σ.set i (some v)) H s' → (∃ a, Heap.SameBut a s.heap s'.heap ∧ (a = X.env.locals ∨ X.env.cells.lookup x = some a)) → Q () s') (hf : X.fn x = true ∨ X.env.scope.names.lookup x = some .local := by first | exact .inl rfl | exact .inr rfl | assumption) : wpAny M A (storeName X.env x u) Q E s := by
  obtain ⟨m, hn, hl⟩ := id I.loc
  have hcls : (X.env.scope.kind == .class || (X.env.scope.kind == .module && X.env.locals != X.env.globals)) = false := by rw [I.ok.kind]; rfl
  have hiσ : i < σ.length := by rw [I.len]; exact (List.getElem?_eq_some_iff.mp hi).1
  have cne := I.cne
  have tracked : ∀ {a : Addr} {h' : Heap}, (∃ o, s.heap.get? a = some o ∧ H a = none) → Heap.SameBut a s.heap h' → HOk X.prog X.w H h' := fun {a h'} ha hs b ob e => by
    obtain ⟨_, _, hfree⟩ := ha
    refine (I.hok b ob e).stay (fun c w' hc q => (hs.2 c ?_).trans q) (fun _ q => q) fun _ _ q => q
    rintro rfl
    rcases hc with rfl | hc
    · rw [hfree] at e; cases e
    · rw [hfree] at hc; cases hc
  rcases hx with hk | hk
  · refine wpAny_storeName_local hk hn (fun h' hn' hs => ?_) hcls
    obtain ⟨oL, _, _, hoL, _⟩ := id hn
    refine h _ ⟨I.ok, I.os, I.bare, ⟨fun b o e n hb hx => ?_, fun b o e n hb hx => ?_, I.base.free, fun b o e hx => ?_, I.base.tups, I.base.frzs, I.base.tbls⟩, ⟨_, hn', fun j y v' e1 e2 e3 => ?_⟩, fun y c e => ?_, I.free, I.freeC, fun p hp => ?_, tracked ⟨oL, hoL, I.free⟩ hs, by simpa using I.len⟩ ⟨_, hs, .inl rfl⟩
    · exact (hs.2 b (Nat.ne_of_lt (Nat.lt_of_lt_of_le (Heap.lt_size e) I.ok.above))).trans (I.base.keep b o e n hb hx)
    · obtain ⟨sl, e1⟩ := I.base.slot b o e n hb hx
      exact ⟨sl, (hs.2 b (Nat.ne_of_lt (Nat.lt_of_lt_of_le (Heap.lt_size e) I.ok.above))).trans e1⟩
    · obtain ⟨o', e1⟩ := I.base.there b o e hx
      exact ⟨o', (hs.2 b (Nat.ne_of_lt (Nat.lt_of_lt_of_le (Heap.lt_size e) I.ok.above))).trans e1⟩
    · by_cases hj : j = i
      · subst hj
        rw [hi] at e1; cases e1
        rw [List.getElem?_set_self hiσ] at e2
        cases e2
        exact ⟨u, r, .inl ⟨hk, by simp⟩⟩
      · rw [List.getElem?_set_ne (Ne.symm hj)] at e2
        obtain ⟨u', r', q⟩ := hl j y v' e1 e2 e3
        refine ⟨u', r', ?_⟩
        rcases q with ⟨k, e⟩ | ⟨k, c, e, z⟩
        · refine .inl ⟨k, ?_⟩
          have : y ≠ x := fun e => hj (nodup_ix hN e1 (e ▸ hi))
          simp [this, e]
        · exact .inr ⟨k, c, e, z.sameBut hs (cne y c e)⟩
    · obtain ⟨w', z⟩ := I.cell y c e
      exact ⟨w', z.sameBut hs (cne y c e)⟩
    · obtain ⟨e, n, ne, nf, d⟩ := I.pin p hp
      exact ⟨(hs.2 p.1 ne).trans e, n, ne, nf, d⟩
  · have hfn : X.fn x = true := by
      rcases hf with z | z
      · exact z
      · rw [z] at hk; cases hk
    obtain ⟨c, hc⟩ := I.ok.has x (.inl hk)
    obtain ⟨w', z⟩ := I.cell x c hc
    refine wpAny_storeName_cell I.ok.kind hk hc z (fun h' hc' hs => ?_)
    obtain ⟨oc, hoc, hocd⟩ := id z
    refine h { s with heap := h' } ⟨I.ok, I.os, I.bare, ⟨fun b o e n hb hx => ?_, fun b o e n hb hx => ?_, I.base.free, fun b o e hx => ?_, I.base.tups, I.base.frzs, I.base.tbls⟩, ⟨m, hn.sameBut hs (Ne.symm (cne x c hc)), fun j y v' e1 e2 e3 => ?_⟩, fun y c' e => ?_, I.free, I.freeC, fun p hp => ?_, tracked ⟨oc, hoc, I.freeC x c hc⟩ hs, by simpa using I.len⟩ ⟨c, hs, .inr hc⟩
    · exact (hs.2 b (Nat.ne_of_lt (Nat.lt_of_lt_of_le (Heap.lt_size e) (I.ok.cab x c hfn hc)))).trans (I.base.keep b o e n hb hx)
    · obtain ⟨sl, e1⟩ := I.base.slot b o e n hb hx
      exact ⟨sl, (hs.2 b (Nat.ne_of_lt (Nat.lt_of_lt_of_le (Heap.lt_size e) (I.ok.cab x c hfn hc)))).trans e1⟩
    · obtain ⟨o', e1⟩ := I.base.there b o e hx
      exact ⟨o', (hs.2 b (Nat.ne_of_lt (Nat.lt_of_lt_of_le (Heap.lt_size e) (I.ok.cab x c hfn hc)))).trans e1⟩
    · by_cases hj : j = i
      · subst hj
        rw [hi] at e1; cases e1
        rw [List.getElem?_set_self hiσ] at e2
        cases e2
        exact ⟨u, r, .inr ⟨.inl hk, c, hc, hc'⟩⟩
      · rw [List.getElem?_set_ne (Ne.symm hj)] at e2
        obtain ⟨u', r', q⟩ := hl j y v' e1 e2 e3
        refine ⟨u', r', ?_⟩
        rcases q with q | ⟨k, c', e, z'⟩
        · exact .inl q
        · refine .inr ⟨k, c', e, z'.sameBut hs ?_⟩
          rintro rfl
          exact hj (nodup_ix hN e1 (I.ok.inj _ _ _ e hc ▸ hi))
    · by_cases hcc : c' = c
      · subst hcc; exact ⟨_, hc'⟩
      · obtain ⟨w2, z2⟩ := I.cell y c' e
        exact ⟨w2, z2.sameBut hs hcc⟩
    · obtain ⟨e, n, ne, nf, d⟩ := I.pin p hp
      refine ⟨(hs.2 p.1 ?_).trans e, n, ne, nf, d⟩
      intro q
      rw [q, hoc] at e
      have q' : oc = p.2 := Option.some.inj e
      exact d w' (by rw [← q']; exact hocd)
theorem store_ok {M : Model} {A : Around} {E : Value → Shared → Prop} {i : Nat} {x : Str} {v : V} {u : Value} {Q : Unit → Shared → Prop} (I : Inv X pins σ H s) (hN : X.N.Nodup) (hi : X.N[i]? = some x) (hx : Loc X.env.scope x) (r : RelV v u)
    (h : ∀ s', Inv X pins (σ.set i (some v)) H s' → Q () s') (hf : X.fn x = true ∨ X.env.scope.names.lookup x = some .local := by first | exact .inl rfl | exact .inr rfl | assumption) : wpAny M A (storeName X.env x u) Q E s :=
  store_ok2 I hN hi hx r (fun s' I' _ => h s' I') hf
/-- behind a call or a block, the state as it is -/
theorem Inv.call' {s' : Shared} {ch : List Addr} (I : Inv X pins σ H s) (ho : s'.os = s.os) (u : Un (frs X.stack) ch H H' s.heap s'.heap) (hok : HOk X.prog X.w H' s'.heap) (hg : AllBare s'.gens)
    (hch : ∀ b ∈ ch, (b ∈ X.ex ∨ X.s₀.heap.objs.size ≤ b) ∧ b ≠ X.env.locals ∧ (∀ x c, X.env.cells.lookup x = some c → c ≠ b) ∧ ∀ p ∈ X.pn ++ pins, p.1 ≠ b) : Inv X pins σ H' s' := by
  obtain ⟨h', g', d', t', o'⟩ := s'
  have e : o' = s.os := ho
  subst e
  exact I.call (g' := g') (t' := t') (d' := d') u hok hg hch
end

/-! ### the judgements -/
/-- an exception: its class, its own dict's address (where it has one), the abstract heap behind it -/
abbrev XK := Value → Option Addr → Hp → Prop
abbrev St := List (Option V)
abbrev VK := V → Hp → Prop
/-- an expression's reading; a test's; an argument list's -/
abbrev TE := St → Hp → VK → Prop
abbrev TT := St → Hp → (Bool → Hp → Prop) → Prop
abbrev TA := St → Hp → (List V → Hp → Prop) → Prop
/-- what is wanted behind a statement -/
structure Ends where
  nx : St → Hp → Prop
  rt : VK
  bk : St → Hp → Prop := fun _ _ => False
  ct : St → Hp → Prop := fun _ _ => False
abbrev TS := Ends → St → Hp → Prop

def EP (X : Cx) (pins : List (Addr × Obj)) (σ : St) (Q : VK) (u : Value) (s' : Shared) : Prop := ∃ v H', Inv X pins σ H' s' ∧ RelV v u ∧ Q v H'
def TP (X : Cx) (pins : List (Addr × Obj)) (σ : St) (Q : Bool → Hp → Prop) (b : Bool) (s' : Shared) : Prop := ∃ H', Inv X pins σ H' s' ∧ Q b H'
def AP (X : Cx) (pins : List (Addr × Obj)) (σ : St) (Q : List V → Hp → Prop) (us : List Value) (s' : Shared) : Prop := ∃ vs H', Inv X pins σ H' s' ∧ Vals vs us ∧ Q vs H'
def SP (X : Cx) (pins : List (Addr × Obj)) (D : Ends) (f : Flow) (s' : Shared) : Prop :=
  match f with
  | .next => ∃ σ' H', Inv X pins σ' H' s' ∧ D.nx σ' H'
  | .brk => ∃ σ' H', Inv X pins σ' H' s' ∧ D.bk σ' H'
  | .cont => ∃ σ' H', Inv X pins σ' H' s' ∧ D.ct σ' H'
  | .ret u => ∃ v σ' H', Inv X pins σ' H' s' ∧ RelV v u ∧ D.rt v H'

def PE (X : Cx) (e : Expr) (t : TE) : Prop :=
  ∀ (pins : List (Addr × Obj)) (s : Shared) (σ : St) (H : Hp) (Q : VK), Inv X pins σ H s → t σ H Q → wpAny (model X.prog X.w) X.A (eval e X.env) (EP X pins σ Q) X.xe s
def PT (X : Cx) (e : Expr) (t : TT) : Prop :=
  ∀ (pins : List (Addr × Obj)) (s : Shared) (σ : St) (H : Hp) (Q : Bool → Hp → Prop), Inv X pins σ H s → t σ H Q → wpAny (model X.prog X.w) X.A (isTrue e X.env (eval e X.env)) (TP X pins σ Q) X.xe s
/-- a test whatever its 'whole' is (and, or) -/
def PW (X : Cx) (e : Expr) (t : TT) : Prop :=
  ∀ (whole : Sem Value) (pins : List (Addr × Obj)) (s : Shared) (σ : St) (H : Hp) (Q : Bool → Hp → Prop), Inv X pins σ H s → t σ H Q → wpAny (model X.prog X.w) X.A (isTrue e X.env whole) (TP X pins σ Q) X.xe s
theorem PW.pt {X : Cx} {e : Expr} {t : TT} (h : PW X e t) : PT X e t := h _
/-- an argument list (no star), from the left -/
def PA (X : Cx) (es : List Expr) (t : TA) : Prop :=
  ∀ (pos : Pos) (pins : List (Addr × Obj)) (s : Shared) (σ : St) (H : Hp) (Q : List V → Hp → Prop), Inv X pins σ H s → t σ H Q → wpAny (model X.prog X.w) X.A (spliced (backTo pos (starEach es X.env))) (AP X pins σ Q) X.xe s
def PS (X : Cx) (st : Stmt) (t : TS) : Prop :=
  ∀ (pins : List (Addr × Obj)) (s : Shared) (σ : St) (H : Hp) (D : Ends), Inv X pins σ H s → t D σ H → wpAny (model X.prog X.w) X.A (exec st X.env) (SP X pins D) X.xe s
def PSs (X : Cx) (st : List Stmt) (t : TS) : Prop :=
  ∀ (pins : List (Addr × Obj)) (s : Shared) (σ : St) (H : Hp) (D : Ends), Inv X pins σ H s → t D σ H → wpAny (model X.prog X.w) X.A (execs st X.env) (SP X pins D) X.xe s
/-- weaken the end -/
theorem thn {α : Type} {t : Sem α} {Q Q' : α → Shared → Prop} {M : Model} {A : Around} {E : Value → Shared → Prop} {s : Shared} (h : wpAny M A t Q E s) (hQ : ∀ a s, Q a s → Q' a s) : wpAny M A t Q' E s := wpAny_mono h hQ fun _ _ x => x
end L2

namespace L2
open PySem PySem.Spec PyProof.Rows
section
variable {X : Cx}

/-! ### names and constants -/
def tVar (i : Nat) : TE := fun σ H Q => ∃ v, σ[i]? = some (some v) ∧ Q v H
def tC (v : V) : TE := fun _ H Q => Q v H
theorem pe_var {i : Nat} {x : Str} {pos : Pos} (hN : X.N[i]? = some x) (hv : Vis X.env.scope x) (hd : (x == ("__debug__" : Str)) = false := by decide) (hcd : (x == ("__classdict__" : Str)) = false := by decide) : PE X (.Name x pos) (tVar i) := by
  intro pins s σ H Q I h
  obtain ⟨v, e, h⟩ := h
  obtain ⟨m, hn, hl⟩ := I.loc
  obtain ⟨u, r, l⟩ := hl i x v hN e hv
  have fin : EP X pins σ Q u s := ⟨v, H, I, r, h⟩
  rcases l with ⟨hk, hm⟩ | ⟨hk, c, hc, hcell⟩
  · exact wpAny_Name (wpAny_loadName_local I.ok.kind hk hn hm fin) hd
  · rcases hk with hk | hk
    · exact wpAny_Name (wpAny_loadName_cell I.ok.kind hk hc hcell fin) hd
    · exact wpAny_Name (wpAny_loadName_free I.ok.kind hk hc hcell fin hcd) hd
theorem pe_int {i j pos} : PE X (.Constant (.int i) j pos) (tC (.int i)) := fun _ _ _ H _ I h => wpAny_Constant_int ⟨.int i, H, I.tok _, ⟨_, rfl⟩, h⟩
theorem pe_bl {b j pos} : PE X (.Constant (.bool b) j pos) (tC (.bl b)) := fun _ _ _ H _ I h => Constant_bool ⟨.bl b, H, I, rfl, h⟩
theorem pe_str {x j pos} : PE X (.Constant (.str x) j pos) (tC (.str x)) := fun _ _ _ H _ I h => Calls.Constant_str ⟨.str x, H, I.tok _, ⟨_, rfl⟩, h⟩

/-- a global name of the def -/
def Gl (X : Cx) (x : Str) : Prop := X.env.kindOf x = some .globalImplicit
theorem ld_glob {E : Value → Shared → Prop} {pins : List (Addr × Obj)} {s : Shared} {σ : St} {H : Hp} {x : Str} {u : Value} {pos : Pos} {Q : Value → Shared → Prop} (I : Inv X pins σ H s) (hg : Gl X x) (hm : X.mg x = some u) (h : Q u s)
    (hd : (x == ("__debug__" : Str)) = false := by decide) : wpAny (model X.prog X.w) X.A (eval (.Name x pos) X.env) Q E s :=
  Calls.Name_function_global I.ok.kind hg (Calls.loadGlobal_global (by rw [I.ok.glob]; exact I.mod.glob.keeps I.bk) hm h) hd
theorem ld_blt {E : Value → Shared → Prop} {pins : List (Addr × Obj)} {s : Shared} {σ : St} {H : Hp} {x : Str} {u : Value} {pos : Pos} {Q : Value → Shared → Prop} (I : Inv X pins σ H s) (hg : Gl X x) (hm : X.mg x = none) (hv : bootBuiltins x = some u) (h : Q u s)
    (hn : x ≠ "__name__" := by decide) (hd : (x == ("__debug__" : Str)) = false := by decide) : wpAny (model X.prog X.w) X.A (eval (.Name x pos) X.env) Q E s := by
  obtain ⟨mb, h1, h2⟩ := I.mod.blt
  exact Calls.Name_function_global I.ok.kind hg (Calls.loadGlobal_builtin (by rw [I.ok.glob]; exact I.mod.glob.keeps I.bk) hm (by rw [I.ok.blt]; exact h1.keeps I.bk) ((h2 x hn).trans hv) h) hd
/-- a module's constant, a class, a function, as a value -/
theorem pe_glob {x : Str} {v : V} {u : Value} {pos : Pos} (hg : Gl X x) (hm : X.mg x = some u) (r : RelV v u) (hd : (x == ("__debug__" : Str)) = false := by decide) : PE X (.Name x pos) (tC v) :=
  fun _ _ _ H _ I h => ld_glob I hg hm ⟨v, H, I, r, h⟩ hd
theorem pe_bltn {x : Str} {v : V} {u : Value} {pos : Pos} (hg : Gl X x) (hm : X.mg x = none) (hv : bootBuiltins x = some u) (r : RelV v u) (hn : x ≠ "__name__" := by decide) (hd : (x == ("__debug__" : Str)) = false := by decide) : PE X (.Name x pos) (tC v) :=
  fun _ _ _ H _ I h => ld_blt I hg hm hv ⟨v, H, I, r, h⟩ hn hd

/-! ### arithmetic -/
/-- two ints -/
def t2I (ta tb : TE) (k : Int → Int → Hp → Prop) : St → Hp → Prop := fun σ H => ta σ H fun x H1 => tb σ H1 fun y H2 => ∃ i j, x = .int i ∧ y = .int j ∧ k i j H2
def tAdd (ta tb : TE) : TE := fun σ H Q => t2I ta tb (fun i j H2 => Q (.int (i + j)) H2) σ H
def tSub (ta tb : TE) : TE := fun σ H Q => t2I ta tb (fun i j H2 => Q (.int (i - j)) H2) σ H
/-- the left factor below 2^64 -/
def tMul (ta tb : TE) : TE := fun σ H Q => t2I ta tb (fun i j H2 => (-(2 ^ 64) < i ∧ i < 2 ^ 64) ∧ Q (.int (i * j)) H2) σ H
variable {a b : Expr} {ta tb : TE} {pos : Pos}
/-! ### comparisons -/
def PC (X : Cx) (op : CmpOp) (a b : Expr) (t : TE) : Prop :=
  ∀ (pins : List (Addr × Obj)) (s : Shared) (σ : St) (H : Hp) (Q : VK), Inv X pins σ H s → t σ H Q →
    wpAny (model X.prog X.w) X.A (eval a X.env) (fun v s₁ => wpAny (model X.prog X.w) X.A (eval b X.env) (fun u s₂ => wpAny (model X.prog X.w) X.A (compareOp op v u) (EP X pins σ Q) X.xe s₂) X.xe s₁) X.xe s
def tCmp (p : Int → Int → Bool) (ta tb : TE) : TE := fun σ H Q => t2I ta tb (fun i j H2 => Q (.bl (p i j)) H2) σ H
abbrev tLt : TE → TE → TE := tCmp fun i j => decide (i < j)
abbrev tLe : TE → TE → TE := tCmp fun i j => decide (i ≤ j)
abbrev tGt : TE → TE → TE := tCmp fun i j => decide (j < i)
abbrev tGe : TE → TE → TE := tCmp fun i j => decide (j ≤ i)
abbrev tEqI : TE → TE → TE := tCmp fun i j => decide (i = j)
abbrev tNeI : TE → TE → TE := tCmp fun i j => !decide (i = j)
/-- is None -/
def tIsN (ta : TE) : TE := fun σ H Q => ta σ H fun x H1 => Q (.bl (decide (x = .non))) H1
def tNotN (ta : TE) : TE := fun σ H Q => ta σ H fun x H1 => Q (.bl (!decide (x = .non))) H1
/-- a comparison as a value, as a test -/
def tB (t : TE) : TT := fun σ H Q => t σ H fun x H1 => ∃ c, x = .bl c ∧ Q c H1
/-- an expression whose value is a bool, as a test -/
theorem pt_val {e : Expr} {t : TE} (h : PE X e t) (he : ∀ whole, isTrue e X.env whole = (do let v ← whole; standAt e.pos; holding [v] (truthy v)) := by intro _; rfl) : PT X e (tB t) := by
  intro pins s σ H Q I hw
  refine isTrue_plain (thn (h pins s σ H _ I hw) fun v s1 ⟨x, H1, I1, r1, q1⟩ => ?_) (he _)
  obtain ⟨d, rfl, q⟩ := q1
  cases r1
  exact wpAny_truthy_bool ⟨H1, I1, q⟩

/-! ### and, or, not -/
variable {tA tB' : TT} {rest : List Expr}
def tAnd (t u : TT) : TT := fun σ H Q => t σ H fun c H1 => if c = true then u σ H1 Q else Q false H1
def tOr (t u : TT) : TT := fun σ H Q => t σ H fun c H1 => if c = true then Q true H1 else u σ H1 Q
def tNot (t : TT) : TT := fun σ H Q => t σ H fun c H1 => Q (!c) H1
theorem pw_and1 (ha : PT X a tA) : PW X (.BoolOp .And [a] pos) tA := by
  intro wh pins s σ H Q I h
  refine isTrue_and (thn (ha pins s σ H Q I h) fun c s1 e => ?_)
  cases c with
  | true => exact isTrue_and_nil e
  | false => exact e
theorem pw_or1 (ha : PT X a tA) : PW X (.BoolOp .Or [a] pos) tA := by
  intro wh pins s σ H Q I h
  refine isTrue_or (thn (ha pins s σ H Q I h) fun c s1 e => ?_)
  cases c with
  | false => exact isTrue_or_nil e
  | true => exact e
theorem pw_and (ha : PT X a tA) (hb : PW X (.BoolOp .And (b :: rest) pos) tB') : PW X (.BoolOp .And (a :: b :: rest) pos) (tAnd tA tB') := by
  intro wh pins s σ H Q I h
  refine isTrue_and (thn (ha pins s σ H _ I h) fun c s1 ⟨H1, I1, q1⟩ => ?_)
  cases c with
  | true => exact hb wh pins s1 σ H1 Q I1 q1
  | false => exact ⟨H1, I1, q1⟩
theorem pw_or (ha : PT X a tA) (hb : PW X (.BoolOp .Or (b :: rest) pos) tB') : PW X (.BoolOp .Or (a :: b :: rest) pos) (tOr tA tB') := by
  intro wh pins s σ H Q I h
  refine isTrue_or (thn (ha pins s σ H _ I h) fun c s1 ⟨H1, I1, q1⟩ => ?_)
  cases c with
  | true => exact ⟨H1, I1, q1⟩
  | false => exact hb wh pins s1 σ H1 Q I1 q1
theorem pt_not (ha : PT X a tA) : PT X (.UnaryOp .Not a pos) (tNot tA) := by
  intro pins s σ H Q I h
  exact isTrue_not (ha pins s σ H (fun c H1 => Q (!c) H1) I h)
/-- .. as values (bools) -/
def tAndV (ta tb : TE) : TE := fun σ H Q => ta σ H fun x H1 => ∃ c, x = .bl c ∧ if c = true then tb σ H1 Q else Q (.bl false) H1
def tOrV (ta tb : TE) : TE := fun σ H Q => ta σ H fun x H1 => ∃ c, x = .bl c ∧ if c = true then Q (.bl true) H1 else tb σ H1 Q
def tNotV (ta : TE) : TE := fun σ H Q => ta σ H fun x H1 => ∃ c, x = .bl c ∧ Q (.bl (!c)) H1
theorem pe_one {op} {t : TE} (h : PE X a t) : PE X (.BoolOp op [a] pos) t := fun pins s σ H Q I hw => BoolOp_one (h pins s σ H Q I hw)
theorem pe_and (ha : PE X a ta) (hb : PE X (.BoolOp .And (b :: rest) pos) tb) : PE X (.BoolOp .And (a :: b :: rest) pos) (tAndV ta tb) := by
  intro pins s σ H Q I h
  refine BoolOp_and (thn (ha pins s σ H _ I h) fun v s1 ⟨x, H1, I1, r1, q1⟩ => ?_)
  obtain ⟨c, rfl, q1⟩ := q1
  cases r1
  refine wpAny_truthy_bool ?_
  cases c with
  | true => exact hb pins s1 σ H1 Q I1 q1
  | false => exact ⟨.bl false, H1, I1, rfl, q1⟩
theorem pe_not (ha : PE X a ta) : PE X (.UnaryOp .Not a pos) (tNotV ta) := by
  intro pins s σ H Q I h
  refine UnaryOp_ (thn (ha pins s σ H _ I h) fun v s1 ⟨x, H1, I1, r1, q1⟩ => ?_)
  obtain ⟨c, rfl, q1⟩ := q1
  cases r1
  exact not_of (wpAny_truthy_bool ⟨.bl (!c), H1, I1, rfl, q1⟩)
/-- a if t else b -/
def tIf (t : TT) (ta tb : TE) : TE := fun σ H Q => t σ H fun c H1 => if c = true then ta σ H1 Q else tb σ H1 Q
end
end L2

namespace L2
open PySem PySem.Spec PyProof.Rows

/-! ### a list, a tuple that is read: tracked, frozen, or an object of the module -/
def SqL (K : PySem.W.Frag) (H : Hp) (a : Addr) (xs : List V) : Prop :=
  Rd H a (.lst xs) ∨
    ∃ (o : Obj) (its : Array Value) (n : Nat), K.lookup a = some o ∧ o.cls = .type "list" ∧ o.dict = none ∧ o.data = .seq its n ∧ its.size ≤ sizeLine ∧ Vals xs its.toList
def SqT (K : PySem.W.Frag) (H : Hp) (a : Addr) (xs : List V) : Prop :=
  Rd H a (.tup xs) ∨
    ∃ (o : Obj) (its : Array Value) (n : Nat), K.lookup a = some o ∧ o.cls = .type "tuple" ∧ o.data = .seq its n ∧ its.size ≤ sizeLine ∧ Vals xs its.toList
def absV : Value → Option V
  | .none => some .non
  | .bool b => some (.bl b)
  | .int i _ => some (.int i)
  | .str x _ => some (.str x)
  | .bytes b _ => some (.byt b)
  | .float b _ => some (.flt b)
  | .ref a => some (.ref a)
  | .type n => some (.ty n)
  | _ => none
theorem RelV.abs {x : V} {u : Value} (r : RelV x u) : absV u = some x := by
  cases x with
  | non => cases r; rfl
  | bl _ => cases r; rfl
  | int _ => obtain ⟨t, rfl⟩ := r; rfl
  | str _ => obtain ⟨t, rfl⟩ := r; rfl
  | byt _ => obtain ⟨t, rfl⟩ := r; rfl
  | flt _ => obtain ⟨t, rfl⟩ := r; rfl
  | ref _ => cases r; rfl
  | ty _ => cases r; rfl
theorem RelV.inj {x y : V} {u : Value} (r : RelV x u) (q : RelV y u) : x = y := Option.some.inj (r.abs.symm.trans q.abs)
theorem Vals.inj : ∀ {xs ys : List V} {us : List Value}, Vals xs us → Vals ys us → xs = ys
  | _, _, _, .nil, .nil => rfl
  | _, _, _, .cons r t, .cons r' t' => by rw [r.inj r', Vals.inj t t']
section
variable {X : Cx} {pins : List (Addr × Obj)} {σ : St} {H : Hp} {s : Shared} {a : Addr} {xs ys : List V}
theorem SqL.of {K : PySem.W.Frag} (h : H a = some (.lst xs)) : SqL K H a xs := .inl (.inl h)
theorem SqT.of {K : PySem.W.Frag} (h : H a = some (.tup xs)) : SqT K H a xs := .inl (.inl h)
theorem Inv.list (I : Inv X pins σ H s) (h : SqL X.K H a xs) : ∃ its : List Value, Vals xs its ∧ PlainL s.heap a its.toArray ∧ xs.length ≤ sizeLine := by
  rcases h with h | ⟨o, its, n, hk, hc, hd, hs, hz, r⟩
  · obtain ⟨z, its, n, r, e⟩ := h.ok I.hok
    exact ⟨its, r, ⟨_, n, e, rfl, rfl, rfl⟩, z⟩
  · refine ⟨its.toList, r, ⟨o, n, I.kIn a o hk, hc, hd, by simpa using hs⟩, ?_⟩
    have e := r.length
    simp only [Array.length_toList] at e
    omega
theorem Inv.tuple (I : Inv X pins σ H s) (h : SqT X.K H a xs) : ∃ its : List Value, Vals xs its ∧ IsTup s.heap a its.toArray ∧ xs.length ≤ sizeLine := by
  rcases h with h | ⟨o, its, n, hk, hc, hs, hz, r⟩
  · obtain ⟨z, its, r, p⟩ := h.ok I.hok
    exact ⟨its, r, p, z⟩
  · refine ⟨its.toList, r, ⟨o, I.kIn a o hk, hc, n, by simpa using hs⟩, ?_⟩
    have e := r.length
    simp only [Array.length_toList] at e
    omega
theorem Inv.list_inj (I : Inv X pins σ H s) (h : SqL X.K H a xs) (h' : SqL X.K H a ys) : xs = ys := by
  obtain ⟨its, r, ⟨o, n, e, _, _, d⟩, _⟩ := I.list h
  obtain ⟨its', r', ⟨o', n', e', _, _, d'⟩, _⟩ := I.list h'
  rw [e] at e'; cases e'
  rw [d] at d'
  injection d' with d1 _
  have : its = its' := by simpa using congrArg Array.toList d1
  subst this
  exact r.inj r'
theorem Inv.tuple_inj (I : Inv X pins σ H s) (h : SqT X.K H a xs) (h' : SqT X.K H a ys) : xs = ys := by
  obtain ⟨its, r, ⟨o, e, _, n, d⟩, _⟩ := I.tuple h
  obtain ⟨its', r', ⟨o', e', _, n', d'⟩, _⟩ := I.tuple h'
  rw [e] at e'; cases e'
  rw [d] at d'
  injection d' with d1 _
  have : its = its' := by simpa using congrArg Array.toList d1
  subst this
  exact r.inj r'
end

/-! ### another wish about exceptions -/
abbrev Cx.wish (X : Cx) (E : Value → Shared → Prop) : Cx := { X with xe := E }
/-- no exception leaves -/
abbrev Cx.nox (X : Cx) : Cx := X.wish fun _ _ => False
theorem Cx.Ok.wish {X : Cx} (ok : X.Ok) (E : Value → Shared → Prop) : (X.wish E).Ok :=
  ⟨ok.mod, ok.kind, ok.glob, ok.blt, ok.above, ok.inj, ok.has, ok.cab, ok.hd, ok.frames, ok.stk, ok.exf, ok.bs, ok.bsz, ok.noex, ok.exfs, ok.funs, ok.frf⟩
theorem Cx.Ok.unwish {X : Cx} {E : Value → Shared → Prop} (ok : (X.wish E).Ok) : X.Ok :=
  ⟨ok.mod, ok.kind, ok.glob, ok.blt, ok.above, ok.inj, ok.has, ok.cab, ok.hd, ok.frames, ok.stk, ok.exf, ok.bs, ok.bsz, ok.noex, ok.exfs, ok.funs, ok.frf⟩
section
variable {X : Cx} {pins : List (Addr × Obj)} {σ : St} {H : Hp} {s : Shared} {E : Value → Shared → Prop}
theorem Inv.wish (I : Inv X pins σ H s) (E : Value → Shared → Prop) : Inv (X.wish E) pins σ H s := ⟨I.ok.wish E, I.os, I.bare, I.base, I.loc, I.cell, I.free, I.freeC, I.pin, I.hok, I.len⟩
theorem Inv.unwish (I : Inv (X.wish E) pins σ H s) : Inv X pins σ H s := ⟨I.ok.unwish, I.os, I.bare, I.base, I.loc, I.cell, I.free, I.freeC, I.pin, I.hok, I.len⟩
theorem SP.unwish {D : Ends} {f : Flow} {s' : Shared} (h : SP (X.wish E) pins D f s') : SP X pins D f s' := by
  cases f with
  | next => obtain ⟨σ', H', I, q⟩ := h; exact ⟨σ', H', I.unwish, q⟩
  | brk => obtain ⟨σ', H', I, q⟩ := h; exact ⟨σ', H', I.unwish, q⟩
  | cont => obtain ⟨σ', H', I, q⟩ := h; exact ⟨σ', H', I.unwish, q⟩
  | ret u => obtain ⟨v, σ', H', I, r, q⟩ := h; exact ⟨v, σ', H', I.unwish, r, q⟩
theorem PSs.nox {st : List Stmt} {t : TS} (h : PSs X.nox st t) : PSs X st t := fun pins s σ H D I hw =>
  wpAny_mono (h pins s σ H D (I.wish _) hw) (fun _ _ q => q.unwish) fun _ _ z => False.elim z
end

/-! ### blocks and small statements -/
section
variable {X : Cx} {st : Stmt} {rest : List Stmt} {t u : TS} {e : Expr} {te : TE} {pos : Pos}
def tNext : TS := fun D σ H => D.nx σ H
def tSeq (t u : TS) : TS := fun D σ H => t { D with nx := u D } σ H
theorem pss_nil : PSs X [] tNext := fun _ _ σ H _ I h => wpAny_execs_nil ⟨σ, H, I, h⟩
theorem pss_cons (h1 : PS X st t) (h2 : PSs X rest u) : PSs X (st :: rest) (tSeq t u) := by
  intro pins s σ H D I h
  refine wpAny_execs_cons (thn (h1 pins s σ H { D with nx := u D } I h) fun f s1 q => ?_)
  cases f with
  | next =>
    obtain ⟨σ', H', I', q⟩ := q
    exact h2 pins s1 σ' H' D I' q
  | ret v => exact q
  | brk => exact q
  | cont => exact q
theorem pss_one (h1 : PS X st t) : PSs X [st] t := by
  intro pins s σ H D I h
  refine wpAny_execs_cons (thn (h1 pins s σ H D I h) fun f s1 q => ?_)
  cases f with
  | next => exact wpAny_execs_nil q
  | ret v => exact q
  | brk => exact q
  | cont => exact q
def tBreak : TS := fun D σ H => D.bk σ H
def tCont : TS := fun D σ H => D.ct σ H
/-- in a def's body nothing is shown -/
theorem Inv.quiet {pins : List (Addr × Obj)} {σ : St} {H : Hp} {s : Shared} (I : Inv X pins σ H s) : interactive X.env = false := by simp [interactive, I.ok.kind]
/-- an expression whose value is dropped -/
def tDrop (te : TE) : TS := fun D σ H => te σ H fun _ H1 => D.nx σ H1
theorem ps_expr (he : PE X e te) (hs : swapsWith e none pos.line X.env = pure false := by rfl) : PS X (.Expr e pos) (tDrop te) := by
  intro pins s σ H D I h
  exact wpAny_Expr_any (thn (he pins s σ H _ I h) fun v s1 ⟨x, H1, I1, r1, q1⟩ => ⟨σ, H1, I1, q1⟩) I.quiet hs
def tRet (te : TE) : TS := fun D σ H => te σ H D.rt
theorem ps_ret (he : PE X e te) : PS X (.Return (some e) pos) (tRet te) := by
  intro pins s σ H D I h
  exact wpAny_Return_some (thn (he pins s σ H _ I h) fun v s1 ⟨x, H1, I1, r1, q1⟩ => ⟨x, σ, H1, I1, r1, q1⟩)
def tRetN : TS := fun D _ H => D.rt .non H
def tIfS (c : TT) (t u : TS) : TS := fun D σ H => c σ H fun b H1 => if b = true then t D σ H1 else u D σ H1
theorem ps_if {c : Expr} {a b : List Stmt} {tc : TT} (hc : PT X c tc) (ha : PSs X a t) (hb : PSs X b u) : PS X (.If c a b pos) (tIfS tc t u) := by
  intro pins s σ H D I h
  refine wpAny_If (thn (hc pins s σ H _ I h) fun d s1 ⟨H1, I1, q1⟩ => ?_)
  cases d with
  | true => exact ha pins s1 σ H1 D I1 q1
  | false => exact hb pins s1 σ H1 D I1 q1
/-- code that the proof never comes to -/
def tNever : TS := fun _ _ _ => False
theorem ps_never : PS X st tNever := fun _ _ _ _ _ _ h => h.elim
end

/-! ### targets -/
abbrev TG := V → St → Hp → (St → Hp → Prop) → Prop
abbrev TGs := List V → St → Hp → (St → Hp → Prop) → Prop
def PG (X : Cx) (target : Expr) (t : TG) : Prop :=
  ∀ (pins : List (Addr × Obj)) (s : Shared) (σ : St) (H : Hp) (v : V) (u : Value) (Q : St → Hp → Prop), Inv X pins σ H s → RelV v u → t v σ H Q →
    wpAny (model X.prog X.w) X.A (assign target X.env u) (fun _ s' => ∃ σ' H', Inv X pins σ' H' s' ∧ Q σ' H') X.xe s
/-- several targets, one after another -/
def PGs (X : Cx) (ts : List Expr) (t : TGs) : Prop :=
  ∀ (pins : List (Addr × Obj)) (s : Shared) (σ : St) (H : Hp) (vs : List V) (us : List Value) (Q : St → Hp → Prop), Inv X pins σ H s → Vals vs us → t vs σ H Q →
    wpAny (model X.prog X.w) X.A (assignInOrder ((assignEach ts X.env).map (·.2)) us) (fun _ s' => ∃ σ' H', Inv X pins σ' H' s' ∧ Q σ' H') X.xe s
/-- o[i] = v, by values -/
abbrev TSet := V → V → V → Hp → (Hp → Prop) → Prop
def PSet (X : Cx) (t : TSet) : Prop :=
  ∀ (pins : List (Addr × Obj)) (s : Shared) (σ : St) (H : Hp) (o i v : V) (ov iv u : Value) (Q : Hp → Prop), Inv X pins σ H s → RelV o ov → RelV i iv → RelV v u → t o i v H Q →
    wpAny (model X.prog X.w) X.A (setItem ov iv u) (fun _ s' => ∃ H', Inv X pins σ H' s' ∧ Q H') X.xe s
/-- a op= b, by values -/
abbrev TIp := V → V → Hp → VK → Prop
def PIp (X : Cx) (op : Operator) (t : TIp) : Prop :=
  ∀ (pins : List (Addr × Obj)) (s : Shared) (σ : St) (H : Hp) (x y : V) (v u : Value) (Q : VK), Inv X pins σ H s → RelV x v → RelV y u → t x y H Q →
    wpAny (model X.prog X.w) X.A (inplaceOp op v u) (EP X pins σ Q) X.xe s
section
variable {X : Cx} {pos : Pos}
def gName (i : Nat) : TG := fun v σ H Q => Q (σ.set i (some v)) H
theorem pg_name {i : Nat} {x : Str} (hN : X.N.Nodup) (hi : X.N[i]? = some x) (hx : Loc X.env.scope x) (hf : X.fn x = true ∨ X.env.scope.names.lookup x = some .local := by first | exact .inl rfl | exact .inr rfl | assumption) : PG X (.Name x pos) (gName i) := by
  intro pins s σ H v u Q I r h
  exact wpAny_assign_Name (store_ok I hN hi hx r (fun s' I' => ⟨_, H, I', h⟩) hf)
def gNil : TGs := fun vs σ H Q => vs = [] ∧ Q σ H
def gCons (t : TG) (u : TGs) : TGs := fun vs σ H Q => ∃ v r, vs = v :: r ∧ t v σ H fun σ' H' => u r σ' H' Q
theorem pgs_nil : PGs X [] gNil := by
  intro pins s σ H vs us Q I r h
  obtain ⟨e, h⟩ := h
  subst e
  cases r
  exact assignInOrder_nil ⟨σ, H, I, h⟩
theorem pgs_cons {e : Expr} {es : List Expr} {t : TG} {u : TGs} (h1 : PG X e t) (h2 : PGs X es u)
    (hs : (assignEach (e :: es) X.env).map (·.2) = assign e X.env :: (assignEach es X.env).map (·.2) := by rfl) : PGs X (e :: es) (gCons t u) := by
  intro pins s σ H vs us Q I r h
  obtain ⟨v, vr, e1, h⟩ := h
  subst e1
  cases r with
  | cons r rr =>
    rw [hs]
    refine assignInOrder_cons (thn (h1 pins s σ H _ _ _ I r h) fun _ s1 ⟨σ1, H1, I1, q1⟩ => ?_)
    exact h2 pins s1 σ1 H1 _ _ Q I1 rr q1
/-- (a, b, ..) = a tuple of that length -/
def gTup (K : PySem.W.Frag) (n : Nat) (t : TGs) : TG := fun v σ H Q => ∃ a xs, v = .ref a ∧ SqT K H a xs ∧ xs.length = n ∧ t xs σ H Q
theorem pg_tup {es : List Expr} {k : Nat} {t : TGs} {n : Nat} (hc : X.calm = true) (h : PGs X es t)
    (hn : (assignEach es X.env).length = n := by rfl) (hst : (assignEach es X.env).findIdx? (·.1) = none := by rfl) : PG X (.Tuple es k pos) (gTup X.K n t) := by
  intro pins s σ H v u Q I r hw
  obtain ⟨a, xs, e1, hq, hl, hw⟩ := hw
  subst e1
  cases r
  obtain ⟨its, rv, ht, hz⟩ := I.tuple hq
  refine assign_Tuple_tuple (I.ok.hd hc) ht (by simp [hn, ← hl, rv.length]) hst fun h' hx => ?_
  have I1 : Inv X pins σ H { s with heap := h' } := I.kept (t' := s.toks) fun b o e => hx b o (Nat.ne_of_lt (Heap.lt_size e)) e
  exact h pins _ σ H xs _ Q I1 (by simpa using rv) hw
/-- o[i] = .. -/
def gSub (to ti : TE) (t : TSet) : TG := fun v σ H Q => to σ H fun o H1 => ti σ H1 fun i H2 => t o i v H2 fun H3 => Q σ H3
/-- target = value -/
def tAsg (te : TE) (g : TG) : TS := fun D σ H => te σ H fun x H1 => g x σ H1 D.nx
theorem ps_asg {tg e : Expr} {te : TE} {g : TG} (he : PE X e te) (hg : PG X tg g) (hs : swapsWithSole [tg] e pos.line X.env = pure false := by rfl) (hw : swappedStores [tg] e X.env = pure none := by rfl)
    (h1 : (assignEach [tg] X.env).map (·.2) = [assign tg X.env] := by rfl) : PS X (.Assign [tg] e pos) (tAsg te g) := by
  intro pins s σ H D I h
  refine wpAny_Assign_stores (thn (he pins s σ H _ I h) fun v s1 ⟨x, H1, I1, r1, q1⟩ => ?_) hs hw
  rw [h1]
  exact thn (hg pins s1 σ H1 x v _ I1 r1 q1) fun _ s2 q => q
/-- name = value -/
theorem ps_set {i : Nat} {x : Str} {e : Expr} {te : TE} {pos' : Pos} (hN : X.N.Nodup) (hi : X.N[i]? = some x) (hx : Loc X.env.scope x) (he : PE X e te) (hs : swapsWith e (some (.Name x pos')) pos.line X.env = pure false := by rfl) (hf : X.fn x = true ∨ X.env.scope.names.lookup x = some .local := by first | exact .inl rfl | exact .inr rfl | assumption) :
    PS X (.Assign [.Name x pos'] e pos) (tAsg te (gName i)) := by
  intro pins s σ H D I h
  refine wpAny_Assign_Name (thn (he pins s σ H _ I h) fun v s1 ⟨y, H1, I1, r1, q1⟩ => ?_) hs
  exact store_ok I1 hN hi hx r1 (fun s2 I2 => ⟨_, H1, I2, q1⟩) hf
/-- a, b = x, y with plain local names: stored from the right; the pair itself is not tracked (the opening rows as in PyProof/Rows/TupAssign.lean:23) -/
def tPar (i j : Nat) (ta : TA) : TS := fun D σ H => ta σ H fun vs H1 => ∃ v w, vs = [v, w] ∧ D.nx ((σ.set i (some v)).set j (some w)) H1
/-- name op= e -/
def tAug (i : Nat) (te : TE) (ti : TIp) : TS := fun D σ H => ∃ x, σ[i]? = some (some x) ∧ te σ H fun y H1 => ti x y H1 fun z H2 => D.nx (σ.set i (some z)) H2
/-- o[i] op= e -/
def tAugS (to ti te : TE) (tget : V → V → Hp → VK → Prop) (tip : TIp) (tset : TSet) : TS := fun D σ H => to σ H fun o H1 => ti σ H1 fun i H2 => tget o i H2 fun x H3 => te σ H3 fun y H4 => tip x y H4 fun z H5 => tset o i z H5 fun H6 => D.nx σ H6
/-- o[i], by values -/
def PGet (X : Cx) (t : V → V → Hp → VK → Prop) : Prop :=
  ∀ (pins : List (Addr × Obj)) (s : Shared) (σ : St) (H : Hp) (o i : V) (ov iv : Value) (Q : VK), Inv X pins σ H s → RelV o ov → RelV i iv → t o i H Q →
    wpAny (model X.prog X.w) X.A (getItem ov iv) (EP X pins σ Q) X.xe s
/-- ints -/
def ipI (f : Int → Int → Int) : TIp := fun x y H Q => ∃ i j, x = .int i ∧ y = .int j ∧ Q (.int (f i j)) H
end

/-! ### while -/
section
variable {X : Cx} {pos : Pos}
/-- the invariant W with its measure -/
def tWhile (c : TT) (tb : TS) : TS := fun D σ H => ∃ W : Nat → St → Hp → Prop, (∃ m, W m σ H) ∧ ∀ m σ H, W m σ H →
  c σ H fun b H1 => if b = true then ∃ N : St → Hp → Prop, (∀ σ' H', N σ' H' → ∃ m', m' < m ∧ W m' σ' H') ∧ tb { D with nx := N, ct := N, bk := D.nx } σ H1 else D.nx σ H1
end

/-! ### what a loop or a comprehension walks -/
/-- at turn i: it yields x (the heap may grow), or it stops -/
structure It where
  go : Nat → Hp → Prop
  yld : Nat → Hp → V → Hp → Prop
  stop : Nat → Hp → Prop
/-- the iterator's own objects may turn: they are not the frame's, not pinned, younger than the entry (or a comprehension's own) -/
def FpOk (X : Cx) (pins : List (Addr × Obj)) (H : Hp) (b : Addr) : Prop :=
  H b = none ∧ b ≠ X.env.locals ∧ b ∉ X.fs ∧ (b ∈ X.ex ∨ X.s₀.heap.objs.size ≤ b) ∧ (∀ x c, X.env.cells.lookup x = some c → c ≠ b) ∧ ∀ p ∈ X.pn ++ pins, p.1 ≠ b
theorem Inv.fpOk {X : Cx} {pins : List (Addr × Obj)} {σ : St} {H H' : Hp} {s : Shared} {b : Addr} (I : Inv X pins σ H s) (hb : s.heap.objs.size ≤ b) (hn : H' b = none) : FpOk X pins H' b := by
  refine ⟨hn, Nat.ne_of_gt (Nat.lt_of_lt_of_le I.lt hb), I.nofs hb, .inr (Nat.le_trans I.sz hb), fun x c e z => ?_, fun p hp z => ?_⟩
  · obtain ⟨v, q⟩ := I.cell x c e
    exact absurd (Nat.lt_of_lt_of_le q.lt (by rw [z]; exact hb)) (Nat.lt_irrefl _)
  · exact absurd (Nat.lt_of_lt_of_le (Heap.lt_size (I.pin p hp).1) (by rw [z]; exact hb)) (Nat.lt_irrefl _)
structure Turn (P : Program) (w : World) (K : PySem.W.Frag) (tg : Expr) (J : It) (fp : List Addr) (it : Addr) (tn : Nat → Heap → Prop) : Prop where
  mem : it ∈ fp
  obj : ∀ i h, tn i h → ∀ b ∈ fp, ∃ o, h.get? b = some o ∧ ∀ v, o.data ≠ .cell v
  keep : ∀ i h h', tn i h → (∀ b ∈ fp, ∀ o, h.get? b = some o → h'.get? b = some o) → tn i h'
  item : ∀ (X : Cx), X.prog = P → X.w = w → X.K = K → X.calm = true → ∀ (i : Nat) (pins : List (Addr × Obj)) (s : Shared) (σ : St) (H : Hp) (E : Value → Shared → Prop), Inv X pins σ H s → (∀ b ∈ fp, FpOk X pins H b) → tn i s.heap → J.go i H →
    wpAny (model P w) X.A (pyNext (.ref it)) (fun r s1 => ∃ u, r = some u ∧
      wpAny (model P w) X.A (letOwnedTupleGo tg (.ref it) u) (fun _ s2 => ∃ x H', Inv X pins σ H' s2 ∧ RelV x u ∧ J.yld i H x H' ∧ tn (i + 1) s2.heap ∧ ∀ b ∈ fp, H' b = none) E s1) E s
  done : ∀ (X : Cx), X.prog = P → X.w = w → X.K = K → X.calm = true → ∀ (i : Nat) (pins : List (Addr × Obj)) (s : Shared) (σ : St) (H : Hp) (E : Value → Shared → Prop), Inv X pins σ H s → (∀ b ∈ fp, FpOk X pins H b) → tn i s.heap → J.stop i H →
    wpAny (model P w) X.A (pyNext (.ref it)) (fun r s1 => r = none ∧ Inv X pins σ H s1) E s
  self : ∀ (A : Around) (i : Nat) (s : Shared) (Q : Value → Shared → Prop) (E : Value → Shared → Prop), tn i s.heap → Q (.ref it) s → wpAny (model P w) A (pyIter (.ref it)) Q E s
abbrev TI := St → Hp → (It → Hp → Prop) → Prop
/-- an iterator has come -/
def PIE (X : Cx) (pins : List (Addr × Obj)) (σ : St) (tg : Expr) (R : It → Hp → Prop) (itv : Value) (s2 : Shared) : Prop :=
  ∃ (it : Addr) (fp : List Addr) (tn : Nat → Heap → Prop) (J : It) (H' : Hp), itv = .ref it ∧ Inv X pins σ H' s2 ∧ Turn X.prog X.w X.K tg J fp it tn ∧ tn 0 s2.heap ∧ (∀ b ∈ fp, FpOk X pins H' b) ∧ R J H'
def PI (X : Cx) (tg iter : Expr) (wi : TI) : Prop :=
  ∀ (pins : List (Addr × Obj)) (s : Shared) (σ : St) (H : Hp) (R : It → Hp → Prop), Inv X pins σ H s → wi σ H R →
    wpAny (model X.prog X.w) X.A (eval iter X.env) (fun v s1 => wpAny (model X.prog X.w) X.A (pyIter v) (PIE X pins σ tg R) X.xe s1) X.xe s

/-- the step ahead of the store is nothing for an iterator that keeps no tuple -/
theorem go_of {M : Model} {A : Around} {E : Value → Shared → Prop} {s : Shared} {tg : Expr} {it : Addr} {u : Value} {o : Obj} {n : String} {vs : Array Value} {Q : Unit → Shared → Prop} (ho : s.heap.get? it = some o) (hc : o.cls = .type n) (hd : o.data = .fields vs)
    (hn : ["enumerate", "zip", "dict_itemiterator", "dict_reverseitemiterator", "odict_iterator", "itertools.zip_longest", "itertools.pairwise"].contains n = false) (hQ : Q () s) : wpAny M A (letOwnedTupleGo tg (.ref it) u) Q E s := by
  unfold letOwnedTupleGo
  cases tg <;> first
    | exact wpAny_pure hQ
    | (cases u <;> first
        | exact wpAny_pure hQ
        | (refine wpAny_bind (wpAny_load ho ?_)
           rw [hc, hd]
           show wpAny M A (if (["enumerate", "zip", "dict_itemiterator", "dict_reverseitemiterator", "odict_iterator", "itertools.zip_longest", "itertools.pairwise"].contains n && vs[0]? == some (rawInt _)) = true then _ else _) Q E s
           rw [if_neg (by intro h; rw [hn, Bool.false_and] at h; cases h)]
           exact wpAny_pure hQ))

/-- the list at a, as it stands at each turn (a loop may append to it) -/
def Itl (K : PySem.W.Frag) (a : Addr) : It :=
  ⟨fun i H => ∃ xs x, SqL K H a xs ∧ xs[i]? = some x, fun i H x H' => H' = H ∧ ∀ xs, SqL K H a xs → xs[i]? = some x, fun i H => ∃ xs, SqL K H a xs ∧ xs.length ≤ i⟩
def Itt (K : PySem.W.Frag) (a : Addr) : It :=
  ⟨fun i H => ∃ xs x, SqT K H a xs ∧ xs[i]? = some x, fun i H x H' => H' = H ∧ ∀ xs, SqT K H a xs → xs[i]? = some x, fun i H => ∃ xs, SqT K H a xs ∧ xs.length ≤ i⟩
/-- lo, lo + 1, .. (n of them) -/
def Itr (lo : Int) (n : Nat) : It := ⟨fun i _ => i < n, fun i H x H' => H' = H ∧ x = .int (lo + i), fun i _ => n ≤ i⟩
theorem turn_list {P : Program} {w : World} {K : PySem.W.Frag} {tg : Expr} (a it : Addr) : Turn P w K tg (Itl K a) [it] it (fun i h => h.IsListIter it a i) where
  mem := by simp
  obj := fun i h st b hb => by
    have e : b = it := by simpa using hb
    subst e
    obtain ⟨o, e, c, d⟩ := st
    exact ⟨o, e, fun v z => by rw [d] at z; cases z⟩
  keep := fun i h h' st k => st.at fun o e => k it (by simp) o e
  item := by
    intro X hP hw hK hc i pins s σ H E I hf st hg
    subst hP hw hK
    obtain ⟨xs, x, hq, hx⟩ := hg
    obtain ⟨its, rv, p, hz⟩ := I.list hq
    obtain ⟨u, hu, ru⟩ := rv.get hx
    obtain ⟨f0, f1, f2, f3, f4, f5⟩ := hf it (by simp)
    refine wpAny_pyNext_list_item st p.isList (x := u) (by simpa using hu) fun h' st' sb => ?_
    have I1 : Inv X pins σ H { s with heap := h' } := I.turned (t' := s.toks) (fun b o hb e => (sb.2 b hb).trans e) f0 f1 f3 f4 f5
    obtain ⟨o, e, c, d⟩ := id st'
    exact ⟨u, rfl, go_of (s := { s with heap := h' }) e c d (by decide) ⟨x, H, I1, ru, ⟨rfl, fun ys hy => by rw [I.list_inj hy hq]; exact hx⟩, st', fun b hb => (hf b hb).1⟩⟩
  done := by
    intro X hP hw hK hc i pins s σ H E I hf st hg
    subst hP hw hK
    obtain ⟨xs, hq, hx⟩ := hg
    obtain ⟨its, rv, p, hz⟩ := I.list hq
    obtain ⟨f0, f1, f2, f3, f4, f5⟩ := hf it (by simp)
    have hl := rv.length
    exact wpAny_pyNext_list_end (I.ok.hd hc) st p.isList (by simp; omega) fun h' eb => ⟨rfl, I.turned (t' := s.toks) (fun b o hb e => eb b o hb e) f0 f1 f3 f4 f5⟩
  self := fun _ _ _ _ _ st h => wpAny_pyIter_listiter st h
theorem turn_range {P : Program} {w : World} {K : PySem.W.Frag} {tg : Expr} (it : Addr) (lo : Int) (n : Nat) : Turn P w K tg (Itr lo n) [it] it (fun i h => IsRangeIter h it (lo + (i : Nat) * 1) ((n : Int) - (i : Nat)) 1) where
  mem := by simp
  obj := fun i h st b hb => by
    have e : b = it := by simpa using hb
    subst e
    exact ⟨_, st, fun v z => by
      have z' : Data.fields _ = Data.cell v := z
      cases z'⟩
  keep := fun i h h' st k => k it (by simp) _ st
  item := by
    intro X hP hw hK hc i pins s σ H E I hf st hg
    subst hP hw hK
    obtain ⟨f0, f1, f2, f3, f4, f5⟩ := hf it (by simp)
    have W := Walks.range (prog := X.prog) (w := X.w) (I.ok.hd hc) it lo 1 n
    refine W.item i s _ _ hg st fun v h' tk hv st' kk => ?_
    obtain ⟨t, rfl⟩ := hv
    have I1 : Inv X pins σ H { s with heap := h', toks := tk } := I.turned (fun b o hb e => kk b o (by simpa using hb) e) f0 f1 f3 f4 f5
    refine ⟨_, rfl, go_of (s := { s with heap := h', toks := tk }) (n := "range_iterator") st' rfl rfl (by decide) ⟨.int (lo + i), H, I1, ⟨t, ?_⟩, ⟨rfl, rfl⟩, st', fun b hb => (hf b hb).1⟩⟩
    rw [Int.mul_one]
  done := by
    intro X hP hw hK hc i pins s σ H E I hf st hg
    subst hP hw hK
    obtain ⟨f0, f1, f2, f3, f4, f5⟩ := hf it (by simp)
    exact wpAny_pyNext_range_end (I.ok.hd hc) st (by have : n ≤ i := hg; omega) fun h' eb => ⟨rfl, I.turned (t' := s.toks) (fun b o hb e => eb b o hb e) f0 f1 f3 f4 f5⟩
  self := fun _ _ _ _ _ st h => wpAny_pyIter_rangeiter st h
end L2

namespace L2
open PySem PySem.Spec PyProof.Rows
section
variable {X : Cx} {tg : Expr}
def iList (K : PySem.W.Frag) (tl : TE) : TI := fun σ H R => tl σ H fun x H1 => ∃ a, x = .ref a ∧ (∃ xs, SqL K H1 a xs) ∧ R (Itl K a) H1
def iTup (K : PySem.W.Frag) (tl : TE) : TI := fun σ H R => tl σ H fun x H1 => ∃ a, x = .ref a ∧ (∃ xs, SqT K H1 a xs) ∧ R (Itt K a) H1
theorem pi_list {l : Expr} {tl : TE} (hl : PE X l tl) : PI X tg l (iList X.K tl) := by
  intro pins s σ H R I h
  refine thn (hl pins s σ H _ I h) fun v s1 ⟨x, H1, I1, r1, q1⟩ => ?_
  obtain ⟨a, e, ⟨xs, hq⟩, q⟩ := q1
  subst e
  cases r1
  obtain ⟨its, rv, p, hz⟩ := I1.list hq
  refine wpAny_pyIter_list p.isList ?_
  refine ⟨s1.heap.objs.size, [s1.heap.objs.size], _, _, H1, rfl, I1.kept (t' := s1.toks) fun b o e => Heap.get?_push_of_some _ e, turn_list a _, ⟨_, Heap.get?_push_size _ rfl, rfl, rfl⟩, fun b hb => ?_, q⟩
  have e : b = s1.heap.objs.size := by simpa using hb
  subst e
  exact I1.fpOk (Nat.le_refl _) (I1.hok.fresh (Nat.le_refl _))
/-- a range object just made, walked -/
theorem range_it {pins : List (Addr × Obj)} {σ : St} {H : Hp} {s : Shared} {R : It → Hp → Prop} {E : Value → Shared → Prop} {lo hi : Int} {t u v : Tok} {tk : Nat} (I : Inv X pins σ H s) (h1 : -(2 ^ 62) ≤ lo) (h2 : lo < 2 ^ 62) (h3 : -(2 ^ 62) ≤ hi) (h4 : hi < 2 ^ 62)
    (q : R (Itr lo (hi - lo).toNat) H) : wpAny (model X.prog X.w) X.A (pyIter (.ref s.heap.objs.size)) (PIE X pins σ tg R) E { s with heap := s.heap.push { cls := .type "range", data := .fields #[.int lo t, .int hi u, .int 1 v] }, toks := tk } := by
  refine wpAny_pyIter_range (IsRange.new ..) (small_one h1 h2 h3 h4) ?_
  have I1 : Inv X pins σ H { s with heap := s.heap.push { cls := .type "range", data := .fields #[.int lo t, .int hi u, .int 1 v] }, toks := tk } := I.kept fun b o e => Heap.get?_push_of_some _ e
  refine ⟨(s.heap.push { cls := .type "range", data := .fields #[.int lo t, .int hi u, .int 1 v] }).objs.size, [(s.heap.push { cls := .type "range", data := .fields #[.int lo t, .int hi u, .int 1 v] }).objs.size], _, _, H, rfl,
    I1.kept (t' := tk) fun b o e => Heap.get?_push_of_some _ e, turn_range _ lo (hi - lo).toNat, ?_, fun b hb => ?_, q⟩
  · have e1 : lo + ((0 : Nat) : Int) * 1 = lo := by simp
    have e2 : (((hi - lo).toNat : Nat) : Int) - ((0 : Nat) : Int) = Builtin.Range.rangeSize lo hi 1 := by rw [rangeSize_one]; split <;> omega
    show IsRangeIter _ _ (lo + ((0 : Nat) : Int) * 1) ((((hi - lo).toNat : Nat) : Int) - ((0 : Nat) : Int)) 1
    rw [e1, e2]
    exact Heap.get?_push_size _ rfl
  · have e : b = (s.heap.push { cls := .type "range", data := .fields #[.int lo t, .int hi u, .int 1 v] }).objs.size := by simpa using hb
    subst e
    exact I1.fpOk (Nat.le_refl _) (I1.hok.fresh (Nat.le_refl _))
def iRng1 (ta : TA) : TI := fun σ H R => ta σ H fun vs H1 => ∃ j : Int, vs = [.int j] ∧ -(2 ^ 62) ≤ j ∧ j < 2 ^ 62 ∧ R (Itr 0 j.toNat) H1
def iRng2 (ta : TA) : TI := fun σ H R => ta σ H fun vs H1 => ∃ i j : Int, vs = [.int i, .int j] ∧ (-(2 ^ 62) ≤ i ∧ i < 2 ^ 62 ∧ -(2 ^ 62) ≤ j ∧ j < 2 ^ 62) ∧ R (Itr i (j - i).toNat) H1
theorem pi_range1 {a : Expr} {ta : TA} {p pos : Pos} (hg : Gl X "range") (hm : X.mg "range" = none) (ha : PA X [a] ta) (hs : starEach [a] X.env = [(false, eval a X.env)] := by rfl) : PI X tg (.Call (.Name "range" p) [a] [] pos) (iRng1 ta) := by
  intro pins s σ H R I h
  refine Call_ (ld_blt I hg hm boot_range (PyProof.Rows.callWith_type1 (thn (ha pos pins s σ H _ I h) fun us s1 ⟨vs, H1, I1, r1, q1⟩ => ?_) hs rfl))
  obtain ⟨j, e, q1, q2, q⟩ := q1
  subst e
  cases r1 with
  | cons r rr =>
    cases rr
    obtain ⟨t, rfl⟩ := r
    exact call_range_1 (range_it I1 (by omega) (by omega) q1 q2 (by simpa using q))
theorem pi_range2 {a b : Expr} {ta : TA} {p pos : Pos} (hg : Gl X "range") (hm : X.mg "range" = none) (ha : PA X [a, b] ta) (hs : starEach [a, b] X.env = [(false, eval a X.env), (false, eval b X.env)] := by rfl) (hs2 : starEach [b] X.env = [(false, eval b X.env)] := by rfl) :
    PI X tg (.Call (.Name "range" p) [a, b] [] pos) (iRng2 ta) := by
  intro pins s σ H R I h
  refine Call_ (ld_blt I hg hm boot_range (PyProof.Rows.callWith_type1 (thn (ha pos pins s σ H _ I h) fun us s1 ⟨vs, H1, I1, r1, q1⟩ => ?_) (by rw [hs, hs2]) (by rw [hs2]; rfl)))
  obtain ⟨i, j, e, ⟨q1, q2, q3, q4⟩, q⟩ := q1
  subst e
  cases r1 with
  | cons r rr =>
    cases rr with
    | cons r' rr =>
      cases rr
      obtain ⟨t, rfl⟩ := r
      obtain ⟨t', rfl⟩ := r'
      exact call_range_2 (range_it I1 q1 q2 q3 q4 q)

/-! ### for -/
/-- W: the invariant by the turn and a measure; N: what the body is to reach -/
def tFor (wi : TI) (g : TG) (tb : TS) : TS := fun D σ H => wi σ H fun J H1 => ∃ W : Nat → Nat → St → Hp → Prop, (∃ m, W 0 m σ H1) ∧ ∀ i m σ H, W i m σ H →
  (J.stop i H ∧ D.nx σ H) ∨ (J.go i H ∧ ∃ N : St → Hp → Prop, (∀ σ' H', N σ' H' → ∃ m', m' < m ∧ W (i + 1) m' σ' H') ∧ ∀ x H', J.yld i H x H' → g x σ H' fun σ2 H2 => tb { D with nx := N, ct := N, bk := D.nx } σ2 H2)
/-- the records at fp as they stand -/
def pinsAt (fp : List Addr) (h : Heap) : List (Addr × Obj) := fp.filterMap fun b => (h.get? b).map fun o => (b, o)
theorem mem_pinsAt {fp : List Addr} {h : Heap} {b : Addr} {o : Obj} (hb : b ∈ fp) (e : h.get? b = some o) : (b, o) ∈ pinsAt fp h := List.mem_filterMap.mpr ⟨b, hb, by rw [e]; rfl⟩
theorem of_pinsAt {fp : List Addr} {h : Heap} {p : Addr × Obj} (hp : p ∈ pinsAt fp h) : p.1 ∈ fp ∧ h.get? p.1 = some p.2 := by
  obtain ⟨b, hb, e⟩ := List.mem_filterMap.mp hp
  cases q : h.get? b with
  | none => rw [q] at e; cases e
  | some o =>
    rw [q] at e
    have e' : (b, o) = p := Option.some.inj e
    subst e'
    exact ⟨hb, q⟩
theorem Inv.pinned {pins : List (Addr × Obj)} {σ : St} {H : Hp} {s : Shared} {fp : List Addr} (I : Inv X pins σ H s) (hf : ∀ b ∈ fp, FpOk X pins H b) (ho : ∀ b ∈ fp, ∃ o, s.heap.get? b = some o ∧ ∀ v, o.data ≠ .cell v) : Inv X (pins ++ pinsAt fp s.heap) σ H s :=
  I.pins_of fun p hp => (List.mem_append.mp hp).elim (fun z => I.pin p (List.mem_append_right _ z)) fun z => by
    obtain ⟨hb, e⟩ := of_pinsAt z
    obtain ⟨f0, f1, f2, _⟩ := hf p.1 hb
    obtain ⟨o, e', d⟩ := ho p.1 hb
    rw [e] at e'; cases e'
    exact ⟨e, f0, f1, f2, d⟩
theorem Inv.unpinned {pins pl : List (Addr × Obj)} {σ : St} {H : Hp} {s : Shared} (I : Inv X (pins ++ pl) σ H s) : Inv X pins σ H s := I.pins_of fun p hp => I.pin p (List.mem_append_right _ (List.mem_append_left _ hp))
theorem ps_for {iter : Expr} {body : List Stmt} {wi : TI} {g : TG} {tb : TS} {pos : Pos} (hp : PassesOwn (model X.prog X.w) X.A X.env X.xe) (hc : X.calm = true) (hi : PI X tg iter wi) (hg : PG X tg g) (hb : PSs X body tb)
    (hs : ∀ x, foldedSetIterable iter X.env x = pure x := by intro _; rfl) : PS X (.For tg iter body [] pos) (tFor wi g tb) := by
  intro pins s σ H D I h
  refine wpAny_For (thn (hi pins s σ H _ I h) fun v s1 h1 => thn h1 fun itv s2 h2 => ?_) hs
  obtain ⟨it, fp, tn, J, H2, e, I2, T, st2, f2, W, ⟨m0, w0⟩, turn⟩ := h2
  subst e
  -- what stays true of the iterator's objects through the loop
  have stat : ∀ {H' : Hp}, (∀ b ∈ fp, H' b = none) → ∀ b ∈ fp, FpOk X pins H' b := fun hn b hb => ⟨hn b hb, (f2 b hb).2⟩
  refine codeAny_forLoop_any (fun n s' => ∃ i σ' H', Inv X pins σ' H' s' ∧ tn i s'.heap ∧ (∀ b ∈ fp, H' b = none) ∧ W i n σ' H') ?_ m0 ⟨0, σ, H2, I2, st2, fun b hb => (f2 b hb).1, w0⟩
  rintro n s3 ⟨i, σ3, H3, I3, st3, fr3, w3⟩
  rcases turn i n σ3 H3 w3 with ⟨stop, qn⟩ | ⟨go, N, hN, step⟩
  · refine wpAny_passesOwn hp (thn (T.done X rfl rfl rfl hc i pins s3 σ3 H3 X.xe I3 (stat fr3) st3 stop) fun r s4 ⟨hr, I4⟩ => ?_)
    subst hr
    exact wpAny_execs_nil ⟨σ3, H3, I4, qn⟩
  · refine wpAny_passesOwn hp (thn (T.item X rfl rfl rfl hc i pins s3 σ3 H3 X.xe I3 (stat fr3) st3 go) fun r s4 ⟨u, hr, h4⟩ => ?_)
    subst hr
    refine wpAny_passesOwn hp (thn h4 fun _ s5 ⟨x, H5, I5, r5, y5, st5, fr5⟩ => ?_)
    have I5' := I5.pinned (stat fr5) (T.obj _ _ st5)
    refine wpAny_passesOwn hp (thn (hg _ s5 σ3 H5 x u _ I5' r5 (step x H5 y5)) fun _ s6 ⟨σ6, H6, I6, q6⟩ => ?_)
    refine wpAny_passesOwn hp (thn (hb _ s6 σ6 H6 _ I6 q6) fun f s7 q7 => ?_)
    have again : ∀ {σ7 : St} {H7 : Hp}, Inv X (pins ++ pinsAt fp s5.heap) σ7 H7 s7 → N σ7 H7 → ∃ m, m < n ∧ ∃ i σ' H', Inv X pins σ' H' s7 ∧ tn i s7.heap ∧ (∀ b ∈ fp, H' b = none) ∧ W i m σ' H' := fun {σ7 H7} I7 n7 => by
      obtain ⟨m', hm, w7⟩ := hN σ7 H7 n7
      refine ⟨m', hm, i + 1, σ7, H7, I7.unpinned, T.keep _ _ _ st5 fun b hb o e => (I7.pin (b, o) (List.mem_append_right _ (List.mem_append_right _ (mem_pinsAt hb e)))).1, fun b hb => ?_, w7⟩
      obtain ⟨o, e, d⟩ := T.obj _ _ st5 b hb
      exact (I7.pin (b, o) (List.mem_append_right _ (List.mem_append_right _ (mem_pinsAt hb e)))).2.1
    cases f with
    | next => obtain ⟨σ7, H7, I7, n7⟩ := q7; exact again I7 n7
    | cont => obtain ⟨σ7, H7, I7, n7⟩ := q7; exact again I7 n7
    | brk => obtain ⟨σ7, H7, I7, q7⟩ := q7; exact ⟨σ7, H7, I7.unpinned, q7⟩
    | ret v => obtain ⟨x7, σ7, H7, I7, r7, q7⟩ := q7; exact ⟨x7, σ7, H7, I7.unpinned, r7, q7⟩
end

/-! ### the forms one uses -/
/-- over a list that the body leaves as it is -/
theorem for_list {K : PySem.W.Frag} {a : Addr} {xs : List V} {g : TG} {tb : TS} {D : Ends} {σ : St} {H : Hp} (Pv : Nat → St → Hp → Prop) (h0 : Pv 0 σ H) (hl : ∀ i σ H, i ≤ xs.length → Pv i σ H → SqL K H a xs)
    (hs : ∀ i x σ H, xs[i]? = some x → Pv i σ H → g x σ H fun σ2 H2 => tb { D with nx := Pv (i + 1), ct := Pv (i + 1), bk := D.nx } σ2 H2) (hd : ∀ σ H, Pv xs.length σ H → D.nx σ H) :
    ∃ W : Nat → Nat → St → Hp → Prop, (∃ m, W 0 m σ H) ∧ ∀ i m σ H, W i m σ H →
      ((Itl K a).stop i H ∧ D.nx σ H) ∨ ((Itl K a).go i H ∧ ∃ N : St → Hp → Prop, (∀ σ' H', N σ' H' → ∃ m', m' < m ∧ W (i + 1) m' σ' H') ∧ ∀ x H', (Itl K a).yld i H x H' → g x σ H' fun σ2 H2 => tb { D with nx := N, ct := N, bk := D.nx } σ2 H2) := by
  refine ⟨fun i m σ H => m = xs.length - i ∧ i ≤ xs.length ∧ Pv i σ H, ⟨xs.length, by simp, Nat.zero_le _, h0⟩, ?_⟩
  rintro i m σ H ⟨rfl, hi, p⟩
  have q := hl i σ H hi p
  by_cases hlt : i < xs.length
  · refine .inr ⟨⟨xs, xs[i], q, by simp [hlt]⟩, Pv (i + 1), fun σ' H' p' => ⟨xs.length - (i + 1), by omega, rfl, hlt, p'⟩, fun x H' y => ?_⟩
    obtain ⟨e, y⟩ := y
    subst e
    exact hs i x σ _ (y xs q) p
  · have e : i = xs.length := by omega
    subst e
    exact .inl ⟨⟨xs, q, Nat.le_refl _⟩, hd σ H p⟩
theorem for_range {lo : Int} {n : Nat} {g : TG} {tb : TS} {D : Ends} {σ : St} {H : Hp} (Pv : Nat → St → Hp → Prop) (h0 : Pv 0 σ H)
    (hs : ∀ i σ H, i < n → Pv i σ H → g (.int (lo + i)) σ H fun σ2 H2 => tb { D with nx := Pv (i + 1), ct := Pv (i + 1), bk := D.nx } σ2 H2) (hd : ∀ σ H, Pv n σ H → D.nx σ H) :
    ∃ W : Nat → Nat → St → Hp → Prop, (∃ m, W 0 m σ H) ∧ ∀ i m σ H, W i m σ H →
      ((Itr lo n).stop i H ∧ D.nx σ H) ∨ ((Itr lo n).go i H ∧ ∃ N : St → Hp → Prop, (∀ σ' H', N σ' H' → ∃ m', m' < m ∧ W (i + 1) m' σ' H') ∧ ∀ x H', (Itr lo n).yld i H x H' → g x σ H' fun σ2 H2 => tb { D with nx := N, ct := N, bk := D.nx } σ2 H2) := by
  refine ⟨fun i m σ H => m = n - i ∧ i ≤ n ∧ Pv i σ H, ⟨n, by simp, Nat.zero_le _, h0⟩, ?_⟩
  rintro i m σ H ⟨rfl, hi, p⟩
  by_cases hlt : i < n
  · refine .inr ⟨hlt, Pv (i + 1), fun σ' H' p' => ⟨n - (i + 1), by omega, rfl, hlt, p'⟩, fun x H' y => ?_⟩
    obtain ⟨e, y⟩ := y
    subst e y
    exact hs i σ _ hlt p
  · have e : i = n := by omega
    subst e
    exact .inl ⟨Nat.le_refl _, hd σ H p⟩
end L2

namespace L2
open PySem PySem.Spec PyProof.Rows

abbrev R2 := V → V → Hp → VK → Prop
/-- a two-place operation on values: f is binaryOp op, inplaceOp op or compareOp op -/
def OpR (X : Cx) (f : Value → Value → Sem Value) (r : R2) : Prop :=
  ∀ (pins : List (Addr × Obj)) (s : Shared) (σ : St) (H : Hp) (x y : V) (v u : Value) (Q : VK), Inv X pins σ H s → RelV x v → RelV y u → r x y H Q →
    wpAny (model X.prog X.w) X.A (f v u) (EP X pins σ Q) X.xe s
/-- a one-place operation -/
def UnR (X : Cx) (f : Value → Sem Value) (r : V → Hp → VK → Prop) : Prop :=
  ∀ (pins : List (Addr × Obj)) (s : Shared) (σ : St) (H : Hp) (x : V) (v : Value) (Q : VK), Inv X pins σ H s → RelV x v → r x H Q →
    wpAny (model X.prog X.w) X.A (f v) (EP X pins σ Q) X.xe s
/-- a call of a value that is known (a builtin, a type) with values -/
def CallR (X : Cx) (f : Value) (r : List V → Hp → VK → Prop) : Prop :=
  ∀ (pins : List (Addr × Obj)) (s : Shared) (σ : St) (H : Hp) (xs : List V) (us : List Value) (Q : VK), Inv X pins σ H s → Vals xs us → r xs H Q →
    wpAny (model X.prog X.w) X.A (call f us) (EP X pins σ Q) X.xe s
/-- a value's truth -/
def TruR (X : Cx) (r : V → Hp → (Bool → Hp → Prop) → Prop) : Prop :=
  ∀ (pins : List (Addr × Obj)) (s : Shared) (σ : St) (H : Hp) (x : V) (v : Value) (Q : Bool → Hp → Prop), Inv X pins σ H s → RelV x v → r x H Q →
    wpAny (model X.prog X.w) X.A (truthy v) (TP X pins σ Q) X.xe s

def tOp (r : R2) (ta tb : TE) : TE := fun σ H Q => ta σ H fun x H1 => tb σ H1 fun y H2 => r x y H2 Q
def tUn (r : V → Hp → VK → Prop) (ta : TE) : TE := fun σ H Q => ta σ H fun x H1 => r x H1 Q
/-- ints in, under C, and a value out -/
def rI (C : Int → Int → Prop) (g : Int → Int → V) : R2 := fun x y H Q => ∃ i j, x = .int i ∧ y = .int j ∧ C i j ∧ Q (g i j) H
def rI0 (g : Int → Int → V) : R2 := fun x y H Q => ∃ i j, x = .int i ∧ y = .int j ∧ Q (g i j) H
def rU (g : Int → V) : V → Hp → VK → Prop := fun x H Q => ∃ i, x = .int i ∧ Q (g i) H

section
variable {X : Cx} {a b c : Expr} {ta tb tc : TE} {pos : Pos}

theorem binT (ha : PE X a ta) (hb : PE X b tb) {pins : List (Addr × Obj)} {s : Shared} {σ : St} {H : Hp} {R : V → V → Hp → Prop} (I : Inv X pins σ H s)
    (h : ta σ H fun x H1 => tb σ H1 fun y H2 => R x y H2) {Q : Value → Shared → Prop} {f : Value → Value → Sem Value}
    (hf : ∀ v u s2 x y H2, Inv X pins σ H2 s2 → RelV x v → RelV y u → R x y H2 → wpAny (model X.prog X.w) X.A (f v u) Q X.xe s2) :
    wpAny (model X.prog X.w) X.A (eval a X.env) (fun v s₁ => wpAny (model X.prog X.w) X.A (eval b X.env) (fun u s₂ => wpAny (model X.prog X.w) X.A (f v u) Q X.xe s₂) X.xe s₁) X.xe s := by
  refine thn (ha pins s σ H _ I h) fun v s1 ⟨x, H1, I1, r1, q1⟩ => ?_
  refine thn (hb pins s1 σ H1 _ I1 q1) fun u s2 ⟨y, H2, I2, r2, q2⟩ => ?_
  exact hf v u s2 x y H2 I2 r1 r2 q2

theorem pe_op {op : Operator} {r : R2} (ho : OpR X (binaryOp op) r) (ha : PE X a ta) (hb : PE X b tb) : PE X (.BinOp a op b pos) (tOp r ta tb) := by
  intro pins s σ H Q I h
  exact wpAny_BinOp (binT ha hb I h fun v u s2 x y H2 I2 rx ry q => ho pins s2 σ H2 x y v u Q I2 rx ry q)
/-! ### ints -/
theorem opI {f : Value → Value → Sem Value} {C : Int → Int → Prop} {g : Int → Int → Int}
    (rule : ∀ (i j : Int) (t u : Tok) (s : Shared) (Q : Value → Shared → Prop) (E : Value → Shared → Prop), C i j → Q (.int (g i j) s.toks) { s with toks := s.toks + 1 } → wpAny (model X.prog X.w) X.A (f (.int i t) (.int j u)) Q E s) :
    OpR X f (rI C fun i j => .int (g i j)) := by
  intro pins s σ H x y v u Q I rx ry h
  obtain ⟨i, j, rfl, rfl, hc, q⟩ := h
  obtain ⟨t, rfl⟩ := rx
  obtain ⟨t', rfl⟩ := ry
  exact rule i j t t' s _ _ hc ⟨.int (g i j), H, I.tok _, ⟨_, rfl⟩, q⟩
theorem opI0 {f : Value → Value → Sem Value} {g : Int → Int → Int}
    (rule : ∀ (i j : Int) (t u : Tok) (s : Shared) (Q : Value → Shared → Prop) (E : Value → Shared → Prop), Q (.int (g i j) s.toks) { s with toks := s.toks + 1 } → wpAny (model X.prog X.w) X.A (f (.int i t) (.int j u)) Q E s) :
    OpR X f (rI0 fun i j => .int (g i j)) := by
  intro pins s σ H x y v u Q I rx ry h
  obtain ⟨i, j, rfl, rfl, q⟩ := h
  obtain ⟨t, rfl⟩ := rx
  obtain ⟨t', rfl⟩ := ry
  exact rule i j t t' s _ _ ⟨.int (g i j), H, I.tok _, ⟨_, rfl⟩, q⟩
theorem opB0 {f : Value → Value → Sem Value} {g : Int → Int → Bool}
    (rule : ∀ (i j : Int) (t u : Tok) (s : Shared) (Q : Value → Shared → Prop) (E : Value → Shared → Prop), Q (.bool (g i j)) s → wpAny (model X.prog X.w) X.A (f (.int i t) (.int j u)) Q E s) :
    OpR X f (rI0 fun i j => .bl (g i j)) := by
  intro pins s σ H x y v u Q I rx ry h
  obtain ⟨i, j, rfl, rfl, q⟩ := h
  obtain ⟨t, rfl⟩ := rx
  obtain ⟨t', rfl⟩ := ry
  exact rule i j t t' s _ _ ⟨.bl (g i j), H, I, rfl, q⟩

def CDiv (i j : Int) : Prop := 0 < j ∧ j < 1073741824
def CDivN (i j : Int) : Prop := j ≠ 0 ∧ j.natAbs < 1073741824
def CPow (i j : Int) : Prop := 0 ≤ j ∧ j ≤ 1000000 ∧ i.natAbs < 2 ^ 64
def CMul (i j : Int) : Prop := (-(2 ^ 64) < i ∧ i < 2 ^ 64) ∨ (-(2 ^ 64) < j ∧ j < 2 ^ 64)
theorem CMul.ok {i j : Int} (h : CMul i j) : IntMulOk i j := by
  rcases h with ⟨h1, h2⟩ | ⟨h1, h2⟩
  · exact .of_left (intBits_le_64 h1 h2)
  · exact .of_right (intBits_le_64 h1 h2)
theorem op_add : OpR X (binaryOp .Add) (rI0 fun i j => .int (i + j)) := opI0 fun _ _ _ _ _ _ _ q => add_int q
theorem op_sub : OpR X (binaryOp .Sub) (rI0 fun i j => .int (i - j)) := opI0 fun _ _ _ _ _ _ _ q => sub_int q
theorem op_mul : OpR X (binaryOp .Mult) (rI CMul fun i j => .int (i * j)) := opI fun _ _ _ _ _ _ _ hc q => mul_int q hc.ok
/-- // by a positive divisor -/
theorem op_fdiv : OpR X (binaryOp .FloorDiv) (rI CDiv fun i j => .int (i / j)) := opI fun i j _ _ _ _ _ hc q => by
  have h1 : (0 : Int) < j := hc.1
  have h2 : j < 1073741824 := hc.2
  exact floordiv_int (by omega) (by rw [Int.fdiv_eq_ediv_of_nonneg i (by omega)]; exact q) (.inl (PyProof.noPylong_small (by omega)))
/-- % by a positive divisor of any size -/
theorem op_mod : OpR X (binaryOp .Mod) (rI (fun _ j => 0 < j) fun i j => .int (i % j)) := opI fun i j _ _ _ _ _ hc q => by
  have h1 : (0 : Int) < j := hc
  exact mod_int' (by omega) (by rw [Int.fmod_eq_emod_of_nonneg i (by omega)]; exact q)
theorem op_pow : OpR X (binaryOp .Pow) (rI CPow fun i j => .int (i ^ j.toNat)) := opI fun _ _ _ _ _ _ _ hc q => pow_int_small hc.1 hc.2.1 hc.2.2 q
/-! ### bools among ints: n += (a < b) -/
end

/-! ### comparisons -/
/-- the scalars that == tells apart as data does -/
def scal : V → V → Bool
  | .non, .non => true | .non, .int _ => true | .int _, .non => true | .non, .bl _ => true | .bl _, .non => true | .non, .str _ => true | .str _, .non => true
  | .int _, .int _ => true | .bl _, .bl _ => true | .str _, .str _ => true | .byt _, .byt _ => true
  | .int _, .str _ => true | .str _, .int _ => true | .bl _, .str _ => true | .str _, .bl _ => true
  | _, _ => false
def rEq : R2 := fun x y H Q => scal x y = true ∧ Q (.bl (decide (x = y))) H
def rNe : R2 := fun x y H Q => scal x y = true ∧ Q (.bl (!decide (x = y))) H

theorem dec_int {i j : Int} : decide (V.int i = V.int j) = (i == j) := by
  rw [Bool.eq_iff_iff]
  simp
theorem dec_bl {i j : Bool} : decide (V.bl i = V.bl j) = (i == j) := by
  rw [Bool.eq_iff_iff]
  simp
theorem dec_str {i j : Str} : decide (V.str i = V.str j) = (i == j) := by
  rw [Bool.eq_iff_iff]
  simp
theorem dec_byt {i j : Array UInt8} : decide (V.byt i = V.byt j) = (i.toList == j.toList) := by
  rw [Bool.eq_iff_iff]
  cases i
  cases j
  simp

section
variable {X : Cx} {a b c : Expr} {ta tb tc : TE} {pos : Pos}
theorem fin_bl {pins : List (Addr × Obj)} {σ : St} {H : Hp} {s : Shared} {Q : VK} {k k' : Bool} (I : Inv X pins σ H s) (q : Q (.bl k) H) (e : k = k') : EP X pins σ Q (.bool k') s := by
  subst e
  exact ⟨.bl k, H, I, rfl, q⟩
theorem op_eq : OpR X (compareOp .Eq) rEq := by
  intro pins s σ H x y v u Q I rx ry h
  obtain ⟨hs, q⟩ := h
  cases x with
  | non =>
    cases rx
    cases y with
    | non => cases ry; exact PySem.EqNone.eq_none_none (fin_bl I q (by simp))
    | bl j => cases ry; exact PySem.EqNone.eq_none_bool (fin_bl I q (by simp))
    | int j => obtain ⟨t', rfl⟩ := ry; exact PySem.EqNone.eq_none_int (fin_bl I q (by simp))
    | str j => obtain ⟨t', rfl⟩ := ry; exact PySem.EqNone.eq_none_str (fin_bl I q (by simp))
    | _ => exact absurd (show false = true from hs) Bool.false_ne_true
  | bl i =>
    cases rx
    cases y with
    | non => cases ry; exact PySem.EqNone.eq_bool_none (fin_bl I q (by simp))
    | bl j => cases ry; exact eq_bool (fin_bl I q dec_bl)
    | str j => obtain ⟨t', rfl⟩ := ry; exact PySem.EqMixed.eq_bool_str (fin_bl I q (by simp))
    | _ => exact absurd (show false = true from hs) Bool.false_ne_true
  | int i =>
    obtain ⟨t, rfl⟩ := rx
    cases y with
    | non => cases ry; exact PySem.EqNone.eq_int_none (fin_bl I q (by simp))
    | int j => obtain ⟨t', rfl⟩ := ry; exact eq_int (fin_bl I q dec_int)
    | str j => obtain ⟨t', rfl⟩ := ry; exact PySem.EqMixed.eq_int_str (fin_bl I q (by simp))
    | _ => exact absurd (show false = true from hs) Bool.false_ne_true
  | str i =>
    obtain ⟨t, rfl⟩ := rx
    cases y with
    | non => cases ry; exact PySem.EqNone.eq_str_none (fin_bl I q (by simp))
    | bl j => cases ry; exact PySem.EqMixed.eq_str_bool (fin_bl I q (by simp))
    | int j => obtain ⟨t', rfl⟩ := ry; exact PySem.EqMixed.eq_str_int (fin_bl I q (by simp))
    | str j => obtain ⟨t', rfl⟩ := ry; exact eq_str (fin_bl I q dec_str)
    | _ => exact absurd (show false = true from hs) Bool.false_ne_true
  | byt i =>
    obtain ⟨t, rfl⟩ := rx
    cases y with
    | byt j => obtain ⟨t', rfl⟩ := ry; exact PySem.W.eq_bytes (fin_bl I q dec_byt)
    | _ => exact absurd (show false = true from hs) Bool.false_ne_true
  | _ => cases y <;> exact absurd (show false = true from hs) Bool.false_ne_true
theorem op_ne : OpR X (compareOp .NotEq) rNe := by
  intro pins s σ H x y v u Q I rx ry h
  obtain ⟨hs, q⟩ := h
  cases x with
  | non =>
    cases rx
    cases y with
    | non => cases ry; exact PySem.EqNone.ne_none_none (fin_bl I q (by simp))
    | bl j => cases ry; exact PySem.EqNone.ne_none_bool (fin_bl I q (by simp))
    | int j => obtain ⟨t', rfl⟩ := ry; exact PySem.EqNone.ne_none_int (fin_bl I q (by simp))
    | str j => obtain ⟨t', rfl⟩ := ry; exact PySem.EqNone.ne_none_str (fin_bl I q (by simp))
    | _ => exact absurd (show false = true from hs) Bool.false_ne_true
  | bl i =>
    cases rx
    cases y with
    | non => cases ry; exact PySem.EqNone.ne_bool_none (fin_bl I q (by simp))
    | bl j => cases ry; exact ne_bool (fin_bl I q (congrArg not dec_bl))
    | str j => obtain ⟨t', rfl⟩ := ry; exact PySem.EqMixed.ne_bool_str (fin_bl I q (by simp))
    | _ => exact absurd (show false = true from hs) Bool.false_ne_true
  | int i =>
    obtain ⟨t, rfl⟩ := rx
    cases y with
    | non => cases ry; exact PySem.EqNone.ne_int_none (fin_bl I q (by simp))
    | int j => obtain ⟨t', rfl⟩ := ry; exact ne_int (fin_bl I q (congrArg not dec_int))
    | str j => obtain ⟨t', rfl⟩ := ry; exact PySem.EqMixed.ne_int_str (fin_bl I q (by simp))
    | _ => exact absurd (show false = true from hs) Bool.false_ne_true
  | str i =>
    obtain ⟨t, rfl⟩ := rx
    cases y with
    | non => cases ry; exact PySem.EqNone.ne_str_none (fin_bl I q (by simp))
    | bl j => cases ry; exact PySem.EqMixed.ne_str_bool (fin_bl I q (by simp))
    | int j => obtain ⟨t', rfl⟩ := ry; exact PySem.EqMixed.ne_str_int (fin_bl I q (by simp))
    | str j => obtain ⟨t', rfl⟩ := ry; exact ne_str (fin_bl I q (congrArg not dec_str))
    | _ => exact absurd (show false = true from hs) Bool.false_ne_true
  | byt i =>
    obtain ⟨t, rfl⟩ := rx
    cases y with
    | byt j => obtain ⟨t', rfl⟩ := ry; exact PySem.W.ne_bytes (fin_bl I q (congrArg not dec_byt))
    | _ => exact absurd (show false = true from hs) Bool.false_ne_true
  | _ => cases y <;> exact absurd (show false = true from hs) Bool.false_ne_true

theorem op_lt : OpR X (compareOp .Lt) (rI0 fun i j => .bl (decide (i < j))) := opB0 fun _ _ _ _ _ _ _ q => lt_int q
theorem op_le : OpR X (compareOp .LtE) (rI0 fun i j => .bl (decide (i ≤ j))) := opB0 fun _ _ _ _ _ _ _ q => le_int q
theorem op_gt : OpR X (compareOp .Gt) (rI0 fun i j => .bl (decide (j < i))) := opB0 fun _ _ _ _ _ _ _ q => gt_int q
theorem op_notin_str : OpR X (compareOp .NotIn) (fun x y H Q => ∃ i j, x = .str i ∧ y = .str j ∧ Q (.bl (!(!(Builtin.Str.occurrences j i 0 j.length 1).isEmpty))) H) := by
  intro pins s σ H x y v u Q I rx ry h
  obtain ⟨i, j, rfl, rfl, q⟩ := h
  obtain ⟨t, rfl⟩ := rx
  obtain ⟨t', rfl⟩ := ry
  exact notIn_str (fin_bl I q rfl)
/-- is, is not of two objects that are tracked lists or instances -/
def isObj : HO → Bool
  | .lst _ => true
  | .ins _ _ _ => true
  | _ => false
theorem nomark (b : Expr) {op : CmpOp} (h : op ≠ .In := by decide) (h2 : op ≠ .NotIn := by decide) : behindInMarks op b = false := by
  have e1 : (op == CmpOp.In) = false := by cases op <;> first | rfl | exact absurd rfl h
  have e2 : (op == CmpOp.NotIn) = false := by cases op <;> first | rfl | exact absurd rfl h2
  cases b <;> simp [behindInMarks, e1, e2]
/-- a comparison as a value; hm: nomark b, or (for in, not in) by with_unfolding_all rfl -/
theorem pe_cmpR {op : CmpOp} {r : R2} (ho : OpR X (compareOp op) r) (ha : PE X a ta) (hb : PE X b tb) (hm : behindInMarks op b = false) : PE X (.Compare a [op] [b] pos) (tOp r ta tb) := by
  intro pins s σ H Q I h
  exact wpAny_Compare1 (binT ha hb I h fun v u s2 x y H2 I2 rx ry q => ho pins s2 σ H2 x y v u Q I2 rx ry q) hm
/-- a reading of a value as a test -/
def tTest (t : TE) : TT := fun σ H Q => t σ H fun x H' => ∃ k, x = .bl k ∧ Q k H'
theorem pt_cmpR {op : CmpOp} {r : R2} (ho : OpR X (compareOp op) r) (ha : PE X a ta) (hb : PE X b tb) (hm : behindInMarks op b = false) : PT X (.Compare a [op] [b] pos) (tTest (tOp r ta tb)) := by
  intro pins s σ H Q I h
  refine wpAny_isTrue_Compare1 (thn (ha pins s σ H _ I h) fun v s1 ⟨x, H1, I1, r1, q1⟩ => thn (hb pins s1 σ H1 _ I1 q1) fun u s2 ⟨y, H2, I2, r2, q2⟩ =>
    thn (ho pins s2 σ H2 x y v u _ I2 r1 r2 q2) fun c s3 ⟨z, H3, I3, r3, k, e, q3⟩ => ?_) hm
  subst e
  cases r3
  exact wpAny_truthy_bool ⟨H3, I3, q3⟩
/-- a op1 b op2 c -/
def tChain (r r' : R2) (ta tb tc : TE) : TE := fun σ H Q => ta σ H fun x H1 => tb σ H1 fun y H2 => r x y H2 fun z H3 => ∃ k, z = .bl k ∧
  (if k = true then tc σ H3 fun w' H4 => r' y w' H4 Q else Q (.bl false) H3)
theorem pe_chain {op op' : CmpOp} {r r' : R2} (ho : OpR X (compareOp op) r) (ho' : OpR X (compareOp op') r') (ha : PE X a ta) (hb : PE X b tb) (hc : PE X c tc)
    (hm : lastMarks [op, op'] [b, c] = false := by with_unfolding_all rfl) : PE X (.Compare a [op, op'] [b, c] pos) (tChain r r' ta tb tc) := by
  intro pins s σ H Q I h
  refine Compare_chain (thn (ha pins s σ H _ I h) fun v s1 ⟨x, H1, I1, r1, q1⟩ => chain_link (thn (hb pins s1 σ H1 _ I1 q1) fun u s2 ⟨y, H2, I2, r2, q2⟩ =>
    thn (ho pins s2 σ H2 x y v u _ I2 r1 r2 q2) fun d s3 ⟨z, H3, I3, r3, k, e, q3⟩ => ?_)) hm
  subst e
  cases r3
  refine wpAny_truthy_bool ?_
  cases k with
  | false => exact ite_ff ⟨.bl false, H3, I3, rfl, q3⟩
  | true => exact ite_tt (chain_last (thn (hc pins s3 σ H3 _ I3 q3) fun w' s4 ⟨z', H4, I4, r4, q4⟩ => ho' pins s4 σ H4 y z' u w' Q I4 r2 r4 q4))
theorem pt_chain {op op' : CmpOp} {r r' : R2} (ho : OpR X (compareOp op) r) (ho' : OpR X (compareOp op') r') (ha : PE X a ta) (hb : PE X b tb) (hc : PE X c tc)
    (hm : lastMarks [op, op'] [b, c] = false := by with_unfolding_all rfl) : PT X (.Compare a [op, op'] [b, c] pos) (tTest (tChain r r' ta tb tc)) := by
  intro pins s σ H Q I h
  refine isTrue_chain (thn (ha pins s σ H _ I h) fun v s1 ⟨x, H1, I1, r1, q1⟩ => test_link (thn (hb pins s1 σ H1 _ I1 q1) fun u s2 ⟨y, H2, I2, r2, q2⟩ =>
    thn (ho pins s2 σ H2 x y v u _ I2 r1 r2 q2) fun d s3 ⟨z, H3, I3, r3, k, e, q3⟩ => ?_)) hm
  subst e
  cases r3
  refine wpAny_truthy_bool ?_
  cases k with
  | false =>
    obtain ⟨k', e', q'⟩ := q3
    cases e'
    exact ite_ff ⟨H3, I3, q'⟩
  | true =>
    refine ite_tt (test_last (thn (hc pins s3 σ H3 _ I3 q3) fun w' s4 ⟨z', H4, I4, r4, q4⟩ => thn (ho' pins s4 σ H4 y z' u w' _ I4 r2 r4 q4) fun d' s5 ⟨z2, H5, I5, r5, k2, e2, q5⟩ => ?_))
    subst e2
    cases r5
    exact wpAny_truthy_bool ⟨H5, I5, q5⟩

/-! ### truth -/
/-- a value's truth by the abstract heap -/
def TruV (K : PySem.W.Frag) (x : V) (H : Hp) (k : Bool) : Prop :=
  match x with
  | .non => k = false
  | .bl b => k = b
  | .int i => k = (i != 0)
  | .str y => y.length ≤ sizeLine ∧ k = ((y.length : Int) != 0)
  | .byt y => y.size ≤ sizeLine ∧ k = ((y.size : Int) != 0)
  | .ref p => (∃ xs, SqL K H p xs ∧ k = !xs.isEmpty) ∨ (∃ xs, SqT K H p xs ∧ k = !xs.isEmpty) ∨ ∃ kvs, H p = some (.dK kvs) ∧ k = !kvs.isEmpty
  | _ => False
theorem isEmpty_kv {κ : Type} {kvs : List (κ × V)} {vs : List (κ × Value)} (r : KV kvs vs) : (!vs.isEmpty) = !kvs.isEmpty := by
  cases r <;> rfl
theorem isEmpty_of {xs : List V} {its : List Value} (r : Vals xs its) : (!its.toArray.isEmpty) = !xs.isEmpty := by
  cases r <;> simp
theorem line63 : (sizeLine : Nat) < 2 ^ 63 := by rw [sizeLine_eq]; decide
theorem tru_ok : TruR X (fun x H Q => ∃ k, TruV X.K x H k ∧ Q k H) := by
  intro pins s σ H x v Q I rx h
  obtain ⟨k, e, q⟩ := h
  have hl := line63
  have hs : sizeLine = 16777216 := sizeLine_eq
  cases x with
  | non =>
    cases rx
    have e' : k = false := e
    subst e'
    exact truthy_none ⟨H, I, q⟩
  | bl b =>
    cases rx
    have e' : k = b := e
    subst e'
    exact wpAny_truthy_bool ⟨H, I, q⟩
  | int i =>
    obtain ⟨t, rfl⟩ := rx
    have e' : k = (i != 0) := e
    subst e'
    exact PySem.P.truthy_int ⟨H, I, q⟩
  | str y =>
    obtain ⟨t, rfl⟩ := rx
    obtain ⟨hy, e'⟩ : y.length ≤ sizeLine ∧ k = ((y.length : Int) != 0) := e
    subst e'
    exact PySem.P.truthy_str (by omega) ⟨H, I.tok _, q⟩
  | byt y =>
    obtain ⟨t, rfl⟩ := rx
    obtain ⟨hy, e'⟩ : y.size ≤ sizeLine ∧ k = ((y.size : Int) != 0) := e
    subst e'
    exact PySem.W.truthy_bytes (by omega) ⟨H, I.tok _, q⟩
  | ref p =>
    cases rx
    have e' : (∃ xs, SqL X.K H p xs ∧ k = !xs.isEmpty) ∨ (∃ xs, SqT X.K H p xs ∧ k = !xs.isEmpty) ∨ ∃ kvs, H p = some (.dK kvs) ∧ k = !kvs.isEmpty := e
    rcases e' with ⟨xs, hx, e'⟩ | ⟨xs, hx, e'⟩ | ⟨kvs, hx, e'⟩
    · subst e'
      obtain ⟨its, r, pl, hz⟩ := I.list hx
      have hlen := r.length
      exact wpAny_truthy_list pl.isList (by simp only [List.size_toArray]; omega) ⟨H, I.tok _, by rw [isEmpty_of r]; exact q⟩
    · subst e'
      obtain ⟨its, r, pl, hz⟩ := I.tuple hx
      have hlen := r.length
      exact truthy_tuple pl (by simp only [List.size_toArray]; omega) ⟨H, I.tok _, by rw [isEmpty_of r]; exact q⟩
    · subst e'
      obtain ⟨hz, hS, vs, r, m⟩ : kvs.length ≤ sizeLine ∧ (p == sysModules) = false ∧ ∃ vs, KV kvs vs ∧ s.heap.DictOf (mixKind X.prog X.w) p vs := I.hok p _ hx
      have hlen : kvs.length = vs.length := Paired.length r
      exact wpAny_truthy_dict hS m (by omega) ⟨H, I.tok _, by rw [isEmpty_kv r]; exact q⟩
  | _ => exact (show False from e).elim
/-- any expression whose test is its value's truth (a name, a call, a subscript, a field ..: he by fun _ => rfl) -/
theorem pt_truth (ha : PE X a ta) (he : ∀ whole, isTrue a X.env whole = (do let v ← whole; standAt a.pos; holding [v] (truthy v))) :
    PT X a (fun σ H Q => ta σ H fun x H' => ∃ k, TruV X.K x H' k ∧ Q k H') := by
  intro pins s σ H Q I h
  exact isTrue_plain (thn (ha pins s σ H _ I h) fun v s1 ⟨x, H1, I1, r1, q1⟩ => tru_ok pins s1 σ H1 x v Q I1 r1 q1) (he _)

/-! ### strs and bytes -/
theorem op_add_str : OpR X (binaryOp .Add) (fun x y H Q => ∃ i j, x = .str i ∧ y = .str j ∧ i.length + j.length ≤ sizeLine ∧ Q (.str (i ++ j)) H) := by
  intro pins s σ H x y v u Q I rx ry h
  obtain ⟨i, j, rfl, rfl, hz, q⟩ := h
  obtain ⟨t, rfl⟩ := rx
  obtain ⟨t', rfl⟩ := ry
  exact add_str (fun t' tk => ⟨.str (i ++ j), H, I.tok _, ⟨_, rfl⟩, q⟩) hz
theorem op_add_byt : OpR X (binaryOp .Add) (fun x y H Q => ∃ i j, x = .byt i ∧ y = .byt j ∧ i.size + j.size ≤ 16777216 ∧ Q (.byt (i ++ j)) H) := by
  intro pins s σ H x y v u Q I rx ry h
  obtain ⟨i, j, rfl, rfl, hz, q⟩ := h
  obtain ⟨t, rfl⟩ := rx
  obtain ⟨t', rfl⟩ := ry
  exact PySem.W.KBy.add_bytes hz (fun t' tk => ⟨.byt (i ++ j), H, I.tok _, ⟨_, rfl⟩, q⟩)

def PlainIxT (b : Expr) : Prop := ∀ o i, subscripted b false o i = operate [o, i] (getItem o i)
/-! ### scalar builtins, by CallR -/
theorem vals1 {x : V} {us : List Value} (r : Vals [x] us) : ∃ u, us = [u] ∧ RelV x u := by
  cases r with
  | cons r1 r2 => cases r2; exact ⟨_, rfl, r1⟩
theorem vals2 {x y : V} {us : List Value} (r : Vals [x, y] us) : ∃ u w', us = [u, w'] ∧ RelV x u ∧ RelV y w' := by
  cases r with
  | cons r1 r2 =>
    cases r2 with
    | cons r3 r4 => cases r4; exact ⟨_, _, rfl, r1, r3⟩
theorem call_max2 (hc : X.calm = true) : CallR X (.builtin "max") (fun xs H Q => ∃ i j, xs = [.int i, .int j] ∧ Q (.int (if j > i then j else i)) H) := by
  intro pins s σ H xs us Q I r h
  obtain ⟨i, j, rfl, q⟩ := h
  obtain ⟨u, w', rfl, ⟨t, rfl⟩, ⟨t', rfl⟩⟩ := vals2 r
  refine max_two_ints (I.ok.hd hc) fun h' tk k => ⟨_, H, I.kept k, ?_, q⟩
  by_cases hj : j > i
  · rw [if_pos hj, if_pos hj]; exact ⟨_, rfl⟩
  · rw [if_neg hj, if_neg hj]; exact ⟨_, rfl⟩
theorem call_min2 (hc : X.calm = true) : CallR X (.builtin "min") (fun xs H Q => ∃ i j, xs = [.int i, .int j] ∧ Q (.int (if j < i then j else i)) H) := by
  intro pins s σ H xs us Q I r h
  obtain ⟨i, j, rfl, q⟩ := h
  obtain ⟨u, w', rfl, ⟨t, rfl⟩, ⟨t', rfl⟩⟩ := vals2 r
  refine min_two_ints (I.ok.hd hc) fun h' tk k => ⟨_, H, I.kept k, ?_, q⟩
  by_cases hj : j < i
  · rw [if_pos hj, if_pos hj]; exact ⟨_, rfl⟩
  · rw [if_neg hj, if_neg hj]; exact ⟨_, rfl⟩
theorem call_str_int : CallR X (.type "str") (fun xs H Q => ∃ i, xs = [.int i] ∧ i.natAbs.log2 < 1920 ∧ Q (.str (toString i)) H) := by
  intro pins s σ H xs us Q I r h
  obtain ⟨i, rfl, hz, q⟩ := h
  obtain ⟨u, rfl, t, rfl⟩ := vals1 r
  exact PySem.P.str_of_int hz ⟨.str _, H, I.tok _, ⟨_, rfl⟩, q⟩
/-- len of a str, a bytes, a list, a tuple -/
def LenV (K : PySem.W.Frag) (x : V) (H : Hp) (n : Nat) : Prop :=
  match x with
  | .str y => y.length ≤ sizeLine ∧ n = y.length
  | .byt y => y.size ≤ sizeLine ∧ n = y.size
  | .ref p => (∃ xs, SqL K H p xs ∧ n = xs.length) ∨ ∃ xs, SqT K H p xs ∧ n = xs.length
  | _ => False
end
end L2

namespace L2
open PySem PySem.Spec PyProof.Rows

/-! ### an instance, its attributes a map -/
structure ObjM (h : Heap) (x dx C : Addr) (mA : Str → Option Value) : Prop where
  obj : h.get? x = some (PySem.W.instObj C dx)
  ns : h.Ns1 dx mA
  ne : dx ≠ x

theorem lookIn_ns {h : Heap} {dx : Addr} {mA : Str → Option Value} (n : h.Ns1 dx mA) : ∃ od, h.get? dx = some od ∧ ∀ name, PySem.W.lookIn name od = some (mA name) := by
  obtain ⟨o, es, ep, ho, hd, hk, _, hm⟩ := n
  refine ⟨o, ho, fun name => ?_⟩
  have e := hm name
  unfold nsFind findBy at e
  rw [← Array.find?_toList] at e
  unfold PySem.W.lookIn
  rw [hd]
  dsimp only
  split
  · rename_i y q
    rw [q] at e
    exact congrArg some e
  · rename_i q
    rw [q] at e
    have a : es.toList.any (·.refKey) = false := by
      rw [List.any_eq_false]
      intro y hy
      obtain ⟨z, t, hkey⟩ := hk y (Array.mem_toList_iff.mp hy)
      simp [DictEntry.refKey, hkey]
    have a' : ¬ es.toList.any (·.refKey) = true := by rw [a]; exact Bool.false_ne_true
    rw [if_neg a']
    exact congrArg some e

theorem ObjM.look {h : Heap} {x dx C : Addr} {mA : Str → Option Value} (I : ObjM h x dx C mA) : ∃ od, PySem.W.InstAt h x (PySem.W.instObj C dx) C (some od) ∧ ∀ name, PySem.W.lookIn name od = some (mA name) :=
  let ⟨od, ho, hl⟩ := lookIn_ns I.ns
  ⟨od, ⟨I.obj, rfl, rfl, ho⟩, hl⟩

section
variable {prog : Program} {w : World} {A : Around} {E : Value → Shared → Prop} {s : Shared} {K : PySem.W.Frag} {x dx C f : Addr} {mA : Str → Option Value} {name : Str} {v : Value}

theorem get_map {expr : Bool} {Q : Value → Shared → Prop} (X : K.In s.heap) (I : ObjM s.heap x dx C mA) (hg : PySem.W.plainGet K C name = true) (hh : PySem.W.hasDictIn K C = true)
    (ha : PySem.W.findIn K (.ref C) name = some none) (hv : mA name = some v) (hv' : PySem.W.handedIn v = true) (h : Q v { s with toks := s.toks + 1 }) :
    wpAny (model prog w) A (getAttr (.ref x) name expr) Q E s := by
  obtain ⟨od, J, hl⟩ := I.look
  exact PySem.W.get_value X J (PySem.W.plainGet_of hg).1 (PySem.W.findObj_own hh ha rfl (by rw [hl, hv])) hv' h

theorem get_meth {pl : Sem Bool} {Q : Value × List Value → Shared → Prop} (X : K.In s.heap) (I : ObjM s.heap x dx C mA) (hg : PySem.W.plainGet K C name = true)
    (hf : PySem.W.findIn K (.ref C) name = some (some (.ref f))) (ht : PySem.W.isFn K (.ref f) = true) (hv : mA name = none) (h : Q (.ref f, [.ref x]) s) :
    wpAny (model prog w) A (getMethod (.ref x) name pl) Q E s := by
  obtain ⟨od, J, hl⟩ := I.look
  exact PySem.W.method_fn X J (PySem.W.plainGet_of hg).1 (PySem.W.plainGet_of hg).2 hf (beq_iff_eq.mp ht) (by show (PySem.W.lookIn name od).map (·.isSome) = some false; rw [hl, hv]; rfl) h

theorem set_map {ns : List Str} {Q : Unit → Shared → Prop} (X : K.In s.heap) (I : ObjM s.heap x dx C mA)
    (hs : PySem.W.findIn K (.ref C) "__setattr__" = some (some (.builtin "object.__setattr__"))) (hp : PySem.W.plainOver K C = true) (ht : PySem.W.takerIn K C name = some none) (hh : PySem.W.hasDictIn K C = true)
    (hw : PySem.Within mA ns) (hsz : ns.length ≤ sizeLine)
    (h : ∀ h', ObjM h' x dx C (fun y => if y = name then some v else mA y) → Heap.SameBut dx s.heap h' → Q () { s with heap := h', toks := s.toks + 2 }) :
    wpAny (model prog w) A (setAttr (.ref x) name v) Q E s := by
  obtain ⟨od, J, hl⟩ := I.look
  refine PySem.W.set_plain X J hs (PySem.W.osa_open (s := { s with toks := s.toks + 1 }) (r := none) X J hp ht fun b => ?_)
  obtain ⟨cd, hc, hd'⟩ := PySem.W.any_some hh
  have hx : s.heap.get? x = some ⟨.ref C, some dx, .plain, #[]⟩ := I.obj
  refine wpAny_bind (wpAny_pure (wpAny_bind (wpAny_bind (wpAny_loadPart hx (wpAny_bind (PySem.W.Looks.here (s := { s with toks := s.toks + 1 }) (PySem.W.looks_clsIn X hc) ?_))))))
  rw [hd']
  refine wpAny_pure (a := some dx) (wpAny_bind (wpAny_pure (wpAny_bind ?_)))
  refine wpAny_nsSet1 (s := { s with toks := s.toks + 1 }) I.ns fun h' hn2 hs2 => ?_
  obtain ⟨oD, esD, epD, hoD, hdD, hcD⟩ := hn2.count (PySem.Within.cons name v hw)
  refine wpAny_bind (wpAny_lookBehind hoD (by rw [hdD]; exact pastItsLine_dict (Nat.le_trans hcD (by rw [List.length_cons]; omega))) ?_)
  exact wpAny_pure (h _ ⟨(hs2.2 _ (Ne.symm I.ne)).trans I.obj, hn2, I.ne⟩ hs2)

/-- C(..): the dict at the heap's end, the instance behind it; then its __init__ -/
theorem make_map {R : Result → Shared → Prop} {vs : List Value} {kw : List (Str × Value)} (X : K.In s.heap) (hm : PySem.W.makesIn K C = true)
    (hi : PySem.W.findIn K (.ref C) "__init__" = some (some (.ref f))) (hf : PySem.W.typeIn K (.ref f) = some (.type "function"))
    (h : codeAny (model prog w) (A.under (.builtin "type.__call__" ⟨.ref C :: vs, kw⟩)) (.call (.ref f) ⟨.ref (s.heap.objs.size + 1) :: vs, kw⟩) (PySem.W.InitBack (s.heap.objs.size + 1) R)
      { s with heap := (s.heap.push PySem.W.emptyDict).push (PySem.W.instObj C s.heap.objs.size) }) :
    codeAny (model prog w) A (.call (.ref C) ⟨vs, kw⟩) R s := by
  obtain ⟨hh, g, d, t, os⟩ := s
  exact PySem.W.make_core (PySem.W.makes_of X hm) (PySem.W.looks_findIn X hi) (fun self => PySem.W.bind_fn X self hf) (.inl rfl) h
end

/-! ### the attributes as a list of pairs -/
def putF (f : Str) (v : V) : List (Str × V) → List (Str × V)
  | [] => [(f, v)]
  | (g, x) :: r => if g = f then (g, v) :: r else (g, x) :: putF f v r
theorem lookup_putF (f g : Str) (v : V) : ∀ fs : List (Str × V), (putF f v fs).lookup g = if g = f then some v else fs.lookup g
  | [] => by
    show List.lookup g [(f, v)] = _
    by_cases h : g = f
    · have hb : (g == f) = true := beq_iff_eq.mpr h
      simp only [List.lookup, hb, if_pos h]
    · have hb : (g == f) = false := beq_eq_false_iff_ne.mpr h
      simp only [List.lookup, hb, if_neg h]
  | (k, x) :: r => by
    have ih := lookup_putF f g v r
    rw [show putF f v ((k, x) :: r) = (if k = f then (k, v) :: r else (k, x) :: putF f v r) from rfl]
    by_cases hk : k = f
    · rw [if_pos hk]
      by_cases h : g = k
      · have hb : (g == k) = true := beq_iff_eq.mpr h
        simp only [List.lookup, hb, if_pos (h.trans hk)]
      · have hb : (g == k) = false := beq_eq_false_iff_ne.mpr h
        simp only [List.lookup, hb, if_neg (fun e : g = f => h (e.trans hk.symm))]
    · rw [if_neg hk]
      by_cases h : g = k
      · have hb : (g == k) = true := beq_iff_eq.mpr h
        simp only [List.lookup, hb, if_neg (fun e : g = f => hk (h.symm.trans e))]
      · have hb : (g == k) = false := beq_eq_false_iff_ne.mpr h
        simp only [List.lookup, hb]
        exact ih
theorem keys_putF (f : Str) (v : V) : ∀ fs : List (Str × V), f ∈ (putF f v fs).map (·.1) ∧ ∀ g, g ∈ fs.map (·.1) → g ∈ (putF f v fs).map (·.1)
  | [] => ⟨by simp [putF], fun g h => by simp at h⟩
  | (k, x) :: r => by
    obtain ⟨i1, i2⟩ := keys_putF f v r
    rw [show putF f v ((k, x) :: r) = (if k = f then (k, v) :: r else (k, x) :: putF f v r) from rfl]
    by_cases hk : k = f
    · rw [if_pos hk]
      subst hk
      exact ⟨by simp, fun g h => by simpa using h⟩
    · rw [if_neg hk]
      refine ⟨?_, fun g h => ?_⟩
      · rw [List.map_cons]
        exact List.mem_cons_of_mem _ i1
      · rw [List.map_cons] at h ⊢
        rcases List.mem_cons.mp h with e | e
        · exact List.mem_cons.mpr (.inl e)
        · exact List.mem_cons_of_mem _ (i2 g e)
theorem length_putF (f : Str) (v : V) : ∀ fs : List (Str × V), (putF f v fs).length ≤ fs.length + 1
  | [] => by simp [putF]
  | (k, x) :: r => by
    have ih := length_putF f v r
    rw [show putF f v ((k, x) :: r) = (if k = f then (k, v) :: r else (k, x) :: putF f v r) from rfl]
    by_cases hk : k = f
    · rw [if_pos hk, List.length_cons, List.length_cons]; omega
    · rw [if_neg hk, List.length_cons, List.length_cons]; omega

theorem RelO.some_of {v : V} {o : Option Value} (r : RelO (some v) o) : ∃ u, o = some u ∧ RelV v u := by
  cases o with
  | none => exact (show False from r).elim
  | some u => exact ⟨u, rfl, r⟩
theorem RelO.none_of {o : Option Value} (r : RelO none o) : o = none := by
  cases o with
  | none => rfl
  | some u => exact (show False from r).elim
theorem handed_of {v : V} {u : Value} (r : RelV v u) : PySem.W.handedIn u = true := by
  cases v with
  | non => cases (show u = Value.none from r); rfl
  | bl b => cases (show u = Value.bool b from r); rfl
  | int i => obtain ⟨t, e⟩ := (show ∃ t, u = Value.int i t from r); cases e; rfl
  | str x => obtain ⟨t, e⟩ := (show ∃ t, u = Value.str x t from r); cases e; rfl
  | byt b => obtain ⟨t, e⟩ := (show ∃ t, u = Value.bytes b t from r); cases e; rfl
  | flt b => obtain ⟨t, e⟩ := (show ∃ t, u = Value.float b t from r); cases e; rfl
  | ref a => cases (show u = Value.ref a from r); rfl
  | ty n => cases (show u = Value.type n from r); rfl

section
variable {P : Program} {w : World} {H H' : Hp} {h h' : Heap} {a C dx : Addr} {fs fs' : List (Str × V)}
theorem ins_get (hok : HOk P w H h) (e : H a = some (.ins C dx fs)) : ∃ mA, ObjM h a dx C mA ∧ (∀ f, RelO (fs.lookup f) (mA f)) ∧ PySem.Within mA (fs.map (·.1)) ∧ fs.length ≤ 1000 ∧ H dx = some (.own a) := by
  obtain ⟨d, z, ne, ob, mA, n, r, q⟩ := (show ObjOk P w H h a (.ins C dx fs) from hok a _ e)
  exact ⟨mA, ⟨ob, n, ne⟩, r, q, z, d⟩
end

/-! ### what of the text a class must have -/
structure Cls (K : PySem.W.Frag) (C : Addr) : Prop where
  pg : PySem.W.plainGet K C Str.empty = true
  hd : PySem.W.hasDictIn K C = true
  po : PySem.W.plainOver K C = true
  sa : PySem.W.findIn K (.ref C) "__setattr__" = some (some (.builtin "object.__setattr__"))
theorem Cls.get {K : PySem.W.Frag} {C : Addr} (c : Cls K C) (f : Str) : PySem.W.plainGet K C f = true := c.pg
/-- no class of it has the name -/
def NoAttr (K : PySem.W.Frag) (C : Addr) (f : Str) : Prop := PySem.W.findIn K (.ref C) f = some none
theorem NoAttr.taker {K : PySem.W.Frag} {C : Addr} {f : Str} (n : NoAttr K C f) : PySem.W.takerIn K C f = some none := by
  unfold PySem.W.takerIn
  rw [show PySem.W.findIn K (.ref C) f = some none from n]
  rfl
/-- a constant of the class -/
structure Con (K : PySem.W.Frag) (C : Addr) (f : Str) (v : V) (u : Value) : Prop where
  at_ : PySem.W.findIn K (.ref C) f = some (some u)
  rel : RelV v u
  get : PySem.W.specialIn K u "__get__" = some none
  cp : PySem.W.copiedNames.contains f = false
/-- a method: a plain def of the class or of one above it -/
structure Meth (K : PySem.W.Frag) (C : Addr) (m : Str) (f : Addr) : Prop where
  at_ : PySem.W.findIn K (.ref C) m = some (some (.ref f))
  fn : PySem.W.isFn K (.ref f) = true
  kp : PySem.W.keepIn K (.ref f) = true

section
variable {X : Cx} {pins : List (Addr × Obj)} {σ : St} {H : Hp} {s : Shared} {a C dx : Addr} {fs : List (Str × V)} {f : Str} {v : V} {A : Around} {E : Value → Shared → Prop}

theorem getattr_ok {b : Bool} {Q : Value → Shared → Prop} (I : Inv X pins σ H s) (e : H a = some (.ins C dx fs)) (c : Cls X.K C) (n : NoAttr X.K C f) (l : fs.lookup f = some v)
    (h : ∀ u s', Inv X pins σ H s' → RelV v u → Q u s') : wpAny (model X.prog X.w) A (getAttr (.ref a) f b) Q E s := by
  obtain ⟨mA, O, r, _, _, _⟩ := ins_get I.hok e
  obtain ⟨u, hu, ru⟩ := RelO.some_of (v := v) (o := mA f) (by rw [← l]; exact r f)
  exact get_map I.kIn O (c.get f) c.hd n hu (handed_of ru) (h u _ (I.tok _) ru)

theorem getmeth_ok {m : Str} {g : Addr} {pl : Sem Bool} {Q : Value × List Value → Shared → Prop} (I : Inv X pins σ H s) (e : H a = some (.ins C dx fs)) (c : Cls X.K C) (k : Meth X.K C m g) (l : fs.lookup m = none)
    (h : Q (.ref g, [.ref a]) s) : wpAny (model X.prog X.w) A (getMethod (.ref a) m pl) Q E s := by
  obtain ⟨mA, O, r, _, _, _⟩ := ins_get I.hok e
  have hn : mA m = none := RelO.none_of (by rw [← l]; exact r m)
  exact get_meth I.kIn O (c.get m) k.at_ k.fn hn h

theorem setattr_ok {y : V} {u : Value} {Q : Unit → Shared → Prop} (I : Inv X pins σ H s) (e : H a = some (.ins C dx fs)) (c : Cls X.K C) (n : NoAttr X.K C f) (hl : fs.length < 1000) (ry : RelV y u)
    (h : ∀ s', Inv X pins σ (upd H a (.ins C dx (putF f y fs))) s' → Q () s') : wpAny (model X.prog X.w) A (setAttr (.ref a) f u) Q E s := by
  obtain ⟨mA, O, r, wi, _, ho⟩ := ins_get I.hok e
  have hz : (fs.map (·.1)).length ≤ sizeLine := by rw [List.length_map, sizeLine_eq]; omega
  refine set_map I.kIn O c.sa c.po n.taker c.hd wi hz fun h' O' sb => h _ ?_
  have hd : ∃ o, h'.get? dx = some o := let ⟨o, _, _, e', _⟩ := O'.ns; ⟨o, e'⟩
  refine I.write (x := a) (e := dx) (by rw [e]; exact True.intro) (.inr ho) (fun b q hb z => (sb.2 b hb).trans z) hd ?_
  refine ⟨by rw [upd_ne O.ne]; exact ho, ?_, O.ne, O'.obj, _, O'.ns, fun g => ?_, fun g hg => ?_⟩
  · have := length_putF f y fs; omega
  · show RelO ((putF f y fs).lookup g) (if g = f then some u else mA g)
    rw [lookup_putF]
    by_cases q : g = f
    · rw [if_pos q, if_pos q]; exact ry
    · rw [if_neg q, if_neg q]; exact r g
  · by_cases q : g = f
    · rw [q]; exact (keys_putF f y fs).1
    · refine (keys_putF f y fs).2 g (wi g fun z => hg ?_)
      show (if g = f then some u else mA g) = none
      rw [if_neg q]; exact z

/-- a new instance, tracked, without attributes -/
theorem Inv.made (I : Inv X pins σ H s) : Inv X pins σ (upd (upd H s.heap.objs.size (.own (s.heap.objs.size + 1))) (s.heap.objs.size + 1) (.ins C s.heap.objs.size []))
    { s with heap := (s.heap.push PySem.W.emptyDict).push (PySem.W.instObj C s.heap.objs.size) } := by
  have e1 : (s.heap.push PySem.W.emptyDict).get? s.heap.objs.size = some PySem.W.emptyDict := Heap.get?_push_size s.heap rfl
  have e2 : ((s.heap.push PySem.W.emptyDict).push (PySem.W.instObj C s.heap.objs.size)).get? (s.heap.objs.size + 1) = some (PySem.W.instObj C s.heap.objs.size) := by
    have := Heap.get?_push_size (s.heap.push PySem.W.emptyDict) (o := PySem.W.instObj C s.heap.objs.size) rfl
    rwa [Heap.size_push] at this
  have e3 : (s.heap.push PySem.W.emptyDict).Ns s.heap.objs.size (fun _ => none) := ⟨PySem.W.emptyDict, #[], _, e1, rfl, (fun e he => absurd he (by simp)), fun _ => rfl⟩
  have I1 := I.laid (a := s.heap.objs.size) (o := .own (s.heap.objs.size + 1)) (h' := s.heap.push PySem.W.emptyDict) (t' := s.toks) (fun b u q => Heap.get?_push_of_some _ q) (Nat.le_refl _) ⟨_, e1⟩
  refine I1.laid (a := s.heap.objs.size + 1) (o := .ins C s.heap.objs.size []) (t' := s.toks) (fun b u q => Heap.get?_push_of_some _ q) (Nat.le_of_eq (Heap.size_push _ _)) ?_
  have ne : s.heap.objs.size ≠ s.heap.objs.size + 1 := Nat.ne_of_lt (Nat.lt_succ_self _)
  refine ⟨by rw [upd_ne ne, upd_same], Nat.zero_le _, ne, e2, fun _ => none, (Heap.Ns1.of_empty e3).at fun o q => Heap.get?_push_of_some _ q, fun _ => True.intro, fun y hy => absurd rfl hy⟩

/-- e.f where nothing but the object is asked: through attributeBase (super) and the last hold -/
theorem attr_of {prog : Program} {w : World} {env : Env} {e : Expr} {f : Str} {pos : Pos} {s : Shared} {Q : Value → Shared → Prop} (hb : attributeBase e f env (eval e env) = eval e env)
    (h : wpAny (model prog w) A (eval e env) (fun o s₁ => wpAny (model prog w) A (getAttr o f true) Q E s₁) E s) : wpAny (model prog w) A (eval (.Attribute e f pos) env) Q E s :=
  Attribute_any_ h (by rw [arm_eval_Attribute, hb])
end

/-! ### readings and rules -/
/-- e.f, an attribute of the instance -/
def tFld (K : PySem.W.Frag) (ta : TE) (f : Str) : TE := fun σ H Q => ta σ H fun x H1 => ∃ a C dx fs v, x = .ref a ∧ H1 a = some (.ins C dx fs) ∧ Cls K C ∧ NoAttr K C f ∧ fs.lookup f = some v ∧ Q v H1
/-- e.f, a constant of the class -/
def tCon (K : PySem.W.Frag) (ta : TE) (f : Str) : TE := fun σ H Q => ta σ H fun x H1 => ∃ a C dx fs v u, x = .ref a ∧ H1 a = some (.ins C dx fs) ∧ Cls K C ∧ Con K C f v u ∧ fs.lookup f = none ∧ Q v H1
/-- e.f = value -/
def sFld (K : PySem.W.Frag) (ta tv : TE) (f : Str) : TS := fun D σ H => tv σ H fun y H1 => ta σ H1 fun x H2 => ∃ a C dx fs, x = .ref a ∧ H2 a = some (.ins C dx fs) ∧ Cls K C ∧ NoAttr K C f ∧ fs.length < 1000 ∧
  D.nx σ (upd H2 a (.ins C dx (putF f y fs)))
/-- an augmented operator on two values -/
def InOp (X : Cx) (op : Operator) (rd : V → V → Hp → VK → Prop) : Prop :=
  ∀ (pins : List (Addr × Obj)) (s : Shared) (σ : St) (H : Hp) (x y : V) (u v : Value) (Q : VK), Inv X pins σ H s → RelV x u → RelV y v → rd x y H Q → wpAny (model X.prog X.w) X.A (inplaceOp op u v) (EP X pins σ Q) X.xe s
/-- e.f op= value -/
def sFldAug (K : PySem.W.Frag) (ta tv : TE) (rd : V → V → Hp → VK → Prop) (f : Str) : TS := fun D σ H => ta σ H fun x H1 => ∃ a C dx fs v, x = .ref a ∧ H1 a = some (.ins C dx fs) ∧ Cls K C ∧ NoAttr K C f ∧ fs.lookup f = some v ∧
  tv σ H1 fun y H2 => rd v y H2 fun z H3 => ∃ dx' fs', H3 a = some (.ins C dx' fs') ∧ fs'.length < 1000 ∧ D.nx σ (upd H3 a (.ins C dx' (putF f z fs')))

section
variable {X : Cx} {o e value : Expr} {f : Str} {pos pos' tpos : Pos} {ta tv : TE}
theorem pe_fld (he : PE X e ta) (hb : attributeBase e f X.env (eval e X.env) = eval e X.env) : PE X (.Attribute e f pos) (tFld X.K ta f) := by
  intro pins s σ H Q I h
  refine attr_of hb (thn (he pins s σ H _ I h) fun u s1 ⟨x, H1, I1, rx, a, C, dx, fs, v, ex, ea, c, n, l, q⟩ => ?_)
  subst ex
  obtain rfl : u = Value.ref a := rx
  exact getattr_ok I1 ea c n l fun u' s2 I2 ru => ⟨v, H1, I2, ru, q⟩
theorem ps_fld (ha : PE X o ta) (hv : PE X value tv) (hs : swapsWith value (some (.Attribute o f pos')) pos.line X.env = pure false) : PS X (.Assign [.Attribute o f pos'] value pos) (sFld X.K ta tv f) := by
  intro pins s σ H D I h
  refine plainObj_wpAny_Assign_Attribute (thn (hv pins s σ H _ I h) fun u s1 ⟨y, H1, I1, ry, q⟩ => thn (ha pins s1 σ H1 _ I1 q) fun ov s2 ⟨x, H2, I2, rx, a, C, dx, fs, ex, ea, c, n, l, q2⟩ => ?_) hs
  subst ex
  obtain rfl : ov = Value.ref a := rx
  exact setattr_ok I2 ea c n l ry fun s3 I3 => ⟨σ, _, I3, q2⟩
def rAdd : V → V → Hp → VK → Prop := fun x y H Q => ∃ i j, x = .int i ∧ y = .int j ∧ Q (.int (i + j)) H
def rSub : V → V → Hp → VK → Prop := fun x y H Q => ∃ i j, x = .int i ∧ y = .int j ∧ Q (.int (i - j)) H
end

/-! ### isinstance -/
section
variable {X : Cx} {pins : List (Addr × Obj)} {σ : St} {H : Hp} {s : Shared} {A : Around} {E : Value → Shared → Prop} {Q : Value → Shared → Prop} {c : Value} {b : Bool}
/-- the type of a value, as the fragment's deciders take it; for an instance its class -/
inductive TyOf (K : PySem.W.Frag) (H : Hp) : V → Value → Prop where
  | non : TyOf K H .non (.type "NoneType")
  | bl (x : Bool) : TyOf K H (.bl x) (.type "bool")
  | int (i : Int) : TyOf K H (.int i) (.type "int")
  | str (x : Str) : TyOf K H (.str x) (.type "str")
  | flt (x : UInt64) : TyOf K H (.flt x) (.type "float")
  | lst {a : Addr} {xs : List V} (e : H a = some (.lst xs)) : TyOf K H (.ref a) (.type "list")
  | frz {a : Addr} {o : Obj} {xs : List V} (e : H a = some (.frz o (.lst xs))) : TyOf K H (.ref a) (.type "list")
  | tup {a : Addr} {xs : List V} (e : H a = some (.tup xs)) : TyOf K H (.ref a) (.type "tuple")
  | dK {a : Addr} {kvs : List (Key × V)} (e : H a = some (.dK kvs)) : TyOf K H (.ref a) (.type "dict")
  | dT {a : Addr} {kvs : List (List Key × V)} (e : H a = some (.dT kvs)) : TyOf K H (.ref a) (.type "dict")
  | ins {a C dx : Addr} {fs : List (Str × V)} (e : H a = some (.ins C dx fs)) (cl : Cls K C) (ha : PySem.W.findIn K (.ref C) "__class__" = some (some (.builtin "object.__class__")))
      (hn : PySem.W.specialIn K (.builtin "object.__class__") "__get__" = some (some (.builtin "getset_descriptor.__get__"))) (htk : PySem.W.takesIn K (.builtin "object.__class__") = some true)
      (hm : PySem.W.mroIn K C (.type "object") = some true) : TyOf K H (.ref a) (.ref C)
/-- isinstance(x, c) for one class c, a built-in or an own one: kitOne's answer -/
theorem isinst_ok {x : V} {u t : Value} (I : Inv X pins σ H s) (rx : RelV x u) (ty : TyOf X.K H x t) (e : PySem.W.kitOne X.K t c = some b) (h : ∀ tk, Q (.bool b) { s with toks := tk }) :
    wpAny (model X.prog X.w) A (call (.builtin "isinstance") [u, c]) Q E s := by
  cases ty with
  | non => cases (show u = Value.none from rx); exact PySem.W.kia_one PySem.W.kitx_none I.kIn True.intro e (fun z => nomatch z) h
  | bl y => cases (show u = Value.bool y from rx); exact PySem.W.kia_one PySem.W.kitx_bool I.kIn True.intro e (fun z => nomatch z) h
  | int i => obtain ⟨t, q⟩ := (show ∃ t, u = Value.int i t from rx); cases q; exact PySem.W.kia_one PySem.W.kitx_int I.kIn True.intro e (fun z => nomatch z) h
  | str y => obtain ⟨t, q⟩ := (show ∃ t, u = Value.str y t from rx); cases q; exact PySem.W.kia_one PySem.W.kitx_str I.kIn True.intro e (fun z => nomatch z) h
  | flt y => obtain ⟨t, q⟩ := (show ∃ t, u = Value.float y t from rx); cases q; exact PySem.W.kia_one PySem.W.kitx_float I.kIn True.intro e (fun z => nomatch z) h
  | @lst a xs ea =>
    cases (show u = Value.ref a from rx)
    obtain ⟨_, _, n, _, h1⟩ := (show ObjOk X.prog X.w H s.heap a (.lst xs) from I.hok a _ ea)
    exact PySem.W.kia_one PySem.W.kitx_list I.kIn ⟨_, h1, rfl⟩ e (fun z => nomatch z) h
  | @frz a ob xs ea =>
    cases (show u = Value.ref a from rx)
    obtain ⟨_, _, _, n, _, h1⟩ := (show ObjOk X.prog X.w H s.heap a (.frz ob (.lst xs)) from I.hok a _ ea)
    exact PySem.W.kia_one PySem.W.kitx_list I.kIn ⟨_, h1, rfl⟩ e (fun z => nomatch z) h
  | @tup a xs ea =>
    cases (show u = Value.ref a from rx)
    obtain ⟨_, _, _, p⟩ := (show ObjOk X.prog X.w H s.heap a (.tup xs) from I.hok a _ ea)
    obtain ⟨o, h1, h2, _⟩ := p
    exact PySem.W.kia_one PySem.W.kitx_tuple I.kIn ⟨o, h1, h2⟩ e (fun z => nomatch z) h
  | @dK a kvs ea =>
    cases (show u = Value.ref a from rx)
    obtain ⟨_, _, vs, _, p⟩ := (show ObjOk X.prog X.w H s.heap a (.dK kvs) from I.hok a _ ea)
    obtain ⟨o, es, ep, h1, h2, _⟩ := p
    exact PySem.W.kia_one PySem.W.kitx_dict I.kIn ⟨o, h1, h2.1⟩ e (fun z => nomatch z) h
  | @dT a kvs ea =>
    cases (show u = Value.ref a from rx)
    obtain ⟨_, _, xs, _, o, es, ep, h1, h2, _⟩ := (show ObjOk X.prog X.w H s.heap a (.dT kvs) from I.hok a _ ea)
    exact PySem.W.kia_one PySem.W.kitx_dict I.kIn ⟨o, h1, h2.1⟩ e (fun z => nomatch z) h
  | @ins a C dx fs ea cl ha hn htk hm =>
    cases (show u = Value.ref a from rx)
    obtain ⟨mA, O, _⟩ := ins_get I.hok ea
    obtain ⟨od, J, _⟩ := O.look
    exact PySem.W.kia_one (PySem.W.kitx_own (cl.get _) cl.hd ha hn htk hm) I.kIn J e (fun z => nomatch z) h
end
end L2

namespace L2
open PySem PySem.Spec PyProof.Rows

/-! ### room -/
structure Room (k : Nat) (A : Around) : Prop where
  hd : A.handled = none
  dp : A.depth + 3 * k + 5 < recursionLimit
  un : A.units + 16 * k + 200 < cLine
theorem Room.mono {j k : Nat} {A : Around} (r : Room k A) (h : j ≤ k) : Room j A := ⟨r.hd, by have := r.dp; omega, by have := r.un; omega⟩
theorem Room.deeper {k : Nat} {A : Around} (r : Room (k + 1) A) (env : Env) : Room k (A.deeper env) :=
  ⟨r.hd, by have := r.dp; show A.depth + 1 + 3 * k + 5 < _; omega, by have := r.un; show A.units + 3 + 16 * k + 200 < _; omega⟩
theorem make_depth {A : Around} {C : Addr} {us : List Value} {kw : List (Str × Value)} : (A.under (.builtin "type.__call__" ⟨.ref C :: us, kw⟩)).depth = A.depth + 1 := by
  first | rfl | simp [Around.under, Code.weight, Code.isCreation, Code.isGuard, Code.isCaller, Code.frames, Code.isFrame, guardIds]
theorem make_units {A : Around} {C : Addr} {us : List Value} {kw : List (Str × Value)} : (A.under (.builtin "type.__call__" ⟨.ref C :: us, kw⟩)).units = A.units + 1 := by
  first | rfl | simp [Around.under, Code.cUnits, Code.frames, Code.isFrame]
theorem Room.make {k : Nat} {A : Around} (r : Room (k + 1) A) (C : Addr) (us : List Value) (kw : List (Str × Value)) : Room k (A.under (.builtin "type.__call__" ⟨.ref C :: us, kw⟩)) :=
  ⟨r.hd, by have := r.dp; rw [make_depth]; omega, by have := r.un; rw [make_units]; omega⟩
theorem Room.depth {k : Nat} {A : Around} (r : Room k A) : A.depth < recursionLimit := by have := r.dp; omega
theorem Room.units {k : Nat} {A : Around} (r : Room k A) : A.units + 64 < cLine := by have := r.un; omega
/-! ### argument lists and displays -/
def tNil : TA := fun _ H Q => Q [] H
def tCons (ta : TE) (tr : TA) : TA := fun σ H Q => ta σ H fun x H1 => tr σ H1 fun xs H2 => Q (x :: xs) H2
section
variable {X : Cx} {e : Expr} {es : List Expr} {te : TE} {t : TA} {pos : Pos}
theorem pa_nil : PA X [] tNil := fun _ _ _ _ H Q I h => Calls.spliced_nil ⟨[], H, I, .nil, h⟩
theorem pa_cons (ha : PE X e te) (hr : PA X es t) (hs : starEach (e :: es) X.env = (false, eval e X.env) :: starEach es X.env := by rfl) : PA X (e :: es) (tCons te t) := by
  intro pos pins s σ H Q I h
  rw [hs]
  show wpAny _ _ (spliced ((false, eval e X.env) :: backTo pos (starEach es X.env))) _ _ s
  refine Calls.spliced_cons (thn (ha pins s σ H _ I h) fun u s1 ⟨x, H1, I1, r1, q1⟩ => ?_)
  exact thn (hr pos pins s1 σ H1 _ I1 q1) fun us s2 ⟨xs, H2, I2, r2, q2⟩ => ⟨x :: xs, H2, I2, .cons r1 r2, q2⟩

/-- a tuple, a list of written items -/
def tTup (t : TA) : TE := fun σ H Q => t σ H fun xs H1 => xs.length ≤ sizeLine ∧ ∀ p, H1 p = none → Q (.ref p) (upd H1 p (.tup xs))
def tLst (t : TA) : TE := fun σ H Q => t σ H fun xs H1 => xs.length ≤ sizeLine ∧ ∀ p, H1 p = none → Q (.ref p) (upd H1 p (.lst xs))
theorem pe_tup {x1} (h : PA X es t) : PE X (.Tuple es x1 pos) (tTup t) := by
  intro pins s σ H Q I hq
  refine wpAny_Tuple_spliced (thn (h pos pins s σ H _ I hq) fun us s1 ⟨xs, H1, I1, r, z, q⟩ => ⟨by rw [← r.length]; exact z, ?_⟩)
  have hf : H1 s1.heap.objs.size = none := I1.hok.fresh (Nat.le_refl _)
  refine ⟨.ref s1.heap.objs.size, upd H1 s1.heap.objs.size (.tup xs), I1.laid (t' := s1.toks) (fun b u e => Heap.get?_push_of_some _ e) (Nat.le_refl _) ?_, rfl, q _ hf⟩
  exact ⟨z, us, r, ⟨_, Heap.get?_push_size _ rfl, rfl, _, rfl⟩⟩
theorem pe_lst (h : PA X es t) : PE X (.List es pos) (tLst t) := by
  intro pins s σ H Q I hq
  refine wpAny_List_spliced (thn (h pos pins s σ H _ I hq) fun us s1 ⟨xs, H1, I1, r, z, q⟩ => ⟨by rw [← r.length]; exact z, ?_⟩)
  have hf : H1 s1.heap.objs.size = none := I1.hok.fresh (Nat.le_refl _)
  refine ⟨.ref s1.heap.objs.size, upd H1 s1.heap.objs.size (.lst xs), I1.laid (t' := s1.toks) (fun b u e => Heap.get?_push_of_some _ e) (Nat.le_refl _) ?_, rfl, q _ hf⟩
  exact ⟨z, us, 0, r, Heap.get?_push_size _ rfl⟩
end

/-! ### what a def promises -/
/-- a def's promise: the bound arguments in the parameters' order, the heap, the wanted end, the wanted exception -/
abbrev Sp := List V → Hp → VK → XK → Prop
/-- how an exception lies behind a call (file 08 gives it): the callers' frames, abstract heap and state ahead of the call, the wish, the exception, the state -/
abbrev CXT := List Env → Hp → Shared → XK → Value → Shared → Prop

/-- the state at a call -/
structure Env0 (P : Program) (w : World) (K : PySem.W.Frag) (mg : Str → Option Value) (base : Heap) (A : Around) (outer : List Env) (s : Shared) (H : Hp) : Prop where
  frames : A.frames = some outer
  mod : Mod K mg base
  bs : ∀ b o, base.get? b = some o → s.heap.get? b = some o ∧ H b = none
  bsz : base.objs.size ≤ s.heap.objs.size
  funs : s.heap.FunFrames base outer
  frf : ∀ b ∈ frs outer, H b = none
  hok : HOk P w H s.heap
  bare : AllBare s.gens
/-- a call's end -/
def CE (outer : List Env) (P : Program) (w : World) (H : Hp) (s : Shared) (Q : VK) (u : Value) (s' : Shared) : Prop :=
  ∃ v H', s'.os = s.os ∧ AllBare s'.gens ∧ Un (frs outer) [] H H' s.heap s'.heap ∧ HOk P w H' s'.heap ∧ RelV v u ∧ Q v H'
def CR (CX : CXT) (outer : List Env) (P : Program) (w : World) (H : Hp) (s : Shared) (Q : VK) (E : XK) (r : Result) (s' : Shared) : Prop :=
  match r with
  | .ok (.ret u) => CE outer P w H s Q u s'
  | .ok _ => False
  | .error e => CX outer H s E e s'
structure FnOk (P : Program) (w : World) (K : PySem.W.Frag) (mg : Str → Option Value) (base : Heap) (CX : CXT) (k : Nat) (f : Addr) (fd : FuncData) (ps : List Str) (sp : Sp) : Prop where
  len : ∀ vs H Q E, sp vs H Q E → vs.length = ps.length
  run : ∀ (A : Around) (outer : List Env) (s : Shared) (H : Hp) (args : Args) (us : List Value) (vs : List V) (Q : VK) (E : XK), Room k A → Env0 P w K mg base A outer s H → BindsTo s fd args (ps.zip us) → Vals vs us → sp vs H Q E →
    codeAny (model P w) A (.call (.ref f) args) (CR CX outer P w H s Q E) s
theorem FnOk.mono {P : Program} {w : World} {K : PySem.W.Frag} {mg : Str → Option Value} {base : Heap} {CX : CXT} {j k : Nat} {f : Addr} {fd : FuncData} {ps : List Str} {sp : Sp} (F : FnOk P w K mg base CX j f fd ps sp) (h : j ≤ k) :
    FnOk P w K mg base CX k f fd ps sp := ⟨F.len, fun A outer s H args us vs Q E hr => F.run A outer s H args us vs Q E (hr.mono h)⟩
theorem Env0.make {P : Program} {w : World} {K : PySem.W.Frag} {mg : Str → Option Value} {base : Heap} {A : Around} {outer : List Env} {s : Shared} {H : Hp} (e : Env0 P w K mg base A outer s H) (C : Addr) (us : List Value) (kw : List (Str × Value)) :
    Env0 P w K mg base (A.under (.builtin "type.__call__" ⟨.ref C :: us, kw⟩)) outer s H := ⟨by first | exact e.frames | (simpa [Around.under, Code.envs, Code.isFrame, pushEnvs] using e.frames), e.mod, e.bs, e.bsz, e.funs, e.frf, e.hok, e.bare⟩
section
variable {X : Cx} {pins : List (Addr × Obj)} {σ : St} {H : Hp} {s s' : Shared}
/-- from a body: what a callee wants -/
theorem Inv.env0 (I : Inv X pins σ H s) : Env0 X.prog X.w X.K X.mg X.base X.A X.stack s H :=
  ⟨I.ok.frames, I.ok.mod, I.bs, Nat.le_trans I.ok.bsz I.sz, I.stack, I.stkFree, I.hok, I.bare⟩
/-- behind a call -/
theorem Inv.after {Q : VK} {u : Value} (I : Inv X pins σ H s) (h : CE X.stack X.prog X.w H s Q u s') : EP X pins σ Q u s' := by
  obtain ⟨v, H', os, bare, un, hok, r, q⟩ := h
  obtain ⟨hh, g, d, t, os'⟩ := s'
  obtain rfl : os' = s.os := os
  exact ⟨v, H', I.call (h' := hh) (g' := g) (d' := d) (t' := t) (ch := []) un hok bare (fun b z => absurd z (by simp)), r, q⟩
end

/-! ### calls -/
/-- f(..): the written arguments, then the defaults dvs; E: what is wanted of an exception -/
def tCall (sp : Sp) (dvs : List V) (E : XK) (t : TA) : TE := fun σ H Q => t σ H fun vs H1 => sp (vs ++ dvs) H1 Q E
/-- o.m(..) of an instance of the class at C -/
def tMeth (C : Addr) (m : Str) (sp : Sp) (dvs : List V) (E : XK) (ta : TE) (t : TA) : TE := fun σ H Q => ta σ H fun x H1 => ∃ a dx fs, x = .ref a ∧ H1 a = some (.ins C dx fs) ∧ fs.lookup m = none ∧
  t σ H1 fun vs H2 => sp (x :: (vs ++ dvs)) H2 Q E
/-- C(..): a new instance and its dict, then __init__ -/
def tMake (C : Addr) (sp : Sp) (dvs : List V) (E : XK) (t : TA) : TE := fun σ H Q => t σ H fun vs H1 => ∀ x dx, H1 x = none → H1 dx = none → dx ≠ x →
  sp (.ref x :: (vs ++ dvs)) (upd (upd H1 dx (.own x)) x (.ins C dx [])) (fun v H2 => v = .non ∧ Q (.ref x) H2) E

/-- how the parameters are bound: us the positional arguments, kw the keywords' values by name, ds the defaults that fill up -/
def Binds (K : PySem.W.Frag) (fd : FuncData) (ps : List Str) (ds : List Value) : Prop :=
  ∀ (s : Shared) (us : List Value), K.In s.heap → (us ++ ds).length = ps.length → BindsTo s fd ⟨us, []⟩ (ps.zip (us ++ ds))
/-- every parameter is given -/
theorem Binds.all {K : PySem.W.Frag} {fd : FuncData} {ps : List Str} (h : ∀ us : List Value, us.length = ps.length → bindArgs fd ⟨us, []⟩ = pure (ps.zip us)) : Binds K fd ps [] := fun s us _ hl => by
  rw [List.append_nil] at hl ⊢
  exact .of_eq (h us hl)

/-- an exception of a callee reaches what this body wants of exceptions -/
def Passes (CX : CXT) (X : Cx) (E : XK) : Prop := ∀ (pins : List (Addr × Obj)) (σ : St) (H : Hp) (s : Shared) (e : Value) (s' : Shared), Inv X pins σ H s → CX X.stack H s E e s' → X.xe e s'

section
variable {X : Cx} {CX : CXT} {k : Nat} {f C : Addr} {fd : FuncData} {ps : List Str} {sp : Sp} {dvs : List V} {ds : List Value} {E : XK} {x m : Str} {p pos apos : Pos} {e o : Expr} {es : List Expr} {ta : TE} {t : TA}

/-- the callee runs -/
theorem run_fn {pins : List (Addr × Obj)} {σ : St} {H : Hp} {s : Shared} {Q : VK} {us : List Value} {vs : List V} (F : FnOk X.prog X.w X.K X.mg X.base CX k f fd ps sp) (hr : Room k X.A) (hb : Binds X.K fd ps ds) (hd : Vals dvs ds) (hx : Passes CX X E)
    (I : Inv X pins σ H s) (r : Vals vs us) (h : sp (vs ++ dvs) H Q E) : wpAny (model X.prog X.w) X.A (call (.ref f) us) (EP X pins σ Q) X.xe s := by
  have r2 : Vals (vs ++ dvs) (us ++ ds) := r.append hd
  have hl : (us ++ ds).length = ps.length := by rw [← r2.length]; exact F.len _ _ _ _ h
  refine wpAny_call (codeAny_mono (F.run X.A X.stack s H ⟨us, []⟩ (us ++ ds) (vs ++ dvs) Q E hr I.env0 (hb s us I.kIn hl) r2 h) fun r s' hq => ?_)
  cases r with
  | error e => exact hx pins σ H s e s' I hq
  | ok fl =>
    cases fl with
    | ret u => exact I.after hq
    | next => exact False.elim hq
    | brk => exact False.elim hq
    | cont => exact False.elim hq

theorem pe_call (F : FnOk X.prog X.w X.K X.mg X.base CX k f fd ps sp) (hr : Room k X.A) (hg : Gl X x) (hm : X.mg x = some (.ref f)) (hk : PySem.W.keepIn X.K (.ref f) = true) (hb : Binds X.K fd ps ds) (hd : Vals dvs ds) (hx : Passes CX X E)
    (ha : PA X (e :: es) t) (hdb : (x == ("__debug__" : Str)) = false := by decide) (he : starEach (e :: es) X.env = (false, eval e X.env) :: starEach es X.env := by rfl) (hpl : (backTo pos (starEach es X.env)).any (·.1) = false := by rfl) :
    PE X (.Call (.Name x p) (e :: es) [] pos) (tCall sp dvs E t) := by
  intro pins s σ H Q I h
  refine wpAny_Call_Name_kw (ld_glob I hg hm ?_ hdb)
  refine PySem.W.callWith_K (h₀ := X.base) I.ok.mod.kin hk (thn (ha pos pins s σ H _ I h) fun us s1 ⟨vs, H1, I1, r, q⟩ => ⟨I1.kIn, ?_⟩) he hpl
  exact run_fn F hr hb hd hx I1 r q
/-- what a class must have to be made -/
structure Mk (K : PySem.W.Frag) (C f : Addr) : Prop where
  makes : PySem.W.makesIn K C = true
  init : PySem.W.findIn K (.ref C) "__init__" = some (some (.ref f))
  fn : PySem.W.isFn K (.ref f) = true
  kp : PySem.W.keepIn K (.ref C) = true

theorem run_make {pins : List (Addr × Obj)} {σ : St} {H : Hp} {s : Shared} {Q : VK} {us : List Value} {vs : List V} (M : Mk X.K C f) (F : FnOk X.prog X.w X.K X.mg X.base CX k f fd ps sp) (hr : Room (k + 1) X.A) (hb : Binds X.K fd ps ds) (hd : Vals dvs ds)
    (hx : Passes CX X E) (I : Inv X pins σ H s) (r : Vals vs us)
    (h : ∀ x dx, H x = none → H dx = none → dx ≠ x → sp (.ref x :: (vs ++ dvs)) (upd (upd H dx (.own x)) x (.ins C dx [])) (fun v H2 => v = .non ∧ Q (.ref x) H2) E) :
    wpAny (model X.prog X.w) X.A (call (.ref C) us) (EP X pins σ Q) X.xe s := by
  have hq := h (s.heap.objs.size + 1) s.heap.objs.size (I.hok.fresh (Nat.le_succ _)) (I.hok.fresh (Nat.le_refl _)) (Nat.ne_of_lt (Nat.lt_succ_self _))
  have I2 := Inv.made (C := C) I
  have r2 : Vals (V.ref (s.heap.objs.size + 1) :: (vs ++ dvs)) (Value.ref (s.heap.objs.size + 1) :: (us ++ ds)) := .cons rfl (r.append hd)
  have hl : (Value.ref (s.heap.objs.size + 1) :: us ++ ds).length = ps.length := by
    have e := r2.length
    rw [F.len _ _ _ _ hq] at e
    exact e.symm
  refine wpAny_call (make_map (f := f) I.kIn M.makes M.init (beq_iff_eq.mp M.fn) (codeAny_mono (F.run _ X.stack _ _ ⟨Value.ref (s.heap.objs.size + 1) :: us, []⟩ (Value.ref (s.heap.objs.size + 1) :: (us ++ ds)) _ _ E (hr.make C us [])
    (I2.env0.make C us []) (hb _ (Value.ref (s.heap.objs.size + 1) :: us) I2.kIn hl) r2 hq) fun r s' hq' => ?_))
  cases r with
  | error e => exact hx pins σ _ _ e s' I2 hq'
  | ok fl =>
    cases fl with
    | ret u =>
      obtain ⟨v, H', I3, rv, ev, q3⟩ := I2.after hq'
      subst ev
      exact ⟨rv, ⟨V.ref (s.heap.objs.size + 1), H', I3, rfl, q3⟩⟩
    | next => exact False.elim hq'
    | brk => exact False.elim hq'
    | cont => exact False.elim hq'
theorem pe_make (M : Mk X.K C f) (F : FnOk X.prog X.w X.K X.mg X.base CX k f fd ps sp) (hr : Room (k + 1) X.A) (hg : Gl X x) (hm : X.mg x = some (.ref C)) (hb : Binds X.K fd ps ds) (hd : Vals dvs ds) (hx : Passes CX X E)
    (ha : PA X (e :: es) t) (hdb : (x == ("__debug__" : Str)) = false := by decide) (he : starEach (e :: es) X.env = (false, eval e X.env) :: starEach es X.env := by rfl) (hpl : (backTo pos (starEach es X.env)).any (·.1) = false := by rfl) :
    PE X (.Call (.Name x p) (e :: es) [] pos) (tMake C sp dvs E t) := by
  intro pins s σ H Q I h
  refine wpAny_Call_Name_kw (ld_glob I hg hm ?_ hdb)
  refine PySem.W.callWith_K (h₀ := X.base) I.ok.mod.kin M.kp (thn (ha pos pins s σ H _ I h) fun us s1 ⟨vs, H1, I1, r, q⟩ => ⟨I1.kIn, ?_⟩) he hpl
  exact run_make M F hr hb hd hx I1 r q
theorem pe_make0 (M : Mk X.K C f) (F : FnOk X.prog X.w X.K X.mg X.base CX k f fd ps sp) (hr : Room (k + 1) X.A) (hg : Gl X x) (hm : X.mg x = some (.ref C)) (hb : Binds X.K fd ps ds) (hd : Vals dvs ds) (hx : Passes CX X E)
    (hdb : (x == ("__debug__" : Str)) = false := by decide) : PE X (.Call (.Name x p) [] [] pos) (tMake C sp dvs E tNil) := by
  intro pins s σ H Q I h
  refine wpAny_Call_Name_kw (ld_glob I hg hm ?_ hdb)
  exact PySem.W.callWith_K0 I.kIn M.kp (run_make (us := []) M F hr hb hd hx I .nil h)
end

/-! ### keywords -/
/-- the values of the keywords, from the left -/
def PK (X : Cx) (kws : List Keyword) (t : TA) : Prop :=
  ∀ (pos : Pos) (pins : List (Addr × Obj)) (s : Shared) (σ : St) (H : Hp) (Q : List V → Hp → Prop), Inv X pins σ H s → t σ H Q → wpAny (model X.prog X.w) X.A (evalAll ((backToKw pos (keywordEach kws X.env)).map (·.2))) (AP X pins σ Q) X.xe s
section
variable {X : Cx} {CX : CXT} {k : Nat} {f C : Addr} {fd : FuncData} {ps ks : List Str} {sp : Sp} {E : XK} {x m : Str} {p pos apos kpos : Pos} {e o : Expr} {es : List Expr} {kws : List Keyword} {te ta : TE} {t tk : TA} {nm : Option Str}
/-- how a call with keywords binds: g puts the positional values us and the keywords' values ws (names ks) in the parameters' order, defaults among them -/
structure KBinds (K : PySem.W.Frag) (fd : FuncData) (ps ks : List Str) (g : List Value → List Value → List Value) (gV : List V → List V → List V) : Prop where
  to : ∀ (s : Shared) (us ws : List Value), K.In s.heap → (g us ws).length = ps.length → BindsTo s fd ⟨us, ks.zip ws⟩ (ps.zip (g us ws))
  rel : ∀ {vs : List V} {us : List Value} {zs : List V} {ws : List Value}, Vals vs us → Vals zs ws → Vals (gV vs zs) (g us ws)
def tCallK (sp : Sp) (gV : List V → List V → List V) (E : XK) (t tk : TA) : TE := fun σ H Q => t σ H fun vs H1 => tk σ H1 fun zs H2 => sp (gV vs zs) H2 Q E
variable {g : List Value → List Value → List Value} {gV : List V → List V → List V}
end

/-! ### a def's body keeps its promise -/
/-- names: the parameters first -/
structure FnScope (N P : List Str) (sc : Scope) : Prop where
  kind : sc.kind = .function
  co : sc.isCoroutine = false
  gen : sc.isGenerator = false
  nd : N.Nodup
  pre : N.take P.length = P
  par : ∀ x ∈ P, sc.names.lookup x = some .local ∨ sc.names.lookup x = some .cell
  nofree : ∀ y ∈ sc.names, y.2 ≠ .free

theorem bindL_out {kindOf : Str → Option NameKind} {x : Str} : ∀ {binds : List (Str × Value)} {m : Str → Option Value}, (∀ v, (x, v) ∉ binds) → bindL kindOf binds m x = m x
  | [], _, _ => rfl
  | (n, v) :: r, m, h => by
    unfold bindL
    rw [bindL_out fun w hw => h w (List.mem_cons_of_mem _ hw)]
    split
    · have : x ≠ n := by rintro rfl; exact h v List.mem_cons_self
      simp [this]
    · rfl
theorem bindC_out {kindOf : Str → Option NameKind} {x : Str} : ∀ {binds : List (Str × Value)} {m : Str → Option Value}, (∀ v, (x, v) ∉ binds) → bindC kindOf binds m x = m x
  | [], _, _ => rfl
  | (n, v) :: r, m, h => by
    unfold bindC
    rw [bindC_out fun w hw => h w (List.mem_cons_of_mem _ hw)]
    split
    · rfl
    · have : x ≠ n := by rintro rfl; exact h v List.mem_cons_self
      simp [this]
theorem bindL_get {kindOf : Str → Option NameKind} {x : Str} {v : Value} : ∀ {P : List Str} {vs : List Value} {i : Nat} {m : Str → Option Value}, P.Nodup → P[i]? = some x → vs[i]? = some v → kindOf x = some .local →
    bindL kindOf (P.zip vs) m x = some v
  | [], _, _, _, _, h, _, _ => by simp at h
  | _ :: _, [], _, _, _, _, h, _ => by simp at h
  | p :: P, w :: vs, 0, m, nd, h1, h2, hk => by
    simp at h1 h2; subst h1; subst h2
    show bindL kindOf ((p, w) :: P.zip vs) m p = _
    unfold bindL
    rw [bindL_out fun v hv => (List.nodup_cons.mp nd).1 (List.of_mem_zip hv).1, if_pos hk]
    simp
  | p :: P, w :: vs, i + 1, m, nd, h1, h2, hk => by
    show bindL kindOf ((p, w) :: P.zip vs) m x = _
    unfold bindL
    exact bindL_get (i := i) (List.nodup_cons.mp nd).2 (by simpa using h1) (by simpa using h2) hk
theorem bindC_get {kindOf : Str → Option NameKind} {x : Str} {v : Value} : ∀ {P : List Str} {vs : List Value} {i : Nat} {m : Str → Option Value}, P.Nodup → P[i]? = some x → vs[i]? = some v → kindOf x ≠ some .local →
    bindC kindOf (P.zip vs) m x = some v
  | [], _, _, _, _, h, _, _ => by simp at h
  | _ :: _, [], _, _, _, _, h, _ => by simp at h
  | p :: P, w :: vs, 0, m, nd, h1, h2, hk => by
    simp at h1 h2; subst h1; subst h2
    show bindC kindOf ((p, w) :: P.zip vs) m p = _
    unfold bindC
    rw [bindC_out fun v hv => (List.nodup_cons.mp nd).1 (List.of_mem_zip hv).1, if_neg hk]
    simp
  | p :: P, w :: vs, i + 1, m, nd, h1, h2, hk => by
    show bindC kindOf ((p, w) :: P.zip vs) m x = _
    unfold bindC
    exact bindC_get (i := i) (List.nodup_cons.mp nd).2 (by simpa using h1) (by simpa using h2) hk

/-- the names' values at the entry -/
def start (N : List Str) (vs : List V) : St := vs.map some ++ List.replicate (N.length - vs.length) none

/-- the context of a def's body, at its entry; an exception leaves the frame, then lies as CX says -/
def cxOf (CX : CXT) (P : Program) (w : World) (K : PySem.W.Frag) (mg : Str → Option Value) (base : Heap) (N : List Str) (qual : Str) (scope : Scope) (f : Addr) (cd : Value) (A : Around) (outer : List Env) (s : Shared) (H : Hp) (E : XK) : Cx where
  prog := P
  w := w
  K := K
  mg := mg
  base := base
  A := A.deeper (envOfC qual scope s.heap.objs.size f cd)
  N := N
  s₀ := s
  H₀ := H
  env := envOfC qual scope s.heap.objs.size f cd
  outer := outer
  stack := envOfC qual scope s.heap.objs.size f cd :: outer
  ex := []
  calm := true
  fn := fun _ => true
  pn := []
  xe := fun e s' => wpAny (model P w) (A.deeper (envOfC qual scope s.heap.objs.size f cd)) (leaving (envOfC qual scope s.heap.objs.size f cd) e) (fun _ s'' => CX outer H s E e s'') (fun e' s'' => CX outer H s E e' s'') s'

theorem cell_has {sc : Scope} {n : Nat} {x : Str} (h : sc.names.lookup x = some .cell) : ∃ c, (cellsFrom n sc.names []).lookup x = some c := by
  have q := PySem.W.cellsFrom_some sc.names n [] (.inl h)
  exact Option.isSome_iff_exists.mp q

theorem inv_start {CX : CXT} {P : Program} {w : World} {K : PySem.W.Frag} {mg : Str → Option Value} {base : Heap} {N ps : List Str} {qual : Str} {scope : Scope} {f : Addr} {cd : Value} {A : Around} {outer : List Env} {s s1 : Shared} {H : Hp} {E : XK} {us : List Value} {vs : List V}
    (S : FnScope N ps scope) (hd : A.handled = none) (e0 : Env0 P w K mg base A outer s H) (hl : vs.length = ps.length) (r : Vals vs us)
    (x : InCallC s s.heap.objs.size (bindL (envOfC qual scope s.heap.objs.size f cd).kindOf (ps.zip us) fun _ => none) (cellsFrom (s.heap.objs.size + 1) scope.names []) (bindC (envOfC qual scope s.heap.objs.size f cd).kindOf (ps.zip us) fun _ => none) s1) :
    Inv (cxOf CX P w K mg base N qual scope f cd A outer s H E) [] (start N vs) H s1 := by
  have hpl : ps.length ≤ N.length := by have := congrArg List.length S.pre; rw [List.length_take] at this; omega
  obtain ⟨h1, tk, rfl, hk⟩ := x.done
  have noA : ∀ b : Addr, b ∉ (cxOf CX P w K mg base N qual scope f cd A outer s H E).ex := fun b z => absurd (show b ∈ ([] : List Addr) from z) (by simp)
  refine ⟨⟨e0.mod, S.kind, rfl, rfl, Nat.le_refl _, fun y z c h1 h2 => ?_, fun y hy => ?_, fun y c _ h => ?_, fun _ => hd, Around.frames_deeper e0.frames, .inr ⟨rfl, rfl⟩, fun b z => absurd z (noA b), e0.bs, e0.bsz, fun b _ _ => noA b, fun b z => absurd z (noA b), e0.funs, e0.frf⟩,
    rfl, e0.bare, Un.kept hk, ⟨_, x.toInCall.ns, fun i y v h1 h2 h3 => ?_⟩, fun y c h => ⟨_, x.cell y c h⟩, e0.hok.fresh (Nat.le_refl _), fun y c h => ?_, fun p hp => absurd (show p ∈ ([] : List (Addr × Obj)) from hp) (by simp), e0.hok.kept hk, ?_⟩
  · exact name_of_addr x.apart (PySem.mem_of_lookup h1) (PySem.mem_of_lookup h2)
  · have hy : scope.names.lookup y = some .cell ∨ scope.names.lookup y = some .free := hy
    rcases hy with hy | hy
    · exact cell_has hy
    · exact absurd rfl (S.nofree _ (PySem.mem_of_lookup hy))
  · exact Nat.le_of_lt (x.above y c (PySem.mem_of_lookup h))
  · have hi : i < vs.length := by
      unfold start at h2
      by_cases hi : i < vs.length
      · exact hi
      · rw [List.getElem?_append_right (by simpa using hi)] at h2
        rw [List.getElem?_replicate] at h2
        split at h2 <;> cases h2
    have ha : vs[i]? = some v := by
      unfold start at h2
      rw [List.getElem?_append_left (by simpa using hi), List.getElem?_map] at h2
      cases e : vs[i]? with
      | none => rw [e] at h2; cases h2
      | some a => rw [e] at h2; cases h2; rfl
    obtain ⟨u, hu, rv⟩ := r.get ha
    have hp : ps[i]? = some y := by
      rw [← S.pre, List.getElem?_take_of_lt (by omega)]; exact h1
    have ndP : ps.Nodup := by rw [← S.pre]; exact S.nd.sublist (List.take_sublist _ _)
    refine ⟨u, rv, ?_⟩
    rcases S.par y (List.mem_of_getElem? hp) with k | k
    · exact .inl ⟨k, bindL_get ndP hp hu k⟩
    · obtain ⟨c, e⟩ := cell_has (n := s.heap.objs.size + 1) k
      refine .inr ⟨.inl k, c, e, ?_⟩
      have q := x.cell y c e
      rw [bindC_get ndP hp hu (by show scope.names.lookup y ≠ _; rw [k]; decide)] at q
      exact q
  · exact e0.hok.fresh (Nat.le_of_lt (x.above y c (PySem.mem_of_lookup h)))
  · unfold start
    show _ = N.length
    rw [List.length_append, List.length_map, List.length_replicate]
    omega

/-- THE RULE: a def (or a method) of the text, by its body. The body's reading t is chosen for each entry; it is run at the parameters' values -/
theorem fn_of {CX : CXT} {P : Program} {w : World} {K : PySem.W.Frag} {mg : Str → Option Value} {base : Heap} {k : Nat} {f : Addr} {name qual : Str} {params : Arguments} {body : List Stmt} {scope : Scope} {dV kV doc pm cdv ct oc : Value} {an od : Option Addr}
    {osl : Array (Option Value)} {N ps : List Str} {sp : Sp} (lk : K.lookup f = some ⟨oc, od, .func (PySem.W.fnOf name qual params body scope dV kV doc pm an cdv ct), osl⟩) (hcd : PySem.W.codeIn K cdv qual = true) (S : FnScope N ps scope)
    (len : ∀ vs H Q E, sp vs H Q E → vs.length = ps.length)
    (hbody : ∀ (A : Around) (outer : List Env) (s : Shared) (H : Hp) (vs : List V) (Q : VK) (E : XK), Room k (A.deeper (envOfC qual scope s.heap.objs.size f cdv)) → sp vs H Q E →
      ∃ t, PSs (cxOf CX P w K mg base N qual scope f cdv A outer s H E) body t ∧ t { nx := fun _ H' => Q .non H', rt := Q } (start N vs) H) :
    FnOk P w K mg base CX (k + 1) f (PySem.W.fnOf name qual params body scope dV kV doc pm an cdv ct) ps sp := by
  refine ⟨len, fun A outer s H args us vs Q E hr e0 hb r hsp => ?_⟩
  have hl := len _ _ _ _ hsp
  have KX : K.In s.heap := e0.mod.kin.keeps fun b o e => (e0.bs b o e).1
  have lim : s.heap.NoLimit := e0.mod.nolimit.keeps fun b o e => (e0.bs b o e).1
  have hkind : ∀ y ∈ ps.zip us, scope.names.lookup y.1 = some .local ∨ (scope.names.lookup y.1 = some .cell ∧ ((cellsFrom (s.heap.objs.size + 1) scope.names []).lookup y.1).isSome = true) := fun ⟨n, v⟩ hy => by
    rcases S.par n (List.of_mem_zip hy).1 with q | q
    · exact .inl q
    · exact .inr ⟨q, PySem.W.cellsFrom_some _ _ _ (.inl q)⟩
  refine codeAny_call_function hr.depth (KX _ _ lk) rfl S.co S.gen rfl (PySem.W.codeRec_of KX hcd) (hb _ _ _ _ ?_)
  refine wpAny_newFunctionEnv_cells S.kind hkind fun env he s1 x => ?_
  subst he
  refine ⟨lim.keeps x.toInCall.keep, codeAny_func ?_⟩
  obtain ⟨t, ht, hq⟩ := hbody A outer s H vs Q E (hr.deeper _) hsp
  have I : Inv (cxOf CX P w K mg base N qual scope f cdv A outer s H E) [] (start N vs) H s1 := inv_start S hr.hd e0 hl r x
  refine wpAny_mono (ht [] s1 (start N vs) H _ I hq) (fun fl s' hs => ?_) fun e s' hs => hs
  have fin : ∀ {σ' : St} {H' : Hp} {v : V} {u : Value}, Inv (cxOf CX P w K mg base N qual scope f cdv A outer s H E) [] σ' H' s' → RelV v u → Q v H' → CE outer P w H s Q u s' :=
    fun {σ' H' v u} J rv q => ⟨v, H', J.os, J.bare, J.base, J.hok, rv, q⟩
  cases fl with
  | ret u =>
    obtain ⟨v, σ', H', J, rv, q⟩ := hs
    exact fin J rv q
  | next =>
    obtain ⟨σ', H', J, q⟩ := hs
    exact fin (v := V.non) (u := Value.none) J rfl q
  | brk =>
    obtain ⟨_, _, _, q⟩ := hs
    exact False.elim q
  | cont =>
    obtain ⟨_, _, _, q⟩ := hs
    exact False.elim q
end L2

namespace L2
open PySem PySem.Spec PyProof.Rows
section
variable {X : Cx} {x : Str} {p pos : Pos} {e : Expr} {es : List Expr} {t : TA} {id T : String} {r : List V → Hp → VK → Prop}

def tCB (r : List V → Hp → VK → Prop) (t : TA) : TE := fun σ H Q => t σ H fun vs H1 => r vs H1 Q
/-- f(e, ..), f a built-in function -/
theorem pe_callB (hc : CallR X (.builtin id) r) (hg : Gl X x) (hm : X.mg x = none) (hv : bootBuiltins x = some (.builtin id)) (ha : PA X (e :: es) t) (hn : x ≠ "__name__" := by decide) (hdb : (x == ("__debug__" : Str)) = false := by decide)
    (he : starEach (e :: es) X.env = (false, eval e X.env) :: starEach es X.env := by rfl) (hpl : (backTo pos (starEach es X.env)).any (·.1) = false := by rfl) : PE X (.Call (.Name x p) (e :: es) [] pos) (tCB r t) := by
  intro pins s σ H Q I h
  refine wpAny_Call_Name_kw (ld_blt I hg hm hv ?_ hn hdb)
  exact PyProof.Rows.callWith_builtin1 (thn (ha pos pins s σ H _ I h) fun us s1 ⟨vs, H1, I1, r1, q1⟩ => hc pins s1 σ H1 vs us Q I1 r1 q1) he hpl
/-- T(e, ..), T a built-in type -/
theorem pe_callTy (hc : CallR X (.type T) r) (hg : Gl X x) (hm : X.mg x = none) (hv : bootBuiltins x = some (.type T)) (ha : PA X (e :: es) t) (hn : x ≠ "__name__" := by decide) (hdb : (x == ("__debug__" : Str)) = false := by decide)
    (he : starEach (e :: es) X.env = (false, eval e X.env) :: starEach es X.env := by rfl) (hpl : (backTo pos (starEach es X.env)).any (·.1) = false := by rfl) : PE X (.Call (.Name x p) (e :: es) [] pos) (tCB r t) := by
  intro pins s σ H Q I h
  refine wpAny_Call_Name_kw (ld_blt I hg hm hv ?_ hn hdb)
  exact PyProof.Rows.callWith_type1 (thn (ha pos pins s σ H _ I h) fun us s1 ⟨vs, H1, I1, r1, q1⟩ => hc pins s1 σ H1 vs us Q I1 r1 q1) he hpl
end
end L2

namespace HT
open PySem PyProof.Rows

/-- t < u of tuples of ints -/
def lexLt : List Int → List Int → Bool
  | [], [] => false
  | [], _ :: _ => true
  | _ :: _, [] => false
  | x :: xs, y :: ys => if x = y then lexLt xs ys else decide (x < y)
section
open PySem.SeqAt
open PySem.AutoSeq1 (wpAny_loadPart')
open PySem.MeetsSeq PySem.MeetsSeq2 PySem.MeetsSeq3

end

section
variable {prog : Program} {w : World} {A : Around} {E : Value → Shared → Prop} {s : Shared}

/-! ### t[a:b], not the whole -/
/-- a slice's bound as a place among n (d where it is left out) -/
def sIx (n d : Nat) : Option Int → Nat
  | none => d
  | some v => if v < 0 then (v + (n : Int)).toNat else min v.toNat n
theorem sIx_nat (n d k : Nat) : sIx n d (some (k : Int)) = min k n := by
  show (if (k : Int) < 0 then ((k : Int) + (n : Int)).toNat else min (k : Int).toNat n) = min k n
  rw [if_neg (by omega), Int.toNat_natCast]
end
end HT

namespace L2
open PySem PySem.Spec PyProof.Rows

/-! ### the parts of a slice -/
abbrev TO := St → Hp → (Option Int → Hp → Prop) → Prop
/-- a slice's part (left out, or an int) -/
def PO (X : Cx) (e : Option Expr) (t : TO) : Prop :=
  ∀ (pins : List (Addr × Obj)) (s : Shared) (σ : St) (H : Hp) (Q : Option Int → Hp → Prop), Inv X pins σ H s → t σ H Q →
    wpAny (model X.prog X.w) X.A (evalPart e X.env) (fun u s' => ∃ o H', Inv X pins σ H' s' ∧ IsPart u o ∧ Q o H') X.xe s
def tNoPart : TO := fun _ H Q => Q none H
def tPart (t : TE) : TO := fun σ H Q => t σ H fun x H1 => ∃ i, x = .int i ∧ Q (some i) H1

section
variable {X : Cx} {e : Expr} {te : TE} {lo hi : Option Expr} {tl th : TO} {pos p2 : Pos}

theorem po_some (h : PE X e te) : PO X (some e) (tPart te) := by
  intro pins s σ H Q I hw
  rw [evalPart_some]
  refine thn (h pins s σ H _ I hw) fun u s1 ⟨x, H1, I1, r1, q1⟩ => ?_
  obtain ⟨i, rfl, q⟩ := q1
  obtain ⟨t, rfl⟩ := r1
  exact ⟨some i, H1, I1, .int i t, q⟩

/-- what a slice of a value is, by values: the slice object stands at sl -/
def SlR (X : Cx) (r : V → Option Int → Option Int → Hp → VK → Prop) : Prop :=
  ∀ (pins : List (Addr × Obj)) (s : Shared) (σ : St) (H : Hp) (x : V) (v vl vu : Value) (lo hi : Option Int) (sl : Addr) (Q : VK), Inv X pins σ H s → RelV x v → s.heap.IsSliceOf sl vl vu .none → IsPart vl lo → IsPart vu hi → r x lo hi H Q →
    ∃ T id, typeLookup (.type T) "__getitem__" = pure (some (.builtin id)) ∧ s.TypeIs v T ∧ wpAny (model X.prog X.w) X.A (getItem v (.ref sl)) (EP X pins σ Q) X.xe s
def tSl (r : V → Option Int → Option Int → Hp → VK → Prop) (te : TE) (tl th : TO) : TE := fun σ H Q => te σ H fun x H1 => tl σ H1 fun l H2 => th σ H2 fun u H3 => r x l u H3 Q
/-- a[lo:hi], any a -/
theorem pe_slice {r : V → Option Int → Option Int → Hp → VK → Prop} (hr : SlR X r) (he : PE X e te) (hl : PO X lo tl) (hu : PO X hi th) : PE X (.Subscript e (.Slice lo hi none p2) pos) (tSl r te tl th) := by
  intro pins s σ H Q I h
  refine Subscript_ (thn (he pins s σ H _ I h) fun v s1 ⟨x, H1, I1, r1, q1⟩ => ?_)
  refine wpAny_Slice (thn (hl pins s1 σ H1 _ I1 q1) fun vl s2 ⟨l, H2, I2, pl, q2⟩ => thn (hu pins s2 σ H2 _ I2 q2) fun vu s3 ⟨u, H3, I3, pu, q3⟩ => ?_)
  rw [evalPart_none]
  refine wpAny_pure ?_
  have I4 : Inv X pins σ H3 { s3 with heap := s3.heap.push { cls := .type "slice", data := .fields #[vl, vu, .none] } } := I3.kept (t' := s3.toks) fun b ob q => Heap.get?_push_of_some _ q
  obtain ⟨T, id, hT, ht, hg⟩ := hr pins { s3 with heap := s3.heap.push { cls := .type "slice", data := .fields #[vl, vu, .none] } } σ H3 x v vl vu l u s3.heap.objs.size Q I4 r1 (Heap.IsSliceOf.new ..) pl pu q3
  show wpAny (model X.prog X.w) X.A (subscriptTail e (.Slice lo hi none p2) v (.ref s3.heap.objs.size)) (EP X pins σ Q) X.xe { s3 with heap := s3.heap.push { cls := .type "slice", data := .fields #[vl, vu, .none] } }
  exact tail_any (ops := [.ref s3.heap.objs.size, v]) ht hT hg (by with_unfolding_all rfl)

/-- the items of xs[lo:hi] -/
def cutV (xs : List V) (lo hi : Option Int) : List V := (xs.drop (HT.sIx xs.length 0 lo)).take (HT.sIx xs.length xs.length hi - HT.sIx xs.length 0 lo)
theorem cutV_length (xs : List V) (lo hi : Option Int) : (cutV xs lo hi).length ≤ xs.length := by
  unfold cutV
  rw [List.length_take, List.length_drop]
  omega
/-- t[lo:hi], not the whole of it (the whole would be t itself) -/
def rSlT (K : PySem.W.Frag) : V → Option Int → Option Int → Hp → VK → Prop := fun x lo hi H Q => ∃ a xs, x = .ref a ∧ SqT K H a xs ∧
  ¬ (HT.sIx xs.length 0 lo = 0 ∧ HT.sIx xs.length xs.length hi = xs.length) ∧ ∀ p, H p = none → Q (.ref p) (upd H p (.tup (cutV xs lo hi)))
/-! ### t < u, t + u -/
def rLtT (K : PySem.W.Frag) : R2 := fun x y H Q => ∃ a b ns ms, x = .ref a ∧ y = .ref b ∧ SqT K H a (ns.map V.int) ∧ SqT K H b (ms.map V.int) ∧ Q (.bl (HT.lexLt ns ms)) H
/-- t + u, t not empty: u empty gives t itself -/
def rCatT (K : PySem.W.Frag) : R2 := fun x y H Q => ∃ a b xs ys, x = .ref a ∧ y = .ref b ∧ SqT K H a xs ∧ SqT K H b ys ∧ xs ≠ [] ∧ xs.length + ys.length ≤ sizeLine ∧
  (ys = [] → Q (.ref a) H) ∧ (ys ≠ [] → ∀ p, H p = none → Q (.ref p) (upd H p (.tup (xs ++ ys))))
end
end L2

namespace L2
open PySem PySem.Spec PyProof.Rows

/-! ### places -/
/-- the place that an index of any sign means -/
def ixN (n : Nat) (i : Int) : Option Nat := if 0 ≤ i then (if i < n then some i.toNat else none) else if -(n : Int) ≤ i then some (i + n).toNat else none
def atI {α : Type} (xs : List α) (i : Int) : Option α := (ixN xs.length i).bind fun j => xs[j]?
theorem ixN_seq {n : Nat} {i : Int} {j : Nat} (h : ixN n i = some j) : seqIndex? i n = some j ∧ j < n ∧ -(n : Int) ≤ i ∧ i < n := by
  unfold ixN at h
  by_cases h0 : 0 ≤ i
  · rw [if_pos h0] at h
    by_cases h1 : i < n
    · rw [if_pos h1] at h
      have e : i.toNat = j := Option.some.inj h
      exact ⟨by rw [seqIndex_of h0 h1, e], by omega, by omega, h1⟩
    · rw [if_neg h1] at h; cases h
  · rw [if_neg h0] at h
    by_cases h1 : -(n : Int) ≤ i
    · rw [if_pos h1] at h
      have e : (i + n).toNat = j := Option.some.inj h
      exact ⟨by rw [seqIndex_neg (by omega) h1, e], by omega, h1, by omega⟩
    · rw [if_neg h1] at h; cases h
theorem atI_get {α : Type} {xs : List α} {i : Int} {v : α} (h : atI xs i = some v) : ∃ j, seqIndex? i xs.length = some j ∧ xs[j]? = some v ∧ j < xs.length ∧ -(xs.length : Int) ≤ i ∧ i < xs.length := by
  unfold atI at h
  cases e : ixN xs.length i with
  | none => rw [e] at h; cases h
  | some j =>
    rw [e] at h
    obtain ⟨h1, h2, h3, h4⟩ := ixN_seq e
    exact ⟨j, h1, h, h2, h3, h4⟩
theorem atI_nat {α : Type} {xs : List α} {j : Nat} {v : α} (h : xs[j]? = some v) : atI xs (j : Int) = some v := by
  have hj : j < xs.length := (List.getElem?_eq_some_iff.mp h).1
  have e : ixN xs.length (j : Int) = some j := by
    unfold ixN
    rw [if_pos (by omega), if_pos (by omega)]; simp
  unfold atI; rw [e]; exact h
/-! ### what may be subscripted -/
/-- what stands as an index of a plain subscript -/
def PlainIx (b : Expr) : Prop := ∀ o i, subscripted b false o i = operate [o, i] (getItem o i)
/-- a subscript by values -/
def IxR (X : Cx) (r : R2) : Prop :=
  ∀ (value slice : Expr) (pins : List (Addr × Obj)) (s : Shared) (σ : St) (H : Hp) (x y : V) (v u : Value) (Q : VK), Inv X pins σ H s → RelV x v → RelV y u → r x y H Q →
    subscripted slice false v u = operate [v, u] (getItem v u) → wpAny (model X.prog X.w) X.A (subscriptTail value slice v u) (EP X pins σ Q) X.xe s
/-- a call of a builtin's method by values: the receiver, the arguments -/
def MtR (X : Cx) (id : String) (r : V → List V → Hp → VK → Prop) : Prop :=
  ∀ (pins : List (Addr × Obj)) (s : Shared) (σ : St) (H : Hp) (x : V) (xs : List V) (v : Value) (us : List Value) (Q : VK), Inv X pins σ H s → RelV x v → Vals xs us → r x xs H Q →
    wpAny (model X.prog X.w) X.A (call (.builtin id) (v :: us)) (EP X pins σ Q) X.xe s
section
variable {X : Cx} {a b : Expr} {ta tb : TE} {pos : Pos}
/-- a[b] -/
theorem pe_ix {r : R2} (hr : IxR X r) (ha : PE X a ta) (hb : PE X b tb) (hs : PlainIx b) : PE X (.Subscript a b pos) (tOp r ta tb) := by
  intro pins s σ H Q I h
  exact Subscript_ (binT ha hb I h fun v u s2 x y H2 I2 rx ry q => hr a b pins s2 σ H2 x y v u Q I2 rx ry q (hs _ _))

def rIxL (K : PySem.W.Frag) : R2 := fun x y H Q => ∃ p xs i v, x = .ref p ∧ y = .int i ∧ SqL K H p xs ∧ atI xs i = some v ∧ Q v H
def rIxT (K : PySem.W.Frag) : R2 := fun x y H Q => ∃ p xs i v, x = .ref p ∧ y = .int i ∧ SqT K H p xs ∧ atI xs i = some v ∧ Q v H
def rIxS : R2 := fun x y H Q => ∃ z i c, x = .str z ∧ y = .int i ∧ z.length ≤ sizeLine ∧ atI z.cps.toList i = some c ∧ Q (.str ⟨#[c]⟩) H
theorem ix_list : IxR X (rIxL X.K) := by
  intro value slice pins s σ H x y v u Q I rx ry h hs
  obtain ⟨p, xs, i, z, rfl, rfl, hq, he, q⟩ := h
  cases rx
  obtain ⟨t, rfl⟩ := ry
  obtain ⟨its, r, pl, hz⟩ := I.list hq
  obtain ⟨j, h1, h2, h3, h4, h5⟩ := atI_get he
  obtain ⟨w, ew, rw'⟩ := r.get h2
  have hl := r.length
  have hn := line63
  have fin : EP X pins σ Q w s := ⟨z, H, I, rw', q⟩
  by_cases h0 : 0 ≤ i
  · have hj : i.toNat = j := by
      rw [seqIndex_of h0 h5] at h1
      exact Option.some.inj h1
    exact item_listR pl.isList h0 (by omega) (by rw [hj]; simpa using ew) fin hs
  · have hj : (i + (its.toArray.size : Int)).toNat = j := by
      rw [seqIndex_neg (by omega) h4] at h1
      rw [List.size_toArray, ← hl]
      exact Option.some.inj h1
    exact subscriptTail_builtinR (x := w) pl.isList.typeIs slot_list_getitem.lookup
      (wpAny_getItem_list_neg (Q := fun r s' => r = w ∧ EP X pins σ Q r s') pl.isList (by omega) (by rw [List.size_toArray] <;> omega) (by omega) (by rw [hj]; simpa using ew) ⟨rfl, fin⟩) hs
theorem ix_tup : IxR X (rIxT X.K) := by
  intro value slice pins s σ H x y v u Q I rx ry h hs
  obtain ⟨p, xs, i, z, rfl, rfl, hq, he, q⟩ := h
  cases rx
  obtain ⟨t, rfl⟩ := ry
  obtain ⟨its, r, pl, hz⟩ := I.tuple hq
  obtain ⟨j, h1, h2, h3, h4, h5⟩ := atI_get he
  obtain ⟨w, ew, rw'⟩ := r.get h2
  have hl := r.length
  have hn := line63
  have fin : EP X pins σ Q w s := ⟨z, H, I, rw', q⟩
  exact subscriptTail_builtinR (x := w) pl.typeIs slot_tuple_getitem.lookup
    (getItem_tuple (j := j) (Q := fun r s' => r = w ∧ EP X pins σ Q r s') pl (by omega) (by omega) (by rw [List.size_toArray, ← hl]; exact h1) (by simpa using ew) ⟨rfl, fin⟩) hs
theorem ix_str : IxR X rIxS := by
  intro value slice pins s σ H x y v u Q I rx ry h hs
  obtain ⟨z, i, c, rfl, rfl, hz, he, q⟩ := h
  obtain ⟨t, rfl⟩ := rx
  obtain ⟨t', rfl⟩ := ry
  obtain ⟨j, h1, h2, h3, h4, h5⟩ := atI_get he
  have hl : z.cps.toList.length = z.length := by simp [Str.length]
  rw [hl] at h1 h4 h5
  have hn := line63
  exact tail_any (typeIs_str s z t) slot_str_getitem.lookup (getItem_str (c := c) (by
    have e1 : decide (i < -(2 ^ 63 : Int)) = false := decide_eq_false (by omega)
    have e2 : decide (i ≥ 2 ^ 63) = false := decide_eq_false (by omega)
    rw [e1, e2, Bool.or_false]) (by rw [h1]; simpa using h2) ⟨.str ⟨#[c]⟩, H, I.tok _, ⟨_, rfl⟩, q⟩) hs
/-- list, tuple or str -/
def rIx (K : PySem.W.Frag) : R2 := fun x y H Q => rIxL K x y H Q ∨ rIxT K x y H Q ∨ rIxS x y H Q
/-! ### xs[i] = v, any sign -/
def rSetL : V → V → V → Hp → (Hp → Prop) → Prop := fun o i v H Q => ∃ p xs k j, o = .ref p ∧ i = .int k ∧ H p = some (.lst xs) ∧ ixN xs.length k = some j ∧ Q (upd H p (.lst (xs.set j v)))
/-! ### slices -/
theorem slice_bounds (lo hi : Option Int) (n : Nat) : (sliceBounds lo hi none n).1 = ((HT.sIx n 0 lo : Nat) : Int) ∧ (sliceBounds lo hi none n).2.1 = ((HT.sIx n n hi : Nat) : Int) ∧ (sliceBounds lo hi none n).2.2 = 1 := by
  refine ⟨?_, ?_, rfl⟩
  · cases lo with
    | none => simp [sliceBounds, HT.sIx]
    | some i =>
      simp only [sliceBounds, HT.sIx, Option.getD_none, show (1 : Int) > 0 by decide, if_true]
      by_cases h : i < 0
      · simp only [h, if_true] <;> omega
      · simp only [h, if_false] <;> omega
  · cases hi with
    | none => simp [sliceBounds, HT.sIx]
    | some i =>
      simp only [sliceBounds, HT.sIx, Option.getD_none, show (1 : Int) > 0 by decide, if_true]
      by_cases h : i < 0
      · simp only [h, if_true] <;> omega
      · simp only [h, if_false] <;> omega
theorem slicePick_cut (its : List Value) (lo hi : Option Int) : slicePick its.toArray lo hi none = ((its.drop (HT.sIx its.length 0 lo)).take (HT.sIx its.length its.length hi - HT.sIx its.length 0 lo)).toArray := by
  obtain ⟨h1, h2, h3⟩ := slice_bounds lo hi its.toArray.size
  unfold slicePick
  rw [h1, h2, h3]
  simp only [sliceRange_one, pick_run, List.size_toArray] <;> rfl
/-- xs[lo:hi] of a list: a new list -/
def rSlL (K : PySem.W.Frag) : V → Option Int → Option Int → Hp → VK → Prop := fun x lo hi H Q => ∃ a xs, x = .ref a ∧ SqL K H a xs ∧ ∀ p, H p = none → Q (.ref p) (upd H p (.lst (cutV xs lo hi)))
theorem sl_list : SlR X (rSlL X.K) := by
  intro pins s σ H x v vl vu lo hi sl Q I rx hs pl pu h
  obtain ⟨a, xs, rfl, hx, q⟩ := h
  cases rx
  obtain ⟨its, r, ht, hz⟩ := I.list hx
  have hlen := r.length
  refine ⟨"list", _, slot_list_getitem.lookup, ht.isList.typeIs, ?_⟩
  refine wpAny_getItem_list_slice ht.isList hs pl pu .none (by simp) ?_ (by rw [List.size_toArray] <;> omega)
  rw [slicePick_cut, ← hlen]
  refine ⟨.ref s.heap.objs.size, _, I.laid (t' := s.toks) (o := .lst (cutV xs lo hi)) (fun b ob q => Heap.get?_push_of_some _ q) (Nat.le_refl _) ?_, rfl, q _ (I.hok.fresh (Nat.le_refl _))⟩
  exact ⟨Nat.le_trans (cutV_length xs lo hi) hz, _, 0, (r.drop (HT.sIx xs.length 0 lo)).take (HT.sIx xs.length xs.length hi - HT.sIx xs.length 0 lo), Heap.get?_push_size _ rfl⟩

/-! ### in, not in: flat items -/
def flatV : V → Bool
  | .non => true
  | .bl _ => true
  | .int _ => true
  | .str _ => true
  | _ => false
/-- == of flat values -/
def eqV : V → V → Bool
  | .non, .non => true
  | .bl a, .bl b => a == b
  | .bl a, .int b => (if a then 1 else 0) == b
  | .int a, .bl b => a == (if b then 1 else 0)
  | .int a, .int b => a == b
  | .str a, .str b => a == b
  | _, _ => false
theorem eqAt_V {A : Around} {s : Shared} {y x : V} {u v : Value} (ry : RelV y u) (rx : RelV x v) (fy : flatV y = true) (fx : flatV x = true) : SeqAt.EqAt A s u v (eqV y x) := by
  cases y with
  | non =>
    cases ry
    cases x with
    | non => cases rx; exact SeqAt.EqAt.same _
    | bl b => cases rx; exact SeqAt.EqAt.none_bool b
    | int b => obtain ⟨t, rfl⟩ := rx; exact SeqAt.EqAt.none_int b t
    | str b => obtain ⟨t, rfl⟩ := rx; exact SeqAt.EqAt.none_str b t
    | _ => exact absurd (show false = true from fx) Bool.false_ne_true
  | bl a =>
    cases ry
    cases x with
    | non => cases rx; exact SeqAt.EqAt.bool_none a
    | bl b => cases rx; exact SeqAt.EqAt.bool_bool a b
    | int b => obtain ⟨t, rfl⟩ := rx; exact SeqAt.EqAt.bool_int a b t
    | str b => obtain ⟨t, rfl⟩ := rx; exact SeqAt.EqAt.bool_str a b t
    | _ => exact absurd (show false = true from fx) Bool.false_ne_true
  | int a =>
    obtain ⟨t', rfl⟩ := ry
    cases x with
    | non => cases rx; exact SeqAt.EqAt.int_none a t'
    | bl b => cases rx; exact SeqAt.EqAt.int_bool a t' b
    | int b => obtain ⟨t, rfl⟩ := rx; exact SeqAt.EqAt.int_int a t' b t
    | str b => obtain ⟨t, rfl⟩ := rx; exact SeqAt.EqAt.int_str a t' b t
    | _ => exact absurd (show false = true from fx) Bool.false_ne_true
  | str a =>
    obtain ⟨t', rfl⟩ := ry
    cases x with
    | non => cases rx; exact SeqAt.EqAt.str_none a t'
    | bl b => cases rx; exact SeqAt.EqAt.str_bool a t' b
    | int b => obtain ⟨t, rfl⟩ := rx; exact SeqAt.EqAt.str_int a t' b t
    | str b => obtain ⟨t, rfl⟩ := rx; exact SeqAt.EqAt.str_str a t' b t
    | _ => exact absurd (show false = true from fx) Bool.false_ne_true
  | _ => exact absurd (show false = true from fy) Bool.false_ne_true
/-- the items' answers, read off the values (a value's own answer does not lean on its token) -/
def eqU (x : V) (u : Value) : Bool := match u with
  | .none => eqV .non x
  | .bool b => eqV (.bl b) x
  | .int i _ => eqV (.int i) x
  | .str z _ => eqV (.str z) x
  | _ => false
def inV (x : V) (xs : List V) : Bool := xs.any fun y => eqV y x
/-- x in a list or tuple of flat items -/
def rIn (K : PySem.W.Frag) (neg : Bool) : R2 := fun x y H Q => ∃ p xs, y = .ref p ∧ (SqL K H p xs ∨ SqT K H p xs) ∧ flatV x = true ∧ xs.all flatV = true ∧ Q (.bl (if neg then !inV x xs else inV x xs)) H
/-! ### len, list(x), tuple(x) of any list or tuple that is read -/
theorem call_len_seq : CallR X (.builtin "len") (fun xs H Q => ∃ p ys, xs = [.ref p] ∧ (SqL X.K H p ys ∨ SqT X.K H p ys) ∧ Q (.int ys.length) H) := by
  intro pins s σ H xs us Q I r h
  obtain ⟨p, ys, rfl, hq, q⟩ := h
  obtain ⟨u, rfl, rx⟩ := vals1 r
  cases rx
  have hn := line63
  rcases hq with hq | hq
  · obtain ⟨its, r', pl, hz⟩ := I.list hq
    have hlen := r'.length
    exact Calls.call_len_list pl.isList (by simp only [List.size_toArray] <;> omega) ⟨.int ys.length, H, I.tok _, ⟨s.toks + 1, by rw [List.size_toArray, hlen]⟩, q⟩
  · obtain ⟨its, r', pl, hz⟩ := I.tuple hq
    have hlen := r'.length
    exact len_tuple pl (by simp only [List.size_toArray] <;> omega) ⟨.int ys.length, H, I.tok _, ⟨s.toks + 1, by rw [List.size_toArray, hlen]⟩, q⟩
theorem call_len_str : CallR X (.builtin "len") (fun xs H Q => ∃ z, xs = [.str z] ∧ z.length ≤ sizeLine ∧ Q (.int z.length) H) := by
  intro pins s σ H xs us Q I r h
  obtain ⟨z, rfl, hz, q⟩ := h
  obtain ⟨u, rfl, t, rfl⟩ := vals1 r
  have hn := line63
  exact len_str (by omega) ⟨.int z.length, H, I.tok _, ⟨_, rfl⟩, q⟩
theorem call_list_of : CallR X (.type "list") (fun xs H Q => ∃ p ys, xs = [.ref p] ∧ (SqL X.K H p ys ∨ SqT X.K H p ys) ∧ ∀ l, H l = none → Q (.ref l) (upd H l (.lst ys))) := by
  intro pins s σ H xs us Q I r h
  obtain ⟨p, ys, rfl, hq, q⟩ := h
  obtain ⟨u, rfl, rx⟩ := vals1 r
  cases rx
  have fin : ∀ (its : List Value), Vals ys its → ys.length ≤ sizeLine → ∀ (h' : Heap) (c' : Nat), (∀ b o', s.heap.get? b = some o' → h'.get? b = some o') →
      h'.get? s.heap.objs.size = some { cls := .type "list", dict := none, data := .seq its.toArray c', slots := #[] } → EP X pins σ Q (.ref s.heap.objs.size) { s with heap := h' } := fun its r' hz h' c' kp e =>
    ⟨.ref s.heap.objs.size, _, I.laid (t' := s.toks) kp (Nat.le_refl _) (show ObjOk X.prog X.w _ h' _ (.lst ys) from ⟨hz, its, c', r', e⟩), rfl, q _ (I.hok.fresh (Nat.le_refl _))⟩
  rcases hq with hq | hq
  · obtain ⟨its, r', pl, hz⟩ := I.list hq
    have hlen := r'.length
    obtain ⟨o, ho, hc, n, hd⟩ := pl.isList
    exact call_list_seq p (.inl rfl) ho hc hd (fun h' c' kp e => fin its r' hz h' c' kp e) (by simp only [List.size_toArray] <;> omega)
  · obtain ⟨its, r', pl, hz⟩ := I.tuple hq
    have hlen := r'.length
    obtain ⟨o, ho, hc, n, hd⟩ := pl
    exact call_list_seq p (.inr rfl) ho hc hd (fun h' c' kp e => fin its r' hz h' c' kp e) (by simp only [List.size_toArray] <;> omega)
/-! ### the call of a builtin's method: o.m(..) -/
/-- the value is of that builtin type -/
def tyV (K : PySem.W.Frag) (T : String) (x : V) (H : Hp) : Prop := match x with
  | .str _ => T = "str"
  | .int _ => T = "int"
  | .ref p => (T = "list" ∧ ∃ xs, SqL K H p xs) ∨ (T = "tuple" ∧ ∃ o, K.lookup p = some o ∧ o.cls = .type "tuple" ∧ o.dict = none) ∨
      (T = "dict" ∧ ((∃ kvs, H p = some (.dK kvs)) ∨ ∃ kvs, H p = some (.dT kvs))) ∨ (T = "set" ∧ ∃ S n, H p = some (.set S n))
  | _ => False
theorem tyV_is {pins : List (Addr × Obj)} {σ : St} {H : Hp} {s : Shared} {T : String} {x : V} {v : Value} (I : Inv X pins σ H s) (r : RelV x v) (ty : tyV X.K T x H) :
    s.TypeIs v T ∧ ∀ a, v = .ref a → ∃ ob, s.heap.get? a = some ob ∧ ob.dict = none := by
  cases x with
  | str z =>
    obtain ⟨t, rfl⟩ := r
    cases (show T = "str" from ty)
    exact ⟨typeIs_str s z t, fun _ e => nomatch e⟩
  | int i =>
    obtain ⟨t, rfl⟩ := r
    cases (show T = "int" from ty)
    exact ⟨typeIs_int s i t, fun _ e => nomatch e⟩
  | ref p =>
    cases r
    rcases ty with ⟨rfl, xs, hq⟩ | ⟨rfl, o, hk, hc, hd⟩ | ⟨rfl, hk⟩ | ⟨rfl, S, n, hk⟩
    · obtain ⟨its, _, pl, _⟩ := I.list hq
      refine ⟨pl.isList.typeIs, fun a e => ?_⟩
      cases e
      obtain ⟨o, n, e, c, hd, _⟩ := pl
      exact ⟨o, e, hd⟩
    · refine ⟨⟨o, I.kIn p o hk, hc⟩, fun a e => ?_⟩
      cases e
      exact ⟨o, I.kIn _ o hk, hd⟩
    · have z : ∃ o, s.heap.get? p = some o ∧ o.ExactDict := by
        rcases hk with ⟨kvs, hk⟩ | ⟨kvs, hk⟩
        · obtain ⟨_, _, _, _, o, _, _, e, ex, _⟩ := I.hok p _ hk
          exact ⟨o, e, ex⟩
        · obtain ⟨_, _, _, _, o, _, _, e, ex, _⟩ := I.hok p _ hk
          exact ⟨o, e, ex⟩
      obtain ⟨o, e, ex⟩ := z
      refine ⟨⟨o, e, ex.1⟩, fun a e2 => ?_⟩
      cases e2
      exact ⟨o, e, ex.2.1⟩
    · obtain ⟨o, _, _, _, e, ex, _⟩ := I.hok p _ hk
      refine ⟨⟨o, e, ex.1⟩, fun a e2 => ?_⟩
      cases e2
      exact ⟨o, e, ex.2.1⟩
  | _ => exact False.elim ty
def tBM0 (K : PySem.W.Frag) (T : String) (r : V → List V → Hp → VK → Prop) (to : TE) : TE := fun σ H Q => to σ H fun x H1 => tyV K T x H1 ∧ r x [] H1 Q
def tBM (K : PySem.W.Frag) (T : String) (r : V → List V → Hp → VK → Prop) (to : TE) (t : TA) : TE := fun σ H Q => to σ H fun x H1 => tyV K T x H1 ∧ t σ H1 fun xs H2 => r x xs H2 Q
variable {o e : Expr} {es : List Expr} {to : TE} {t : TA} {name : Str} {apos cpos : Pos} {T id : String} {r : V → List V → Hp → VK → Prop}
theorem pe_bm (pa : PlainAttrs T) (slot : Slot T name id) (hty : typeOf (.builtin id) = pure (.type "method_descriptor")) (hm : MtR X id r) (ho : PE X o to) (ha : PA X (e :: es) t)
    (hbase : attributeBase o name X.env (eval o X.env) = eval o X.env := by rfl)
    (hfew : ((backTo cpos (starEach (e :: es) X.env)).all (fun x => !x.1) && (backToKw cpos (keywordEach [] X.env)).all (fun x => x.1.isSome)
      && decide ((e :: es).length + ([] : List Keyword).length + (if ([] : List Keyword).isEmpty then 0 else 1) < 30)) = true := by rfl)
    (hline : (apos.endLine == cpos.line) = true := by rfl) (hs : starEach (e :: es) X.env = (false, eval e X.env) :: starEach es X.env := by rfl) (hplain : (backTo cpos (starEach es X.env)).any (·.1) = false := by rfl) :
    PE X (.Call (.Attribute o name apos) (e :: es) [] cpos) (tBM X.K T r to t) := by
  intro pins s σ H Q I h
  refine wpAny_Call_method_late hbase hfew hline rfl (thn (ho pins s σ H _ I h) fun v s1 ⟨x, H1, I1, r1, ty, q1⟩ => ?_)
  obtain ⟨h1, h2⟩ := tyV_is I1 r1 ty
  refine ⟨T, id, pa, slot, hty, h1, h2, ?_⟩
  have hA := ha cpos pins s1 σ H1 _ I1 q1
  rw [hs] at hA ⊢
  refine Calls.callWith_builtin (by show (false || (backTo cpos (starEach es X.env)).any (·.1)) = false; rw [hplain] <;> rfl) (Calls.evalArgs_plain ?_)
  exact thn hA fun us s2 ⟨vs, H2, I2, r2, q2⟩ => hm pins s2 σ H2 x vs v us Q I2 r1 r2 q2
/- xs.append(e), list.index on a module's tuple .. are MtR facts of 06m -/
end
end L2

namespace L2
open PySem PySem.Spec PyProof.Rows

def MtM (X : Cx) (id : String) (r : V → List V → Hp → VK → Prop) : Prop :=
  ∀ (pins : List (Addr × Obj)) (s : Shared) (σ : St) (H : Hp) (x : V) (xs : List V) (v : Value) (us : List Value) (Q : VK), Inv X pins σ H s → RelV x v → Vals xs us → r x xs H Q →
    wpAny (model X.prog X.w) X.A (call (.builtin id) (v :: us)) (EP X pins σ Q) X.xe s

/-! ### lists of values -/
theorem Vals.one : ∀ {x : V} {us : List Value}, Vals [x] us → ∃ u, us = [u] ∧ RelV x u
  | _, _, .cons r .nil => ⟨_, rfl, r⟩
theorem Vals.two : ∀ {x y : V} {us : List Value}, Vals [x, y] us → ∃ u v, us = [u, v] ∧ RelV x u ∧ RelV y v
  | _, _, _, .cons r (.cons q .nil) => ⟨_, _, rfl, r, q⟩
section
variable {X : Cx} {pins : List (Addr × Obj)} {σ : St} {H : Hp} {s : Shared} {l b : Addr} {xs ys zs : List V}

/-! ### the two steps: a tracked list is rewritten, a new list is laid -/
theorem Inv.lset {its its' : List Value} {n : Nat} {f : Array Value → Array Value} {t' : Nat} (I : Inv X pins σ H s) (hH : H l = some (.lst xs))
    (e : s.heap.get? l = some { cls := .type "list", data := .seq its.toArray n }) (hf : f its.toArray = its'.toArray) (hv : Vals ys its') (hz : ys.length ≤ sizeLine) :
    Inv X pins σ (upd H l (.lst ys)) { s with heap := s.heap.update l (Obj.mapSeq f), toks := t' } := by
  have q := PySem.IsL.update e f
  rw [hf] at q
  refine I.write (x := l) (e := l) (by rw [hH]; exact trivial) (.inl rfl) (fun b' u hb hu => (Heap.get?_update_other s.heap (Obj.mapSeq f) (Ne.symm hb)).trans hu) ⟨_, q⟩ ?_
  exact ⟨hz, its', _, hv, q⟩
theorem Inv.lnew {its : List Value} {t' : Nat} (I : Inv X pins σ H s) (hv : Vals ys its) (hz : ys.length ≤ sizeLine) :
    Inv X pins σ (upd H s.heap.objs.size (.lst ys)) { s with heap := s.heap.push { cls := .type "list", data := .seq its.toArray }, toks := t' } :=
  I.laid (fun _ _ q => Heap.get?_push_of_some _ q) (Nat.le_refl _) ⟨hz, its, 0, hv, Heap.get?_push_size _ rfl⟩
theorem Inv.fresh (I : Inv X pins σ H s) : H s.heap.objs.size = none := I.hok.fresh (Nat.le_refl _)
theorem Inv.lstM (I : Inv X pins σ H s) (hH : H l = some (.lst xs)) : xs.length ≤ sizeLine ∧ ∃ (its : List Value) (n : Nat), Vals xs its ∧ xs.length = its.length ∧ s.heap.get? l = some { cls := .type "list", data := .seq its.toArray n } := by
  obtain ⟨z, its, n, r, e⟩ := I.hok l _ hH
  exact ⟨z, its, n, r, r.length, e⟩

theorem notLongL {n : Nat} (h : n ≤ sizeLine) : Builtin.List.listTooLong n = false := by
  unfold Builtin.List.listTooLong
  exact decide_eq_false (by omega)
end

section
variable {X : Cx}

/-! ### methods -/
def rAppend : V → List V → Hp → VK → Prop := fun x vs H Q => ∃ l xs y, x = .ref l ∧ vs = [y] ∧ H l = some (.lst xs) ∧ xs.length < sizeLine ∧ Q .non (upd H l (.lst (xs ++ [y])))
theorem mt_append : MtM X "list.append" rAppend := by
  intro pins s σ H x vs v us Q I rx rv h
  obtain ⟨l, xs, y, rfl, rfl, hH, hz, q⟩ := h
  cases rx
  obtain ⟨u, rfl, ru⟩ := rv.one
  obtain ⟨z, its, n, r, hl, e⟩ := I.lstM hH
  refine call_meets F.slot_list_append ⟨_, e, rfl⟩ F.entry_list_append (F.args_list_append_2 _ _) (PySem.list_append l its.toArray n u (by rw [List.size_toArray]; omega)) ⟨e, ?_⟩
  refine ⟨.non, _, I.lset (its' := its ++ [u]) hH e (by simp) (r.append (.cons ru .nil)) ?_, rfl, q⟩
  rw [List.length_append, List.length_singleton]
  omega

def rExtend : V → List V → Hp → VK → Prop := fun x vs H Q => ∃ l b xs zs, x = .ref l ∧ vs = [.ref b] ∧ H l = some (.lst xs) ∧ H b = some (.lst zs) ∧ xs.length + zs.length ≤ sizeLine ∧ Q .non (upd H l (.lst (xs ++ zs)))
theorem mt_extend : MtM X "list.extend" rExtend := by
  intro pins s σ H x vs v us Q I rx rv h
  obtain ⟨l, b, xs, zs, rfl, rfl, hH, hB, hz, q⟩ := h
  cases rx
  obtain ⟨u, rfl, ru⟩ := rv.one
  cases ru
  obtain ⟨z, its, n, r, hl, e⟩ := I.lstM hH
  obtain ⟨z2, its2, n2, r2, hl2, e2⟩ := I.lstM hB
  have hsz : its.toArray.size + its2.toArray.size ≤ sizeLine := by rw [List.size_toArray, List.size_toArray]; omega
  have hlong : ¬ (!its.toArray.isEmpty && Builtin.List.listTooLong (its.toArray.size + its2.toArray.size)) = true := by
    rw [notLongL hsz, Bool.and_false]
    exact Bool.false_ne_true
  refine call_meets F.slot_list_extend ⟨_, e, rfl⟩ F.entry_list_extend (F.args_list_extend_2 _ _)
    (AutoSeq1.list_extend_list_list_0 l its.toArray n b its2.toArray n2 hlong (by rw [List.size_toArray]; omega) (by omega)) ⟨e, e2, ?_⟩
  refine ⟨.non, _, I.lset (its' := its ++ its2) hH e (by simp) (r.append r2) ?_, rfl, q⟩
  rw [List.length_append]
  omega

def rPop : V → List V → Hp → VK → Prop := fun x vs H Q => ∃ l xs y, x = .ref l ∧ vs = [] ∧ H l = some (.lst xs) ∧ xs[xs.length - 1]? = some y ∧ Q y (upd H l (.lst xs.dropLast))
def rPopAt : V → List V → Hp → VK → Prop := fun x vs H Q => ∃ l xs i k y, x = .ref l ∧ vs = [.int i] ∧ H l = some (.lst xs) ∧ -(2 ^ 63) ≤ i ∧ i < 2 ^ 63 ∧ seqIndex? i xs.length = some k ∧ xs[k]? = some y ∧ Q y (upd H l (.lst (xs.eraseIdx k)))
def rReverse : V → List V → Hp → VK → Prop := fun x vs H Q => ∃ l xs, x = .ref l ∧ vs = [] ∧ H l = some (.lst xs) ∧ Q .non (upd H l (.lst xs.reverse))
def rClear : V → List V → Hp → VK → Prop := fun x vs H Q => ∃ l xs, x = .ref l ∧ vs = [] ∧ H l = some (.lst xs) ∧ Q .non (upd H l (.lst []))
/-! ### list + list, list += list, list * int -/
def rCat : R2 := fun x y H Q => ∃ l b xs zs, x = .ref l ∧ y = .ref b ∧ H l = some (.lst xs) ∧ H b = some (.lst zs) ∧ xs.length + zs.length ≤ sizeLine ∧ ∀ p, H p = none → Q (.ref p) (upd H p (.lst (xs ++ zs)))
theorem op_cat : OpR X (binaryOp .Add) rCat := by
  intro pins s σ H x y v u Q I rx ry h
  obtain ⟨l, b, xs, zs, rfl, rfl, hH, hB, hz, q⟩ := h
  cases rx
  cases ry
  obtain ⟨z, its, n, r, hl, e⟩ := I.lstM hH
  obtain ⟨z2, its2, n2, r2, hl2, e2⟩ := I.lstM hB
  refine PySem.P.add_list e e2 ?_ (by rw [List.size_toArray, List.size_toArray]; omega)
  have ea : its.toArray ++ its2.toArray = (its ++ its2).toArray := by simp
  rw [ea]
  exact ⟨.ref _, _, I.lnew (t' := s.toks) (r.append r2) (by rw [List.length_append]; omega), rfl, q _ I.fresh⟩
/-- a list times an int (a negative one is nothing) -/
def rRep : R2 := fun x y H Q => ∃ l k xs, x = .ref l ∧ y = .int k ∧ H l = some (.lst xs) ∧ -(2 ^ 63) ≤ k ∧ k < 2 ^ 63 ∧ xs.length * k.toNat ≤ sizeLine ∧
  ∀ p, H p = none → Q (.ref p) (upd H p (.lst (List.replicate k.toNat xs).flatten))
/-! ### del xs[i] -/
end

/-! ### xs[a:b] = ys -/
section
variable {prog : Program} {w : World} {A : Around} {E : Value → Shared → Prop} {s : Shared}
end

section
variable {X : Cx}
end
end L2

namespace Att
open PySem PySem.W PySem.Calls PyProof.Rows

/-! ### the script -/
theorem ints_of_wellAll {P : Params} {h : Heap} : ∀ (ns : List Int) (vs : List Value), WellAll P h vs (ns.map WData.int) → IntsAre vs ns := by
  intro ns
  induction ns with
  | nil =>
    intro vs w
    rw [List.map_nil] at w
    cases w
    exact .nil
  | cons n ns ih =>
    intro vs w
    rw [List.map_cons] at w
    cases w with
    | cons a b =>
      cases a
      exact .cons _ _ (ih _ b)

theorem script_of {l : OpenLaw} {n : Nat} (hn : l.most = some n) {P : Params} {h : Heap} {args : List WData} {vals : List Value}
    (hpre : l.row.toRowW.claim.pre args = true) (hwl : WellAll P h vals args) :
    ∃ a vs ns, vals = [Value.ref a] ∧ args = [WData.list (ns.map WData.int)] ∧ h.get? a = some { cls := .type "list", data := .seq vs.toArray } ∧ IntsAre vs ns ∧ ns.length ≤ n := by
  have hsh : WShape.hasAll [] args [.list .int] = true := (pre_splitW hpre).1
  have hc : l.pre.holds [] { args := args } = true := (pre_splitW hpre).2
  obtain ⟨d, r, rfl, h1, h2⟩ := hasAllW_cons hsh
  obtain rfl := hasAllW_nil h2
  obtain ⟨xs, rfl, h3⟩ := hasW_list h1
  obtain ⟨ns, rfl⟩ := items_int h3
  have hlen : ns.length ≤ n := by
    unfold OpenLaw.pre at hc
    have h4 : (WTm.not (.lt (.lit (.int (n : Int))) (.len (.arg 0)))).holds [] { args := [.list (ns.map .int)] } = true := by
      have h4 := (holds_andW hc).1
      rw [hn] at h4
      exact h4
    have h5 := condW_of h4 (w_not (w_lt w_lit (w_len_list (w_arg rfl))))
    rw [List.length_map] at h5
    refine Nat.le_of_not_lt fun q => ?_
    have q' : (n : Int) < ((ns.length : Nat) : Int) := by omega
    first
      | (rw [decide_eq_true q'] at h5; exact absurd h5 (by decide))
      | (simp at h5; omega)
  cases hwl with
  | cons w1 w2 =>
    cases w2
    cases w1 with
    | list ho hall => exact ⟨_, _, ns, rfl, rfl, ho, ints_of_wellAll ns _ hall, hlen⟩

theorem post_true (l : OpenLaw) (args : List WData) : l.row.toRowW.claim.post args (.bool true) args = true :=
  postW_of (r := l.row.toRowW) (X := (true == true))
    (show WShape.has [] (.bool true) .bool = true by first | rfl | decide | simp [WShape.has, WShape.arms, WShape.armsAll])
    (show (WTm.eq .res (.lit (.bool true))).value [] { args := args, res := some (.bool true), after := args } = some (.bool (true == true)) from w_eq_bool (w_res rfl) w_lit) rfl

/-! ### the attachment: holds_open's last premise (the goal 'hc' behind k_head) from a wpAny of the law's body -/
/-- the same from a codeAny of the CALL (for a layer whose function contracts speak of calls) -/
theorem attach_call {l : OpenLaw} {n : Nat} {q : Program} {loose : List Str} {XP : (Str → Option Value) → Heap → Prop} {YP : World → Heap → Prop} {d : DefRec}
    (hn : l.most = some n) (hdf : d.params.defaults = [])
    (call : ∀ (w : World) (s₀ s₁ : Shared) (mg mb : Str → Option Value) (fa : Addr) (o : Obj) (pm cd doc : Value) (a : Addr) (vs : List Value) (ns : List Int),
      Ground q loose [] XP w s₀ mg mb s₁.heap → YP w s₁.heap →
      s₁.heap.get? fa = some o → o.data = .func (docDef d.name d.params d.body d.scope pm cd doc) → s₁.heap.CodeRec cd d.name → mg d.name = some (.ref fa) →
      s₁.heap.get? a = some { cls := .type "list", data := .seq vs.toArray } → IntsAre vs ns → ns.length ≤ n → s₁.gens = #[] →
      codeAny (model l.prog w) callerA (.call (.ref fa) ⟨[.ref a], []⟩) (fun r s' => r = .ok (.ret (.bool true)) ∧ OldK s₁.heap s'.heap ∧ s'.os = s₁.os ∧ AllBare s'.gens) s₁) :
    WalkO q loose XP YP l.row.toRowW d [] (fun f vs => PySem.call f vs) := by
  intro w s₀ s₁ mg mb G Y fa o pm cd doc dV kV ho hd hcd hD hmg hg args vals as hpre hlay hrd hwl hlo
  obtain rfl : dV = .none := Dflts.none hD hdf
  obtain rfl : kV = .none := Dflts.noKw hD
  obtain ⟨a, vs, ns, rfl, rfl, hobj, hints, hlen⟩ := script_of hn hpre hwl
  refine enter_call (codeAny_mono (call w s₀ s₁ mg mb fa o pm cd doc a vs ns G Y ho (fd_plain hd) hcd hmg hobj hints hlen hg) fun r s' hq => ?_)
  obtain ⟨rfl, h2, h3, h4⟩ := hq
  exact ⟨.inl ⟨.bool true, .bool true, [], rfl, fun _ => rfl, .bool true, post_true l _, fun _ => ⟨List.Pairwise.nil, fun _ hm => (nomatch hm)⟩⟩, h2, h3, h4⟩

/-! ### rules over ANY heap (no ledger) from facts about the written part K: the library's own take a ledger (News) for what they write -/
section
variable {prog : Program} {w : World} {A : Around} {E : Value → Shared → Prop} {s : Shared} {K : Frag}

/-! the whole heap as the ledger: makes every rule that writes through a ledger a rule over any heap -/
def noObjs (h : Heap) : Heap := { h with objs := #[] }
def ledger (h : Heap) (L d : Addr) : List (Addr × Obj) := (List.range h.objs.size).filterMap fun a => if a = L ∨ a = d then none else (h.get? a).map fun o => (a, o)
end
end Att

namespace L2
open PySem PySem.Spec PyProof.Rows

theorem vals_ints : ∀ {vs : List Value} {ns : List Int}, IntsAre vs ns → Vals (ns.map V.int) vs
  | _, _, .nil => .nil
  | _, _, .cons n t h => .cons ⟨t, rfl⟩ (vals_ints h)

/-- nothing is tracked but the script, known to the object (or it is an object of the module) -/
def Only (H : Hp) : Prop := ∀ b, H b = none ∨ ∃ o xs, H b = some (.frz o (.lst xs))

/-- THE HEAD: the law's promise, at the heap behind the top. F, the promise of the law's def, may use that base is part of the heap (so K.In base, base.Ns mainGlobals mg stand in Mod) -/
theorem law_call {P : Program} {w : World} {K : PySem.W.Frag} {mg mb : Str → Option Value} {CX : CXT} {k : Nat} {fa a : Addr} {fd : FuncData} {x : Str} {sp : Sp} {s₁ : Shared} {vs : List Value} {ns : List Int}
    (KX : K.In s₁.heap) (hns : s₁.heap.Ns mainGlobals mg) (hb : s₁.heap.Ns builtinsNs mb) (hbb : ∀ x : Str, x ≠ "__name__" → mb x = bootBuiltins x) (hlim : s₁.heap.NoLimit) (hg : s₁.gens = #[])
    (ha : s₁.heap.get? a = some { cls := .type "list", data := .seq vs.toArray }) (hi : IntsAre vs ns) (hl : ns.length ≤ sizeLine) (hr : Room k callerA)
    (F : ∀ base : Heap, K.In base → base.Ns mainGlobals mg → FnOk P w K mg base CX k fa fd [x] sp) (hbind : ∀ (s : Shared) (u : Value), BindsTo s fd ⟨[u], []⟩ [(x, u)])
    (hsp : ∀ H : Hp, Only H → SqL K H a (ns.map V.int) → sp [.ref a] H (fun v _ => v = .bl true) fun _ _ _ => False)
    (hCX : ∀ H e s', CX [] H s₁ (fun _ _ _ => False) e s' → False) :
    codeAny (model P w) callerA (.call (.ref fa) ⟨[.ref a], []⟩) (fun r s' => r = .ok (.ret (.bool true)) ∧ OldK s₁.heap s'.heap ∧ s'.os = s₁.os ∧ AllBare s'.gens) s₁ := by
  have rv := vals_ints hi
  have lenV := hi.length
  -- from an abstract heap in which nothing but the script may be tracked
  have core : ∀ H : Hp, Only H → SqL K H a (ns.map V.int) → HOk P w H s₁.heap → (∀ b, H b ≠ none → b = a) → (H a ≠ none → K.lookup a = none) →
      codeAny (model P w) callerA (.call (.ref fa) ⟨[.ref a], []⟩) (fun r s' => r = .ok (.ret (.bool true)) ∧ OldK s₁.heap s'.heap ∧ s'.os = s₁.os ∧ AllBare s'.gens) s₁ := by
    intro H hO hS hok hA hK
    have base_of : ∀ {b : Addr} {o : Obj}, s₁.heap.get? b = some o → H b = none → (hidT s₁.heap H).get? b = some o := fun e n => hidT_get e n
    have noA : ∀ {b : Addr} {o : Obj} {es : Array DictEntry} {ep : Nat}, s₁.heap.get? b = some o → o.data = .dict es ep → H b = none := fun {b o es ep} e d => by
      cases q : H b with
      | none => rfl
      | some u =>
        have e' : b = a := hA b (by rw [q]; simp)
        subst e'
        rw [ha] at e; cases e
        have d' : Data.seq vs.toArray _ = Data.dict es ep := d
        cases d'
    have nsK : ∀ {b : Addr} {m : Str → Option Value}, s₁.heap.Ns b m → (hidT s₁.heap H).Ns b m := fun {b m} ⟨o, es, ep, e, d, r⟩ => ⟨o, es, ep, base_of e (noA e d), d, r⟩
    have hKb : K.In (hidT s₁.heap H) := fun b o e => base_of (KX b o e) (by
      cases q : H b with
      | none => rfl
      | some u =>
        have e' : b = a := hA b (by rw [q]; simp)
        subst e'
        rw [hK (by rw [q]; simp)] at e; cases e)
    have hM : Mod K mg (hidT s₁.heap H) := ⟨hKb, nsK hns, ⟨mb, nsK hb, hbb⟩, let ⟨mc, h1, h2⟩ := hlim; ⟨mc, nsK h1, h2⟩⟩
    have e0 : Env0 P w K mg (hidT s₁.heap H) callerA [] s₁ H := ⟨rfl, hM, fun b o e => of_hidT e, Nat.le_of_eq (hidT_size _ _), trivial, fun b hb => absurd (show b ∈ ([] : List Addr) from hb) (by simp), hok, .of_eq hg⟩
    refine codeAny_mono ((F _ hKb (nsK hns)).run callerA [] s₁ H ⟨[.ref a], []⟩ [.ref a] [.ref a] _ _ hr e0 (hbind s₁ (.ref a)) (.cons rfl .nil) (hsp H hO hS)) fun r s' h => ?_
    cases r with
    | error e => exact (hCX H e s' h).elim
    | ok fl =>
      cases fl with
      | next => exact False.elim h
      | brk => exact False.elim h
      | cont => exact False.elim h
      | ret u =>
        obtain ⟨v, H', os, bare, un, hok', r', q⟩ := h
        have q' : v = .bl true := q
        subst q'
        obtain rfl : u = Value.bool true := r'
        refine ⟨rfl, OldK.of_keep fun b o e => ?_, os, bare⟩
        cases q : H b with
        | none => exact un.keep b o e q (by intro z; exact absurd (show b ∈ ([] : List Addr) from z) (by simp)) (by simp)
        | some u =>
          rcases hO b with z | ⟨ob, xs, z⟩
          · rw [q] at z; cases z
          · have z2 := un.frzs b ob _ z
            obtain ⟨e1, _⟩ := hok b _ z
            obtain ⟨e2, _⟩ := hok' b _ z2
            rw [e] at e1; cases e1
            exact e2
  cases hk : K.lookup a with
  | some o =>
    -- the script is one of the module's own objects
    have e := KX a o hk
    rw [ha] at e
    cases e
    refine core (fun _ => none) (fun _ => .inl rfl) (.inr ⟨_, vs.toArray, _, hk, rfl, rfl, rfl, by rw [List.size_toArray, lenV]; exact hl, by simpa using rv⟩) (fun b u z => by have z' : (none : Option HO) = some u := z; cases z') (fun b z => absurd rfl z) fun z => absurd rfl z
  | none =>
    refine core (fun b => if b = a then some (.frz { cls := .type "list", data := .seq vs.toArray } (.lst (ns.map V.int))) else none) (fun b => ?_) (.inl (.inr ⟨{ cls := .type "list", data := .seq vs.toArray }, if_pos rfl⟩)) (fun b u z => ?_) (fun b z => ?_) fun _ => hk
    · by_cases hb : b = a
      · exact .inr ⟨_, _, if_pos hb⟩
      · exact .inl (if_neg hb)
    · by_cases hb : b = a
      · have z' := (if_pos hb).symm.trans z
        cases z'
        subst hb
        exact ⟨ha, by rw [List.length_map]; exact hl, vs, _, rv, ha⟩
      · have z' := (if_neg hb).symm.trans z
        cases z'
    · by_cases hb : b = a
      · exact hb
      · exact absurd (if_neg hb) z
end L2

namespace L2
open PySem PySem.Spec PyProof.Rows

abbrev KOf {K : PySem.W.Frag} {h : Heap} (_ : K.In h) : PySem.W.Frag := K

/-- the goal that k_head leaves (case hc), from the law's promise. F gives the function object fd (K's own) once, then the promise over every base -/
theorem walk_of {l : PySem.W.OpenLaw} {n k : Nat} {q : Program} {loose : List Str} {XP : (Str → Option Value) → Heap → Prop} {YP : World → Heap → Prop} {d : DefRec} {K : Params → PySem.W.Frag} {CX : World → CXT} {sp : World → Sp} {x : Str}
    (hn : l.most = some n) (hn2 : n ≤ sizeLine) (hdf : d.params.defaults = []) (hr : Room k callerA)
    (hY : ∀ (w : World) (h : Heap), YP w h → (K w.params).In h)
    (F : ∀ (w : World) (mg : Str → Option Value) (fa : Addr) (h : Heap), (K w.params).In h → h.Ns mainGlobals mg → mg d.name = some (.ref fa) →
      ∃ fd : FuncData, (∀ (s : Shared) (u : Value), BindsTo s fd ⟨[u], []⟩ [(x, u)]) ∧
        ∀ base : Heap, (K w.params).In base → base.Ns mainGlobals mg → FnOk l.prog w (K w.params) mg base (CX w) k fa fd [x] (sp w))
    (hsp : ∀ (w : World) (H : Hp) (a : Addr) (ns : List Int), ns.length ≤ n → Only H → SqL (K w.params) H a (ns.map V.int) → sp w [.ref a] H (fun v _ => v = .bl true) fun _ _ _ => False)
    (hCX : ∀ (w : World) (H : Hp) (s : Shared) (e : Value) (s' : Shared), CX w [] H s (fun _ _ _ => False) e s' → False) :
    PySem.W.WalkO q loose XP YP l.row.toRowW d [] (fun f vs => PySem.call f vs) := by
  refine Att.attach_call hn hdf fun w s₀ s₁ mg mb fa o pm cd doc a vs ns G Y ho hd hcd hmg hobj hints hlen hg => ?_
  have KX := hY w _ Y
  obtain ⟨fd, hb, hF⟩ := F w mg fa _ KX G.T.g hmg
  exact law_call KX G.T.g G.T.b G.T.builtins G.T.nolimit hg hobj hints (Nat.le_trans hlen hn2) hr hF hb (fun H hO hS => hsp w H a ns hlen hO hS) fun H e s' => hCX w H s₁ e s'
end L2

/- THE LAST THEOREM (shape; LID, My.* are yours):
   My.Adr: a structure of the addresses that your layer names (classes, functions); My.Txt K t: a structure (Prop) of the equations over K;
   My.txt_mk : {K} {implicit addresses ..} (e1 : nsIn K mainGlobals "law" = some (some (.ref f))) (e2 : K.lookup f = some ⟨oc, od, .func (fnOf "law" "law" params body scope dV kV doc pm an cdv ct), sl⟩) (e3 : codeIn K cdv "law" = true) .. : ∃ t, My.Txt K t

set_option maxRecDepth 100000 in
set_option maxHeartbeats 0 in
theorem PySem.Challenge.cw_LID_holds : PySem.Challenge.rw_LID.Holds := by
  w_on; o_law; k_head; (case hw => w_witness2)
  k_fill
  refine L2.walk_of (l := PySem.Challenge.rw_LID) (n := 63) (k := 40) (x := "script") (CX := fun w => ..) (sp := fun _ => My.sp_law) rfl (by decide) rfl ⟨rfl, by decide, by decide⟩ (fun w h Y => PySem.W.kIn_of Y) ?F ?S ?C
  case F =>
    intro w mg fa h KX G hmg
    have T : ∃ t, My.Txt (L2.KOf KX) t := by
      dsimp only [L2.KOf]                          -- K must stand as «<heap const> w.params» for k_is
      refine' My.txt_mk ?e1 ?e2 ?e3 ..
      (case e1 => PySem.W.k_is)                    -- in the order: a name -> its address -> its object -> its parts
      (case e2 => PySem.W.k_is)
      ..
    obtain ⟨t, T⟩ := T
    have e0 := hmg.symm.trans (PySem.W.mg_of KX G T.law)
    cases e0                                       -- fa is the law's own address
    exact ⟨_, fun s u => .of_eq rfl, fun base kb nb => My.law_fn T kb nb⟩     -- if «.of_eq rfl» comes too early: refine' ⟨_, ?b, fun base kb nb => My.law_fn T kb nb⟩; exact fun s u => .of_eq rfl
  case S => exact fun w H a ns hl hO hS => ..
  case C => exact ..
(the tactic k_is has no namespace: write k_is) -/

/-! SHORT WORDS over the layer: a def of the text, its body, what a loop and a test want. -/
namespace L2
open PySem PySem.Spec PyProof.Rows

/-! ### the text by places -/
/-- the j-th statement of a class's body -/
def inClass (s : Stmt) (j : Nat) : Stmt := match s with
  | .ClassDef _ _ _ body _ _ _ _ _ _ _ => body.getD j (.Pass ⟨0, 0, 0, 0⟩)
  | _ => .Pass ⟨0, 0, 0, 0⟩
def defArgs (s : Stmt) : Arguments := match s with
  | .FunctionDef _ a _ _ _ _ _ _ _ _ => a
  | _ => { posonlyargs := [], args := [], vararg := none, kwonlyargs := [], kw_defaults := [], kwarg := none, defaults := [] }
def defBody (s : Stmt) : List Stmt := match s with
  | .FunctionDef _ _ b _ _ _ _ _ _ _ => b
  | _ => []
def defScope (s : Stmt) : Scope := match s with
  | .FunctionDef _ _ _ _ _ _ sc _ _ _ => sc
  | _ => { kind := .function, names := [], isGenerator := false, isCoroutine := false }

/-! ### no exception leaves a def -/
abbrev CX0 : CXT := fun _ _ _ _ _ _ => False
abbrev E0 : XK := fun _ _ _ => False
theorem pass0 {X : Cx} : Passes CX0 X E0 := fun _ _ _ _ _ _ _ h => h.elim

/-! ### a def (or method) of the text as it stands behind the top -/
structure Fun (K : PySem.W.Frag) (x qual : Str) (st : Stmt) (f : Addr) (fd : FuncData) : Prop where
  ex : ∃ (oc : Value) (od : Option Addr) (kV doc pm : Value) (an : Option Addr) (cdv ct : Value) (osl : Array (Option Value)),
    fd = PySem.W.fnOf x qual (defArgs st) (defBody st) (defScope st) .none kV doc pm an cdv ct ∧ K.lookup f = some ⟨oc, od, .func fd, osl⟩ ∧ PySem.W.codeIn K cdv qual = true
  kp : PySem.W.keepIn K (.ref f) = true
section
variable {P : Program} {w : World} {K : PySem.W.Frag} {mg : Str → Option Value} {base : Heap}
/-- THE RULE for a def: its body as a term of rules, and the reading of that term -/
theorem Fun.ok {x qual : Str} {st : Stmt} {f : Addr} {fd : FuncData} {N ps : List Str} {k : Nat} {sp : Sp} (F : Fun K x qual st f fd) (S : FnScope N ps (defScope st)) (len : ∀ vs H Q E, sp vs H Q E → vs.length = ps.length)
    (hbody : ∀ (cdv : Value) (A : Around) (outer : List Env) (s : Shared) (H : Hp) (vs : List V) (Q : VK) (E : XK), Room k (A.deeper (envOfC qual (defScope st) s.heap.objs.size f cdv)) → sp vs H Q E →
      ∃ t, PSs (cxOf CX0 P w K mg base N qual (defScope st) f cdv A outer s H E).nox (defBody st) t ∧ t { nx := fun _ H' => Q .non H', rt := Q } (start N vs) H) : FnOk P w K mg base CX0 (k + 1) f fd ps sp := by
  obtain ⟨oc, od, kV, doc, pm, an, cdv, ct, osl, rfl, lk, hcd⟩ := F.ex
  refine fn_of lk hcd S len fun A outer s H vs Q E hr hsp => ?_
  obtain ⟨t, h, q⟩ := hbody cdv A outer s H vs Q E hr hsp
  exact ⟨t, h.nox, q⟩
/-- how its arguments bind (no defaults): h is «fun _ _ _ _ _ _ us hl => match us, hl with | [_, _], _ => rfl», one _ a parameter -/
theorem Fun.binds {x qual : Str} {st : Stmt} {f : Addr} {fd : FuncData} {ps : List Str} (F : Fun K x qual st f fd)
    (h : ∀ (kV doc pm : Value) (an : Option Addr) (cdv ct : Value) (us : List Value), us.length = ps.length → bindArgs (PySem.W.fnOf x qual (defArgs st) (defBody st) (defScope st) .none kV doc pm an cdv ct) ⟨us, []⟩ = pure (ps.zip us)) : Binds K fd ps [] := by
  obtain ⟨oc, od, kV, doc, pm, an, cdv, ct, osl, rfl, lk, hcd⟩ := F.ex
  exact .all (h kV doc pm an cdv ct)
theorem fun_mk {x qual : Str} {st : Stmt} {f : Addr} {oc : Value} {od an : Option Addr} {osl : Array (Option Value)} {kV doc pm cdv ct : Value} (l : K.lookup f = some ⟨oc, od, .func (PySem.W.fnOf x qual (defArgs st) (defBody st) (defScope st) .none kV doc pm an cdv ct), osl⟩)
    (c : PySem.W.codeIn K cdv qual = true) (k : PySem.W.keepIn K (.ref f) = true) : Fun K x qual st f (PySem.W.fnOf x qual (defArgs st) (defBody st) (defScope st) .none kV doc pm an cdv ct) := ⟨⟨oc, od, kV, doc, pm, an, cdv, ct, osl, rfl, l, c⟩, k⟩
end
theorem small1000 {n : Nat} (h : n ≤ 1000) : n < sizeLine := Nat.lt_of_le_of_lt h (by decide)

/-! ### expressions in short: the name that stands in the i-th slot -/
section
variable {X : Cx}
theorem pv (i : Nat) {x : Str} {pos : Pos} (hN : X.N[i]? = some x := by rfl) (hv : Vis X.env.scope x := by first | exact Or.inl rfl | exact Or.inr (Or.inl rfl) | exact Or.inr (Or.inr rfl)) (hd : (x == ("__debug__" : Str)) = false := by decide)
    (hcd : (x == ("__classdict__" : Str)) = false := by decide) : PE X (.Name x pos) (tVar i) := pe_var hN hv hd hcd
end

/-! ### tests -/
theorem iteF {A B : Prop} (h : B) : if false = true then A else B := by
  rw [if_neg Bool.false_ne_true]
  exact h
theorem iteT {A B : Prop} (h : A) : if true = true then A else B := by
  rw [if_pos rfl]
  exact h
theorem ite2 {c A B : Prop} [Decidable c] (h1 : c → A) (h2 : ¬ c → B) : if c then A else B := by
  by_cases h : c
  · rw [if_pos h]
    exact h1 h
  · rw [if_neg h]
    exact h2 h
theorem iteNS {c A B : Prop} [Decidable c] (hc : c) (h : B) : if (!decide c) = true then A else B := by
  rw [decide_eq_true hc]
  exact iteF h

/-! ### heaps -/
/-- all that was tracked is as it was -/
def Same (H H' : Hp) : Prop := ∀ b o, H b = some o → H' b = some o
theorem Same.refl (H : Hp) : Same H H := fun _ _ h => h
theorem Same.trans {H H1 H2 : Hp} (a : Same H H1) (b : Same H1 H2) : Same H H2 := fun c o h => b c o (a c o h)
theorem Same.free {H H' : Hp} (e : Same H H') {l : Addr} (h : H' l = Option.none) : H l = Option.none := by
  cases q : H l with
  | none => rfl
  | some o =>
    rw [e l o q] at h
    cases h
theorem Same.seq {K : PySem.W.Frag} {H H' : Hp} {a : Addr} {xs : List V} (e : Same H H') (h : SqL K H a xs) : SqL K H' a xs := by
  rcases h with (h | ⟨o, h⟩) | h
  · exact .inl (.inl (e _ _ h))
  · exact .inl (.inr ⟨o, e _ _ h⟩)
  · exact .inr h

end L2

set_option maxHeartbeats 4000000
namespace L2
abbrev Pr := Int × Int
def inR (n : Int) (p : Pr) : Bool := decide (p.1 ≤ n) && decide (n ≤ p.2)
def inP (ps : List Pr) (n : Int) : Bool := ps.any (inR n)
/-- pairs that hold a number each, ascending and apart -/
structure Apart (R : List Pr) : Prop where
  le : ∀ p ∈ R, p.1 ≤ p.2
  gap : R.Pairwise fun p q => p.2 + 2 ≤ q.1
/-- what the loop of tidy keeps: R told so far of the pairs qs -/
structure TidI (R qs : List Pr) : Prop where
  ap : Apart R
  mem : ∀ n, inP R n = inP qs n
  cov : ∀ p ∈ qs, p.1 ≤ p.2 → ∃ r ∈ R, r.1 ≤ p.1 ∧ p.2 ≤ r.2
  low : ∀ r ∈ R, ∃ q ∈ qs, r.1 = q.1
end L2

namespace L2
open PySem PySem.Spec PyProof.Rows
/-! ### a def of the text that may be called, bundled -/
def Callee (P : Program) (w : World) (K : PySem.W.Frag) (mg : Str → Option Value) (base : Heap) (k : Nat) (x : Str) (ps : List Str) (sp : Sp) : Prop :=
  ∃ f fd, FnOk P w K mg base CX0 k f fd ps sp ∧ Binds K fd ps [] ∧ PySem.W.keepIn K (.ref f) = true ∧ mg x = some (.ref f)
theorem Callee.mono {P : Program} {w : World} {K : PySem.W.Frag} {mg : Str → Option Value} {base : Heap} {j k : Nat} {x : Str} {ps : List Str} {sp : Sp} (C : Callee P w K mg base j x ps sp) (h : j ≤ k) : Callee P w K mg base k x ps sp :=
  let ⟨f, fd, F, r⟩ := C
  ⟨f, fd, F.mono h, r⟩
section
variable {X : Cx} {k : Nat} {x : Str} {ps : List Str} {sp : Sp} {e : Expr} {es : List Expr} {t : TA} {p pos : Pos}
/-- f(..) of a bundled def -/
def tFn (sp : Sp) (t : TA) : TE := fun σ H Q => t σ H fun vs H1 => sp vs H1 Q E0
theorem pe_fn (C : Callee X.prog X.w X.K X.mg X.base k x ps sp) (hr : Room k X.A) (hg : Gl X x) (ha : PA X (e :: es) t) (hdb : (x == ("__debug__" : Str)) = false := by decide)
    (he : starEach (e :: es) X.env = (false, eval e X.env) :: starEach es X.env := by rfl) (hpl : (backTo pos (starEach es X.env)).any (·.1) = false := by rfl) : PE X (.Call (.Name x p) (e :: es) [] pos) (tFn sp t) := by
  obtain ⟨f, fd, F, b, kk, m⟩ := C
  have h := pe_call (E := E0) (dvs := []) (ds := []) (p := p) F hr hg m kk b .nil pass0 ha hdb he hpl
  intro pins s σ H Q I q
  refine h pins s σ H Q I ?_
  have q' : t σ H fun vs H1 => sp vs H1 Q E0 := q
  have e1 : (fun (vs : List V) (H1 : Hp) => sp (vs ++ []) H1 Q E0) = fun vs H1 => sp vs H1 Q E0 := by
    funext vs H1
    rw [List.append_nil]
  show t σ H fun vs H1 => sp (vs ++ []) H1 Q E0
  rw [e1]
  exact q'
end
/-! ### a block with a word between its first statement and the rest -/
def tCut (t u : TS) : TS := fun D σ H => ∃ M : St → Hp → Prop, t { D with nx := M } σ H ∧ ∀ σ' H', M σ' H' → u D σ' H'
theorem pss_cut {X : Cx} {st : Stmt} {rest : List Stmt} {t u : TS} (h1 : PS X st t) (h2 : PSs X rest u) : PSs X (st :: rest) (tCut t u) := by
  intro pins s σ H D I ⟨M, a, b⟩
  refine wpAny_execs_cons (thn (h1 pins s σ H { D with nx := M } I a) fun fl s1 q => ?_)
  cases fl with
  | next => obtain ⟨σ', H', I', q⟩ := q; exact h2 pins s1 σ' H' D I' (b σ' H' q)
  | ret v => exact q
  | brk => exact q
  | cont => exact q
/-! ### isinstance(x, T), T a built-in type -/
section
variable {X : Cx}
end
/-! ### == and != of lists -/
/-- what == says of two items of lists: plain values; one object; two tuples of plain values -/
inductive EqI (K : PySem.W.Frag) (H : Hp) : V → V → Bool → Prop where
  | flat {x y : V} (fx : flatV x = true) (fy : flatV y = true) : EqI K H x y (eqV x y)
  | same (a : Addr) : EqI K H (.ref a) (.ref a) true
  | tup {a b : Addr} {xs ys : List V} (ha : SqT K H a xs) (hb : SqT K H b ys) (fx : xs.all flatV = true) (fy : ys.all flatV = true) : EqI K H (.ref a) (.ref b) (decide (xs.length = ys.length) && (List.zipWith eqV xs ys).all id)
theorem eqV_refl : ∀ {x : V}, flatV x = true → eqV x x = true
  | .non, _ => rfl
  | .bl b, _ => by simp [eqV]
  | .int i, _ => by simp [eqV]
  | .str z, _ => by simp [eqV]
theorem eqAll_refl : ∀ {xs : List V}, xs.all flatV = true → (List.zipWith eqV xs xs).all id = true
  | [], _ => rfl
  | x :: xs, h => by
    rw [List.all_cons, Bool.and_eq_true] at h
    rw [List.zipWith_cons_cons, List.all_cons, eqAll_refl h.2, Bool.and_true]
    exact eqV_refl h.1
theorem all_range_zip {f : Nat → Bool} : ∀ {xs ys : List V}, (∀ j x y, xs[j]? = some x → ys[j]? = some y → f j = eqV x y) → (List.range (min xs.length ys.length)).all f = (List.zipWith eqV xs ys).all id
  | [], ys, _ => by simp
  | x :: xs, [], _ => by simp
  | x :: xs, y :: ys, h => by
    have ih := all_range_zip (f := fun j => f (j + 1)) (xs := xs) (ys := ys) fun j a b e1 e2 => h (j + 1) a b (by simpa using e1) (by simpa using e2)
    have e0 := h 0 x y rfl rfl
    have em : min (x :: xs).length (y :: ys).length = min xs.length ys.length + 1 := by simp only [List.length_cons]; omega
    rw [em, List.range_succ_eq_map, List.all_cons, List.zipWith_cons_cons, List.all_cons, List.all_map, e0]
    show (eqV x y && (List.range (min xs.length ys.length)).all (fun j => f (j + 1))) = _
    rw [ih]
    rfl
section
variable {X : Cx} {pins : List (Addr × Obj)} {σ : St} {H : Hp} {s : Shared}
theorem EqI.at {A : Around} {x y : V} {u v : Value} {b : Bool} (e : EqI X.K H x y b) (I : Inv X pins σ H s) (hu : A.units + 1 < cLine) (rx : RelV x u) (ry : RelV y v) : SeqAt.EqAt A s u v b := by
  cases e with
  | flat fx fy => exact eqAt_V rx ry fx fy
  | same a =>
    cases (show u = Value.ref a from rx)
    cases (show v = Value.ref a from ry)
    exact SeqAt.EqAt.same _
  | @tup a b xs ys ha hb fx fy =>
    cases (show u = Value.ref a from rx)
    cases (show v = Value.ref b from ry)
    by_cases z : a = b
    · subst z
      have e := I.tuple_inj ha hb
      subst e
      rw [eqAll_refl fx, decide_eq_true rfl]
      exact SeqAt.EqAt.same _
    · obtain ⟨its, r, p, _⟩ := I.tuple ha
      obtain ⟨its', r', p', _⟩ := I.tuple hb
      have l1 := r.length
      have l2 := r'.length
      have h0 := SeqAt.RcAt.tuples (A := A) (e := fun j => match its[j]?, xs[j]?, ys[j]? with | _, some x, some y => eqV x y | _, _, _ => false) (show s.heap.IsTuple a its.toArray from p) (show s.heap.IsTuple b its'.toArray from p') (by omega) (fun j h1 h2 => by
        have j1 : j < its.length := by simpa using h1
        have j2 : j < its'.length := by simpa using h2
        have x1 : xs[j]? = some xs[j] := List.getElem?_eq_getElem (by omega)
        have y1 : ys[j]? = some ys[j] := List.getElem?_eq_getElem (by omega)
        obtain ⟨u1, q1, r1⟩ := r.get x1
        obtain ⟨u2, q2, r2⟩ := r'.get y1
        have eu : its.toArray[j] = u1 := by
          have := List.getElem?_eq_getElem j1
          rw [this] at q1; simpa using Option.some.inj q1
        have ev : its'.toArray[j] = u2 := by
          have := List.getElem?_eq_getElem j2
          rw [this] at q2; simpa using Option.some.inj q2
        rw [eu, ev]
        rw [x1, y1]
        have f1 : flatV xs[j] = true := List.all_eq_true.mp fx _ (List.getElem_mem _)
        have f2 : flatV ys[j] = true := List.all_eq_true.mp fy _ (List.getElem_mem _)
        exact eqAt_V r1 r2 f1 f2)
      have h1 := SeqAt.EqAt.of_refs z h0
      have e1 : ((List.range (min its.toArray.size its'.toArray.size)).all fun j => match its[j]?, xs[j]?, ys[j]? with | _, some x, some y => eqV x y | _, _, _ => false) = (List.zipWith eqV xs ys).all id := by
        have es : min its.toArray.size its'.toArray.size = min xs.length ys.length := by simp only [List.size_toArray]; omega
        rw [es]
        exact all_range_zip fun j x y q1 q2 => by rw [q1, q2]
      rw [e1] at h1
      have e2 : (its.toArray.size == its'.toArray.size) = decide (xs.length = ys.length) := by
        simp only [List.size_toArray, ← l1, ← l2]
        exact Bool.beq_eq_decide_eq _ _
      rw [e2, Bool.and_comm] at h1
      exact h1
end
/-- == (neg: !=) of two lists -/
def rEqL (K : PySem.W.Frag) (neg : Bool) : R2 := fun x y H Q => ∃ a b xs ys, x = .ref a ∧ y = .ref b ∧ SqL K H a xs ∧ SqL K H b ys ∧
  ((xs.length ≠ ys.length ∧ Q (.bl neg) H) ∨ (xs.length = ys.length ∧ ∃ f : Nat → Bool, (∀ j x y, xs[j]? = some x → ys[j]? = some y → EqI K H x y (f j)) ∧ Q (.bl (if neg then !(List.range xs.length).all f else (List.range xs.length).all f)) H))
section
variable {X : Cx}
theorem eqs_at {pins : List (Addr × Obj)} {σ : St} {H : Hp} {s : Shared} {A : Around} {xs ys : List V} {its its' : List Value} {f : Nat → Bool} (I : Inv X pins σ H s) (hu : A.units + 1 < cLine) (r : Vals xs its) (r' : Vals ys its')
    (hf : ∀ j x y, xs[j]? = some x → ys[j]? = some y → EqI X.K H x y (f j)) : ∀ j (h1 : j < its.toArray.size) (h2 : j < its'.toArray.size), SeqAt.EqAt A s its.toArray[j] its'.toArray[j] (f j) := fun j h1 h2 => by
  have j1 : j < its.length := by simpa using h1
  have j2 : j < its'.length := by simpa using h2
  have l1 := r.length
  have l2 := r'.length
  have x1 : xs[j]? = some xs[j] := List.getElem?_eq_getElem (by omega)
  have y1 : ys[j]? = some ys[j] := List.getElem?_eq_getElem (by omega)
  obtain ⟨u1, q1, r1⟩ := r.get x1
  obtain ⟨u2, q2, r2⟩ := r'.get y1
  have eu : its.toArray[j] = u1 := by
    have := List.getElem?_eq_getElem j1
    rw [this] at q1; simpa using Option.some.inj q1
  have ev : its'.toArray[j] = u2 := by
    have := List.getElem?_eq_getElem j2
    rw [this] at q2; simpa using Option.some.inj q2
  rw [eu, ev]
  exact (hf j _ _ x1 y1).at I hu r1 r2
theorem op_eqL {k : Nat} (hr : Room k X.A) : OpR X (compareOp .Eq) (rEqL X.K false) := by
  intro pins s σ H x y v u Q I rx ry h
  obtain ⟨a, b, xs, ys, rfl, rfl, ha, hb, h⟩ := h
  cases (show v = Value.ref a from rx)
  cases (show u = Value.ref b from ry)
  obtain ⟨its, r, p, _⟩ := I.list ha
  obtain ⟨its', r', p', _⟩ := I.list hb
  have l1 := r.length
  have l2 := r'.length
  have hu := hr.units
  rcases h with ⟨hn, q⟩ | ⟨hl, f, hf, q⟩
  · refine SeqAt.eq_list_lengthsAt p.isList p'.isList (by simp only [List.size_toArray, bne_iff_ne, ne_eq]; omega) (by omega) ⟨.bl false, H, I, rfl, q⟩
  · refine SeqAt.eq_listAt (e := f) p.isList p'.isList (by simp only [List.size_toArray]; omega) (by omega) (eqs_at I (by show X.A.units + 1 + 1 < cLine; omega) r r' hf) ⟨.bl _, H, I, rfl, ?_⟩
    rw [show its.toArray.size = xs.length by simp only [List.size_toArray]; omega]
    exact q
end
/-! ### what stays -/
/-- every tuple stays -/
def SameT (H H' : Hp) : Prop := ∀ b xs, H b = some (.tup xs) → H' b = some (.tup xs)
theorem Same.tups {H H' : Hp} (h : Same H H') : SameT H H' := fun b xs e => h b _ e
theorem sameT_lst {H : Hp} {p : Addr} {o : HO} {ys : List V} (h : H p = some (.lst ys)) : SameT H (upd H p o) := fun b xs e => by rw [upd_ne (ne_of e h (by intro z; cases z))]; exact e
theorem same_new {H : Hp} {p : Addr} (h : H p = none) (o : HO) : Same H (upd H p o) := fun b u q => by rw [upd_ne (ne_of_none q h)]; exact q
/-- an address that was free is changed -/
theorem Same.upd {H H' : Hp} {p : Addr} {o : HO} (s : Same H H') (h : H p = none) : Same H (upd H' p o) := fun b u q => by rw [upd_ne (ne_of_none q h)]; exact s b u q
/-! ### lists of pairs -/
def PL (H : Hp) : List V → List (Int × Int) → Prop := Paired fun x p => ∃ r, x = .ref r ∧ H r = some (.tup [.int p.1, .int p.2])
theorem PL.mono {H H' : Hp} {xs : List V} {ps : List (Int × Int)} (h : PL H xs ps) (s : SameT H H') : PL H' xs ps := Paired.mapP h fun _ _ ⟨r, e, z⟩ => ⟨r, e, s r _ z⟩
theorem PL.get {H : Hp} : ∀ {xs : List V} {ps : List (Int × Int)} {i : Nat} {x : V}, PL H xs ps → xs[i]? = some x → ∃ p r, ps[i]? = some p ∧ x = .ref r ∧ H r = some (.tup [.int p.1, .int p.2])
  | _, _, _, _, .nil, e => by simp at e
  | _, _, 0, _, .cons (b := b) ⟨r, e1, z⟩ _, e => by simp at e; subst e; exact ⟨b, r, rfl, e1, z⟩
  | _, _, i + 1, x, .cons _ t, e => by
    obtain ⟨p, r, q⟩ := PL.get (i := i) (x := x) t (by simpa using e)
    exact ⟨p, r, by simpa using q.1, q.2⟩
theorem PL.length {H : Hp} {xs : List V} {ps : List (Int × Int)} (h : PL H xs ps) : xs.length = ps.length := Paired.length h
theorem PL.snoc {H : Hp} {xs : List V} {ps : List (Int × Int)} {r : Addr} {a b : Int} (h : PL H xs ps) (e : H r = some (.tup [.int a, .int b])) : PL H (xs ++ [.ref r]) (ps ++ [(a, b)]) := Paired.snoc h ⟨r, rfl, e⟩
/-! ### lists of triples of ints -/
abbrev Tr := Int × Int × Int
def TL (H : Hp) : List V → List Tr → Prop := Paired fun x t => ∃ r, x = .ref r ∧ H r = some (.tup [.int t.1, .int t.2.1, .int t.2.2])
theorem V.int_inj {i j : Int} (h : V.int i = V.int j) : i = j := by cases h; rfl
theorem dec_int_t {i j : Int} (h : decide (V.int i = V.int j) = true) : i = j := V.int_inj (of_decide_eq_true h)
theorem dec_int_f {i j : Int} (h : ¬ decide (V.int i = V.int j) = true) : i ≠ j := fun e => h (decide_eq_true (congrArg V.int e))
theorem dec_t {p : Prop} [Decidable p] (h : decide p = true) : p := of_decide_eq_true h
theorem dec_f {p : Prop} [Decidable p] (h : ¬ decide p = true) : ¬ p := fun e => h (decide_eq_true e)
end L2

namespace L2
open PySem PySem.Spec PyProof.Rows
/-! ### rules that name the written part by itself (within a block) -/
theorem ix_listK {X : Cx} {K : PySem.W.Frag} (h : X.K = K) : IxR X (rIxL K) := h ▸ ix_list
theorem ix_tupK {X : Cx} {K : PySem.W.Frag} (h : X.K = K) : IxR X (rIxT K) := h ▸ ix_tup
/-! ### a list comprehension with one clause whose target is a plain name -/
/-- the block's context: nothing raises in it; the frames that run are the def's own and its callers' -/
def cmpCx (X : Cx) (N : List Str) (scope : Scope) (cl : List (Str × Addr)) (fp : List Addr) (C : Addr) (s2 : Shared) (H2 : Hp) : Cx :=
  { prog := X.prog, w := X.w, K := X.K, mg := X.mg, base := X.base, A := X.A, N := N, s₀ := s2, H₀ := H2, env := compEnvC scope cl C X.env, outer := X.stack, stack := X.stack, ex := fp, fn := fun _ => false, calm := X.calm, pn := [], xe := fun _ _ => False }
/-- the tests of a clause -/
def PIf (X : Cx) (ifs : List Expr) (t : TT) : Prop :=
  ∀ (pins : List (Addr × Obj)) (s : Shared) (σ : St) (H : Hp) (Q : Bool → Hp → Prop), Inv X pins σ H s → t σ H Q →
    wpAny (model X.prog X.w) X.A (forIn ifs true fun c r => if r = true then do let ok ← isTrue c X.env (eval c X.env); pure (ForInStep.yield ok) else pure (ForInStep.yield r)) (TP X pins σ Q) X.xe s
def tYes : TT := fun _ H Q => Q true H
theorem pif_nil {X : Cx} : PIf X [] tYes := fun _ _ _ H _ I h => wpAny_tests_nil ⟨H, I, h⟩
theorem pif_one {X : Cx} {c : Expr} {t : TT} (h : PT X c t) : PIf X [c] t := fun pins s σ H Q I q => wpAny_tests_one (h pins s σ H Q I q)
/-- what is asked of the block's names: N its slots (the target first, then the def's own names that it sees), fr where these stand among the def's slots -/
structure CmpOk (X : Cx) (N : List Str) (fr : List Nat) (scope : Scope) (cl : List (Str × Addr)) (x : Str) : Prop where
  clos : closureFor scope X.env = pure cl
  kind : scope.kind = .function
  nocell : ∀ y ∈ scope.names, y.2 ≠ .cell
  names : ∀ y ∈ scope.names, y.2 = .local → scope.names.lookup y.1 = some .local
  hx : scope.names.lookup x = some .local
  nd : N.Nodup
  n0 : N[0]? = some x
  len : N.length = fr.length + 1
  sub : ∀ (i : Nat) (y : Str), N[i + 1]? = some y → ∃ j, fr[i]? = some j ∧ X.N[j]? = some y ∧ (X.env.kindOf y = some .cell ∨ X.env.kindOf y = some .free) ∧ ((relabel scope X.env).names.lookup y = some .cell ∨ (relabel scope X.env).names.lookup y = some .free)
  cells : ∀ y c, cl.lookup y = some c → X.env.cells.lookup y = some c
  has : ∀ y, ((relabel scope X.env).names.lookup y = some .cell ∨ (relabel scope X.env).names.lookup y = some .free) → ∃ c, cl.lookup y = some c
/-- a block that sees no name of the def -/
theorem cmpOk_plain {X : Cx} {scope : Scope} {x : Str} (kind : scope.kind = .function) (nofree : ∀ y ∈ scope.names, y.2 ≠ .free) (nocell : ∀ y ∈ scope.names, y.2 ≠ .cell)
    (names : ∀ y ∈ scope.names, y.2 = .local → scope.names.lookup y.1 = some .local) (hx : scope.names.lookup x = some .local) : CmpOk X [x] [] scope [] x := by
  have er : (relabel scope X.env).names = scope.names := map_eq_self fun y hy => by
    have z : (y.2 == NameKind.free) = false := by simpa using nofree y hy
    simp [z]
  have no : ∀ y, ¬ ((relabel scope X.env).names.lookup y = some .cell ∨ (relabel scope X.env).names.lookup y = some .free) := fun y h => by
    rw [er] at h
    rcases h with h | h
    · exact nocell _ (PySem.mem_of_lookup h) rfl
    · exact nofree _ (PySem.mem_of_lookup h) rfl
  exact ⟨closureFor_none nofree, kind, nocell, names, hx, by simp, rfl, rfl, fun i y e => by simp at e, (fun y c e => by cases e), fun y h => absurd h (no y)⟩
/-- a block that sees names of the def: those are cells there -/
theorem cmpOk_free {X : Cx} {N : List Str} {fr : List Nat} {scope : Scope} {cl : List (Str × Addr)} {x : Str} (clos : closureFor scope X.env = pure cl) (kind : scope.kind = .function) (nocell : ∀ y ∈ scope.names, y.2 ≠ .cell)
    (names : ∀ y ∈ scope.names, y.2 = .local → scope.names.lookup y.1 = some .local) (hx : scope.names.lookup x = some .local) (nd : N.Nodup) (n0 : N[0]? = some x) (len : N.length = fr.length + 1)
    (sub : ((List.range fr.length).all fun i => match N[i + 1]?, fr[i]? with | some y, some j => (X.N[j]? == some y) && ((X.env.kindOf y == some .cell) && ((relabel scope X.env).names.lookup y == some .cell)) | _, _ => false) = true)
    (cells : ∀ p ∈ cl, X.env.cells.lookup p.1 = some p.2) (has : ((relabel scope X.env).names.all fun p => (p.2 != .cell && p.2 != .free) || (cl.lookup p.1).isSome) = true) : CmpOk X N fr scope cl x := by
  refine ⟨clos, kind, nocell, names, hx, nd, n0, len, fun i y e => ?_, fun y c e => cells _ (PySem.mem_of_lookup e), fun y h => ?_⟩
  · have hi : i < fr.length := by have := (List.getElem?_eq_some_iff.mp e).1; omega
    have z := List.all_eq_true.mp sub i (List.mem_range.mpr hi)
    rw [e, List.getElem?_eq_getElem hi] at z
    simp only [Bool.and_eq_true, beq_iff_eq] at z
    exact ⟨_, List.getElem?_eq_getElem hi, z.1, .inl z.2.1, .inl z.2.2⟩
  · have look : ∀ k, (relabel scope X.env).names.lookup y = some k → (k = .cell ∨ k = .free) → ∃ c, cl.lookup y = some c := fun k e hk => by
      have z := List.all_eq_true.mp has _ (PySem.mem_of_lookup e)
      rcases hk with rfl | rfl
      · exact Option.isSome_iff_exists.mp (by simpa using z)
      · exact Option.isSome_iff_exists.mp (by simpa using z)
    rcases h with h | h
    · exact look _ h (.inl rfl)
    · exact look _ h (.inr rfl)
def cmpSt (σ : St) (fr : List Nat) (x : Option V) : St := x :: fr.map fun j => (σ[j]?).join
/-- the comprehension's reading: D the new list, W the invariant by the turn and a measure -/
def CompAt (J : It) (fr : List Nat) (tt : TT) (te : TE) (σ : St) (Q : VK) (H1 : Hp) : Prop := ∀ D, H1 D = none → ∃ W : Nat → Nat → Hp → Prop, (∃ m, W 0 m (upd H1 D (.lst []))) ∧ ∀ i m H, W i m H →
  (J.stop i H ∧ Q (.ref D) H) ∨ (J.go i H ∧ ∀ x H', J.yld i H x H' → tt (cmpSt σ fr (some x)) H' fun b H2 => if b = true then te (cmpSt σ fr (some x)) H2 fun y H3 => ∃ ys, H3 D = some (.lst ys) ∧ ys.length < sizeLine ∧ ∃ m', m' < m ∧ W (i + 1) m' (upd H3 D (.lst (ys ++ [y])))
    else ∃ m', m' < m ∧ W (i + 1) m' H2)
def tComp (wi : TI) (fr : List Nat) (tt : TT) (te : TE) : TE := fun σ H Q => wi σ H fun J H1 => CompAt J fr tt te σ Q H1
section
variable {prog : Program} {w : World} {A : Around} {R : Result → Shared → Prop} {s : Shared}
theorem comp_turns {elt target iter : Expr} {ifs : List Expr} {scope : Scope} {pos : Pos} {it acc : Value} {env : Env} (J : Nat → Shared → Prop)
    (turn : ∀ n s, J n s → wpAny (model prog w) A (pyNext it) (fun r s1 => match r with
      | none => R (.ok .next) s1
      | some v => wpAny (model prog w) A (letOwnedTupleGo target it v) (fun _ s2 => wpAny (model prog w) A (assign target env v) (fun _ s3 =>
          wpAny (model prog w) A (forIn ifs true fun c r => if r = true then do let ok ← isTrue c env (eval c env); pure (ForInStep.yield ok) else pure (ForInStep.yield r)) (fun ok s4 =>
            if ok = true then wpAny (model prog w) A (eval elt env) (fun y s5 => wpAny (model prog w) A (call (.builtin "list.append") [acc, y]) (fun _ s6 => ∃ m, m < n ∧ J m s6) (fun _ _ => False) s5) (fun _ _ => False) s4
            else ∃ m, m < n ∧ J m s4) (fun _ _ => False) s3) (fun _ _ => False) s2) (fun _ _ => False) s1) (fun _ _ => False) s)
    (n : Nat) (h : J n s) : codeAny (model prog w) A (.compLoop (.ListComp elt [⟨target, iter, ifs, 0⟩] scope pos) 0 it acc env) R s := by
  refine codeAny_loop rfl J (fun n s hJ => ?_) n h
  show wpAny _ A ((compTurn (.ListComp elt [⟨target, iter, ifs, 0⟩] scope pos) 0 it acc env).onRaise (fun x => do noteFrame x env; theTreesLotGoes x)) _ _ s
  refine wpAny_noted ?_
  rw [compTurn_list]
  refine wpAny_bind (wpAny_standAt (wpAny_bind (wpAny_mono (turn n s hJ) (fun r s1 h1 => ?_) fun _ _ z => z.elim)))
  cases r with
  | none => exact wpAny_pure h1
  | some v =>
    refine wpAny_bind (wpAny_mono h1 (fun _ s2 h2 => ?_) fun _ _ z => z.elim)
    refine wpAny_bind (wpAny_mono h2 (fun _ s3 h3 => wpAny_bind (wpAny_mono h3 (fun ok s4 h4 => ?_) fun _ _ z => z.elim)) fun _ _ z => z.elim)
    cases ok with
    | false => exact wpAny_pure ⟨rfl, h4⟩
    | true => exact wpAny_bind (wpAny_bind (wpAny_mono h4 (fun y s5 h5 => wpAny_bind (wpAny_mono h5 (fun _ s6 h6 => wpAny_pure (wpAny_pure ⟨rfl, h6⟩)) fun _ _ z => z.elim)) fun _ _ z => z.elim))
end
section
variable {X : Cx} {elt iter : Expr} {ifs : List Expr} {x : Str} {px pos : Pos} {scope : Scope} {cl : List (Str × Addr)} {N : List Str} {fr : List Nat} {tt : TT} {te : TE}
theorem comp_core {pins : List (Addr × Obj)} {σ : St} {s2 : Shared} {H2 : Hp} {it : Addr} {fp : List Addr} {tn : Nat → Heap → Prop} {J : It} {Q : VK} {E : Value → Shared → Prop} {RR : Value → Addr → Result → Shared → Prop}
    (O : CmpOk X N fr scope cl x) (hc : X.calm = true) (I2 : Inv X pins σ H2 s2) (T : Turn X.prog X.w X.K (.Name x px) J fp it tn) (st2 : tn 0 s2.heap) (f2 : ∀ b ∈ fp, FpOk X pins H2 b)
    (ht : ∀ fp C s H, PIf (cmpCx X N scope cl fp C s H) ifs tt) (he : ∀ fp C s H, PE (cmpCx X N scope cl fp C s H) elt te)
    (hW : CompAt J fr tt te σ Q H2)
    (fin : ∀ D C s' H', s2.heap.objs.size ≤ C → H' C = none → (∃ m, s'.heap.Ns C m) → Inv X pins σ H' s' → Q (.ref D) H' → RR (.ref D) C (.ok .next) s') :
    wpAny (model X.prog X.w) X.A (newList []) (fun acc s3 => wpAny (model X.prog X.w) X.A (newFunctionEnv scope X.env.globals cl [] X.env.qual none .none (some X.env)) (fun cenv s4 =>
      codeAny (model X.prog X.w) X.A (.compStart (.ListComp elt [⟨.Name x px, iter, ifs, 0⟩] scope pos) 0 (.ref it) acc { cenv with scope := relabel scope X.env }) (RR acc cenv.locals) s4) E s3) E s2 := by
  refine wpAny_newObj_type (wpAny_newFunctionEnv O.nocell (by intro y hy; simp at hy) (fun h1 hns hsb => ?_) O.kind)
  dsimp only at hns hsb ⊢
  generalize hG : s2.heap.push { cls := .type "list", dict := none, data := .seq ([] : List Value).toArray } = G at hns hsb ⊢
  have hC : G.objs.size = s2.heap.objs.size + 1 := by rw [← hG, Heap.size_push]
  have old : ∀ b o, s2.heap.get? b = some o → h1.get? b = some o := fun b o e => hsb.extBut b o (Nat.ne_of_lt (by rw [hC]; exact Nat.lt_succ_of_lt (Heap.lt_size e))) (Heap.get?_push_of_some _ (hG ▸ Heap.get?_push_of_some _ e))
  have hacc : h1.get? s2.heap.objs.size = some { cls := .type "list", data := .seq ([] : List Value).toArray 0 } := hsb.extBut _ _ (Nat.ne_of_lt (by rw [hC]; exact Nat.lt_succ_self _)) (Heap.get?_push_of_some _ (hG ▸ Heap.get?_push_size _ rfl))
  have hD : H2 s2.heap.objs.size = none := I2.fresh
  have okX : (cmpCx X N scope cl fp G.objs.size s2 H2).Ok := by
    refine ⟨I2.ok.mod, O.kind, I2.ok.glob, I2.ok.blt, by show s2.heap.objs.size ≤ G.objs.size; rw [hC]; exact Nat.le_succ _, fun y z c e1 e2 => I2.ok.inj y z c (O.cells y c e1) (O.cells z c e2), fun y hy => O.has y hy, fun y c z => absurd (show false = true from z) Bool.false_ne_true, I2.ok.hd, I2.ok.frames, .inl rfl,
      fun b hb => ⟨?_, fun y c e => (f2 b hb).2.2.2.2.1 y c (O.cells y c e)⟩, I2.bs, Nat.le_trans I2.ok.bsz I2.sz, fun b o e hb => ?_, fun b hb z => ?_, I2.stack, I2.stkFree⟩
    · obtain ⟨o, e, _⟩ := T.obj _ _ st2 b hb
      show b ≠ G.objs.size
      exact Nat.ne_of_lt (by rw [hC]; exact Nat.lt_succ_of_lt (Heap.lt_size e))
    · rcases (f2 b hb).2.2.2.1 with z | z
      · exact I2.ok.noex b o e z
      · exact absurd (Nat.lt_of_lt_of_le (Heap.lt_size e) (Nat.le_trans I2.ok.bsz z)) (Nat.lt_irrefl _)
    · rcases List.mem_cons.mp (I2.stkSub b z) with z | z
      · exact (f2 b hb).2.1 z
      · exact (f2 b hb).2.2.1 z
  have statX : ∀ {H' : Hp}, (∀ b ∈ fp, H' b = none) → ∀ b ∈ fp, FpOk (cmpCx X N scope cl fp G.objs.size s2 H2) [] H' b := fun hn b hb =>
    ⟨hn b hb, (okX.exf b hb).1, okX.exfs b hb, .inl hb, (okX.exf b hb).2, fun p hp => absurd (show p ∈ ([] : List (Addr × Obj)) from hp) (by simp)⟩
  have I' : Inv (cmpCx X N scope cl fp G.objs.size s2 H2) [] (cmpSt σ fr none) (upd H2 s2.heap.objs.size (.lst [])) { s2 with heap := h1, toks := s2.toks + ([] : List (Str × Value)).length } := by
    refine ⟨okX, rfl, I2.bare, Un.laid old (Nat.le_refl _) hD, ⟨_, hns, fun i y v e1 e2 e3 => ?_⟩, fun y c e => ?_, ?_, fun y c e => ?_, fun p hp => absurd (show p ∈ ([] : List (Addr × Obj)) from hp) (by simp), I2.hok.laid old (Nat.le_refl _) ⟨Nat.zero_le _, [], 0, .nil, hacc⟩, ?_⟩
    · cases i with
      | zero => cases e2
      | succ i =>
        obtain ⟨j, q1, q2, q3, q4⟩ := O.sub i y e1
        have e2' : (σ[j]?).join = some v := by
          have : (fr.map fun j => (σ[j]?).join)[i]? = some (some v) := e2
          rw [List.getElem?_map, q1] at this
          exact Option.some.inj this
        have e4 : σ[j]? = some (some v) := by
          cases z : σ[j]? with
          | none => rw [z] at e2'; cases e2'
          | some t => rw [z] at e2'; exact congrArg some e2'
        obtain ⟨m, _, hl⟩ := I2.loc
        have vis : Vis X.env.scope y := .inr q3
        obtain ⟨u, r, l⟩ := hl j y v q2 e4 vis
        refine ⟨u, r, .inr ⟨q4, ?_⟩⟩
        obtain ⟨c', hc'⟩ := O.has y q4
        rcases l with ⟨k, _⟩ | ⟨_, c, ec, ic⟩
        · rcases q3 with z | z
          · rw [z] at k; cases k
          · rw [z] at k; cases k
        · have := O.cells y c' hc'
          have e' : c = c' := Option.some.inj (ec.symm.trans this)
          obtain ⟨o, ho, hd⟩ := ic
          rw [e'] at ho
          exact ⟨c', hc', o, old c' o ho, hd⟩
    · obtain ⟨v, o, ho, hd⟩ := I2.cell y c (O.cells y c e)
      exact ⟨v, o, old c o ho, hd⟩
    · show upd H2 s2.heap.objs.size (.lst []) G.objs.size = none
      rw [upd_ne (Nat.ne_of_gt (by rw [hC]; exact Nat.lt_succ_self _))]
      exact I2.hok.fresh (by rw [hC]; exact Nat.le_succ _)
    · obtain ⟨v, o, ho, hd⟩ := I2.cell y c (O.cells y c e)
      rw [upd_ne (Nat.ne_of_lt (Heap.lt_size ho))]
      exact I2.freeC y c (O.cells y c e)
    · show (cmpSt σ fr none).length = N.length
      rw [O.len]; simp [cmpSt]
  have st1 : tn 0 h1 := T.keep _ _ _ st2 fun b hb o e => old b o e
  have loop : ∀ s3 : Shared, s3 = { s2 with heap := h1, toks := s2.toks + ([] : List (Str × Value)).length } →
      codeAny (model X.prog X.w) X.A (.compLoop (.ListComp elt [⟨.Name x px, iter, ifs, 0⟩] scope pos) 0 (.ref it) (.ref s2.heap.objs.size) (compEnvC scope cl G.objs.size X.env)) (RR (.ref s2.heap.objs.size) G.objs.size) s3 := by
    rintro s3 rfl
    obtain ⟨W, ⟨m0, w0⟩, turn⟩ := hW _ hD
    refine comp_turns (fun n s' => ∃ i t H', Inv (cmpCx X N scope cl fp G.objs.size s2 H2) [] (cmpSt σ fr t) H' s' ∧ tn i s'.heap ∧ (∀ b ∈ fp, H' b = none) ∧ W i n H') ?_ m0
      ⟨0, none, _, I', st1, fun b hb => by
        rw [upd_ne (by obtain ⟨o, e, _⟩ := T.obj _ _ st2 b hb; exact Nat.ne_of_lt (Heap.lt_size e))]
        exact (f2 b hb).1, w0⟩
    rintro n s' ⟨i, t, H', I3, st3, fr3, w3⟩
    rcases turn i n H' w3 with ⟨stop, qn⟩ | ⟨go, step⟩
    · refine thn (T.done (cmpCx X N scope cl fp G.objs.size s2 H2) rfl rfl rfl hc i [] s' _ H' _ I3 (statX fr3) st3 stop) fun r s4 ⟨hr, I4⟩ => ?_
      subst hr
      obtain ⟨m, hm, _⟩ := I4.loc
      refine fin _ _ s4 H' (by rw [hC]; exact Nat.le_succ _) I4.free ⟨m, hm⟩ (I2.call' (ch := fp) I4.os I4.base I4.hok I4.bare fun b hb => ?_) qn
      exact ⟨(f2 b hb).2.2.2.1, (f2 b hb).2.1, (f2 b hb).2.2.2.2.1, (f2 b hb).2.2.2.2.2⟩
    · refine thn (T.item (cmpCx X N scope cl fp G.objs.size s2 H2) rfl rfl rfl hc i [] s' _ H' _ I3 (statX fr3) st3 go) fun r s4 ⟨u, hr, h4⟩ => ?_
      subst hr
      refine thn h4 fun _ s5 ⟨y, H5, I5, r5, y5, st5, fr5⟩ => ?_
      have I5' := I5.pinned (statX fr5) (T.obj _ _ st5)
      have lx : (cmpCx X N scope cl fp G.objs.size s2 H2).env.scope.names.lookup x = some .local := lookup_relabel_local O.hx
      refine thn (pg_name (X := cmpCx X N scope cl fp G.objs.size s2 H2) (i := 0) O.nd O.n0 (.inl lx) (.inr lx) _ s5 _ H5 y u (fun σ' H' => σ' = cmpSt σ fr (some y) ∧ H' = H5) I5' r5 ⟨rfl, rfl⟩) fun _ s6 ⟨σ6, H6, I6, e6, e6'⟩ => ?_
      subst e6; subst e6'
      have again : ∀ {σ7 : St} {H7 : Hp} {s7 : Shared} {m' : Nat}, σ7 = cmpSt σ fr (some y) → Inv (cmpCx X N scope cl fp G.objs.size s2 H2) ([] ++ pinsAt fp s5.heap) σ7 H7 s7 → m' < n → W (i + 1) m' H7 →
          ∃ m, m < n ∧ ∃ i t H', Inv (cmpCx X N scope cl fp G.objs.size s2 H2) [] (cmpSt σ fr t) H' s7 ∧ tn i s7.heap ∧ (∀ b ∈ fp, H' b = none) ∧ W i m H' := fun {σ7 H7 s7 m'} e7 I7 hm w7 => by
        subst e7
        refine ⟨m', hm, i + 1, some y, H7, I7.unpinned, T.keep _ _ _ st5 fun b hb o e => (I7.pin (b, o) (List.mem_append_right _ (List.mem_append_right _ (mem_pinsAt hb e)))).1, fun b hb => ?_, w7⟩
        obtain ⟨o, e, d⟩ := T.obj _ _ st5 b hb
        exact (I7.pin (b, o) (List.mem_append_right _ (List.mem_append_right _ (mem_pinsAt hb e)))).2.1
      refine thn (ht fp G.objs.size s2 H2 _ s6 _ H6 _ I6 (step y H6 y5)) fun ok s7 ⟨H7, I7, q7⟩ => ?_
      cases ok with
      | false =>
        rw [if_neg Bool.false_ne_true] at q7 ⊢
        obtain ⟨m', hm, w7⟩ := q7
        exact again rfl I7 hm w7
      | true =>
        rw [if_pos rfl] at q7 ⊢
        refine thn (he fp G.objs.size s2 H2 _ s7 _ H7 _ I7 q7) fun u8 s8 ⟨v8, H8, I8, r8, ys, hys, hlen, m', hm, w8⟩ => ?_
        refine thn (mt_append (X := cmpCx X N scope cl fp G.objs.size s2 H2) _ s8 _ H8 (.ref s2.heap.objs.size) [v8] _ [u8] (fun _ H9 => W (i + 1) m' H9) I8 rfl (.cons r8 .nil) ⟨_, ys, v8, rfl, rfl, hys, hlen, w8⟩) fun _ s9 ⟨_, H9, I9, _, w9⟩ => ?_
        exact again rfl I9 hm w9
  exact codeAny_compStart_list (loop _ rfl) (T.self _ 0 _ _ _ st1 (loop _ rfl))
/-- the frame of a block is let go -/
theorem Inv.left {pins : List (Addr × Obj)} {σ σ2 : St} {s2 s' : Shared} {H2 H' : Hp} {C : Addr} {h' : Heap} (I2 : Inv X pins σ2 H2 s2) (I' : Inv X pins σ H' s') (hC : s2.heap.objs.size ≤ C) (hn : H' C = none) (hs : Heap.SameBut C s'.heap h') : Inv X pins σ H' { s' with heap := h' } := by
  refine I'.turned (t' := s'.toks) (it := C) (fun b o hb e => (hs.2 b hb).trans e) hn (Nat.ne_of_gt (Nat.lt_of_lt_of_le I2.lt hC)) (.inr (Nat.le_trans I2.sz hC)) (fun y c e => ?_) fun p hp => ?_
  · obtain ⟨v, o, ho, _⟩ := I2.cell y c e
    exact Nat.ne_of_lt (Nat.lt_of_lt_of_le (Heap.lt_size ho) hC)
  · exact Nat.ne_of_lt (Nat.lt_of_lt_of_le (Heap.lt_size (I2.pin p hp).1) hC)
/-- [elt for x in iter if ..] -/
theorem pe_comp {wi : TI} (hi : PI X (.Name x px) iter wi) (O : CmpOk X N fr scope cl x) (hc : X.calm = true) (ht : ∀ fp C s H, PIf (cmpCx X N scope cl fp C s H) ifs tt) (he : ∀ fp C s H, PE (cmpCx X N scope cl fp C s H) elt te)
    (hs : ∀ v, foldedSetIterable iter X.env v = pure v := by intro _; rfl) : PE X (.ListComp elt [⟨.Name x px, iter, ifs, 0⟩] scope pos) (tComp wi fr tt te) := by
  intro pins s σ H Q I h
  rw [eval_ListComp]
  refine wpAny_comprehension_free (use := none) rfl hs O.clos O.kind O.names (thn (hi pins s σ H _ I h) fun v s1 h1 => thn h1 fun itv s2 h2 => ?_)
  obtain ⟨it, fp, tn, J, H2, e, I2, T, st2, f2, hW⟩ := h2
  subst e
  refine comp_core (RR := fun acc C => compPost (model X.prog X.w) X.A X.xe none (EP X pins σ Q) acc C) O hc I2 T st2 f2 ht he hW fun D C s' H' hC hn ⟨m, hm⟩ I' q => ?_
  exact ⟨m, hm, fun h' hs' => ⟨.ref D, H', I2.left I' hC hn hs', rfl, q⟩⟩
/-- y = [elt for x in iter if ..], both on one row: stored ahead of the block's end -/
theorem ps_comp {wi : TI} {i : Nat} {y : Str} {py spos : Pos} (hN : X.N.Nodup) (hy : X.N[i]? = some y) (hl : Loc X.env.scope y) (hi : PI X (.Name x px) iter wi) (O : CmpOk X N fr scope cl x) (hc : X.calm = true)
    (ht : ∀ fp C s H, PIf (cmpCx X N scope cl fp C s H) ifs tt) (he : ∀ fp C s H, PE (cmpCx X N scope cl fp C s H) elt te) (hs : ∀ v, foldedSetIterable iter X.env v = pure v := by intro _; rfl)
    (hsw : swapsWith (.ListComp elt [⟨.Name x px, iter, ifs, 0⟩] scope pos) (some (.Name y py)) spos.line X.env = pure true := by rfl) (hf : X.fn y = true ∨ X.env.scope.names.lookup y = some .local := by first | exact .inl rfl | exact .inr rfl | assumption) :
    PS X (.Assign [.Name y py] (.ListComp elt [⟨.Name x px, iter, ifs, 0⟩] scope pos) spos) (tAsg (tComp wi fr tt te) (gName i)) := by
  intro pins s σ H D0 I h
  rw [exec_Assign_Name_used _ _ _ _ hsw]
  refine wpAny_bind (wpAny_standAt (wpAny_bind ?_))
  show wpAny _ X.A (do let _ ← comprehension (.ListComp elt [⟨.Name x px, iter, ifs, 0⟩] scope pos) scope X.env _ (newList []) false (eval iter X.env) (some (assign (.Name y py) X.env))) _ _ s
  refine wpAny_bind (wpAny_mono (wpAny_comprehension_free (use := some (assign (.Name y py) X.env)) (Q := fun _ s' => SP X pins D0 .next s') rfl hs O.clos O.kind O.names (thn (hi pins s σ H _ I h) fun v s1 h1 => thn h1 fun itv s2 h2 => ?_)) (fun _ s' hq => wpAny_pure (wpAny_pure hq)) fun _ _ z => z)
  obtain ⟨it, fp, tn, J, H2, e, I2, T, st2, f2, hW⟩ := h2
  subst e
  refine comp_core (Q := fun v H1 => gName i v σ H1 D0.nx) (RR := fun acc C => compPost (model X.prog X.w) X.A X.xe (some (assign (.Name y py) X.env)) (fun _ s' => SP X pins D0 .next s') acc C) O hc I2 T st2 f2 ht he hW fun D C s' H' hC hn ⟨m, hm⟩ I' q => ?_
  show wpAny _ X.A (assign (.Name y py) X.env (.ref D)) _ _ s'
  refine wpAny_assign_Name (store_ok2 I' hN hy hl (v := .ref D) rfl (fun s3 I3 ⟨a, hsa, ha⟩ => ?_) hf)
  have hCa : C ≠ a := by
    rcases ha with z | z
    · rw [z]; exact Nat.ne_of_gt (Nat.lt_of_lt_of_le I2.lt hC)
    · obtain ⟨v, o, ho, _⟩ := I2.cell y a z
      exact Nat.ne_of_gt (Nat.lt_of_lt_of_le (Heap.lt_size ho) hC)
  exact ⟨m, hm.sameBut hsa hCa, fun h' hs' => ⟨_, H', I2.left I3 hC hn hs', q⟩⟩
/-- what is wanted behind a turn that tells nothing; behind one that tells y -/
def CNext (Pv : Addr → Nat → List V → Hp → Prop) (D : Addr) (i n : Nat) (H2 : Hp) : Prop := ∃ m', m' < n - i ∧ m' = n - (i + 1) ∧ i + 1 ≤ n ∧ ∃ zs, Pv D (i + 1) zs H2
def CYes (Pv : Addr → Nat → List V → Hp → Prop) (D : Addr) (i n : Nat) : VK := fun y H3 => ∃ ys, H3 D = some (.lst ys) ∧ ys.length < sizeLine ∧ CNext Pv D i n (upd H3 D (.lst (ys ++ [y])))
theorem CNext.mk {Pv : Addr → Nat → List V → Hp → Prop} {D : Addr} {i n : Nat} {H2 : Hp} {zs : List V} (hi : i < n) (h : Pv D (i + 1) zs H2) : CNext Pv D i n H2 := ⟨n - (i + 1), by omega, rfl, hi, zs, h⟩
theorem CYes.mk {Pv : Addr → Nat → List V → Hp → Prop} {D : Addr} {i n : Nat} {H3 : Hp} {ys : List V} {y : V} (hi : i < n) (e : H3 D = some (.lst ys)) (hl : ys.length < sizeLine) (h : Pv D (i + 1) (ys ++ [y]) (upd H3 D (.lst (ys ++ [y])))) : CYes Pv D i n y H3 := ⟨ys, e, hl, .mk hi h⟩
/-- over a list that the block leaves as it is -/
theorem comp_list {K : PySem.W.Frag} {a : Addr} {xs : List V} {σ : St} {H1 : Hp} {Q : VK} (Pv : Addr → Nat → List V → Hp → Prop) (h0 : ∀ D, H1 D = none → Pv D 0 [] (upd H1 D (.lst [])))
    (hk : ∀ D i ys H, H1 D = none → i ≤ xs.length → Pv D i ys H → SqL K H a xs)
    (hs : ∀ D i x ys H, H1 D = none → xs[i]? = some x → Pv D i ys H → tt (cmpSt σ fr (some x)) H fun b H2 => if b = true then te (cmpSt σ fr (some x)) H2 (CYes Pv D i xs.length) else CNext Pv D i xs.length H2)
    (hd : ∀ D ys H, H1 D = none → Pv D xs.length ys H → Q (.ref D) H) : CompAt (Itl K a) fr tt te σ Q H1 := by
  intro D hD
  refine ⟨fun i m H => m = xs.length - i ∧ i ≤ xs.length ∧ ∃ ys, Pv D i ys H, ⟨_, rfl, Nat.zero_le _, [], h0 D hD⟩, ?_⟩
  rintro i m H ⟨rfl, hi, ys, p⟩
  have q := hk D i ys H hD hi p
  by_cases hlt : i < xs.length
  · refine .inr ⟨⟨xs, xs[i], q, by simp [hlt]⟩, fun x H' y => ?_⟩
    obtain ⟨e, y⟩ := y
    subst e
    exact hs D i x ys _ hD (y xs q) p
  · have e : i = xs.length := by omega
    subst e
    exact .inl ⟨⟨xs, q, Nat.le_refl _⟩, hd D ys H hD p⟩
/-- over a range -/
theorem comp_range {lo : Int} {n : Nat} {σ : St} {H1 : Hp} {Q : VK} (Pv : Addr → Nat → List V → Hp → Prop) (h0 : ∀ D, H1 D = none → Pv D 0 [] (upd H1 D (.lst [])))
    (hs : ∀ D i ys H, H1 D = none → i < n → Pv D i ys H → tt (cmpSt σ fr (some (.int (lo + i)))) H fun b H2 => if b = true then te (cmpSt σ fr (some (.int (lo + i)))) H2 (CYes Pv D i n) else CNext Pv D i n H2)
    (hd : ∀ D ys H, H1 D = none → Pv D n ys H → Q (.ref D) H) : CompAt (Itr lo n) fr tt te σ Q H1 := by
  intro D hD
  refine ⟨fun i m H => m = n - i ∧ i ≤ n ∧ ∃ ys, Pv D i ys H, ⟨_, rfl, Nat.zero_le _, [], h0 D hD⟩, ?_⟩
  rintro i m H ⟨rfl, hi, ys, p⟩
  by_cases hlt : i < n
  · refine .inr ⟨hlt, fun x H' y => ?_⟩
    obtain ⟨e, y⟩ := y
    subst e; subst y
    exact hs D i ys _ hD hlt p
  · have e : i = n := by omega
    subst e
    exact .inl ⟨Nat.le_refl _, hd D ys H hD p⟩
end
end L2

namespace L2
open PySem PySem.Spec PyProof.Rows
/-! ### a list comprehension whose target is any (a tuple of names): k names of the target first, then the def's own that the block sees -/
structure CmpOkG (X : Cx) (N : List Str) (k : Nat) (fr : List Nat) (scope : Scope) (cl : List (Str × Addr)) : Prop where
  clos : closureFor scope X.env = pure cl
  kind : scope.kind = .function
  nocell : ∀ y ∈ scope.names, y.2 ≠ .cell
  names : ∀ y ∈ scope.names, y.2 = .local → scope.names.lookup y.1 = some .local
  len : N.length = k + fr.length
  sub : ∀ (i : Nat) (y : Str), N[k + i]? = some y → ∃ j, fr[i]? = some j ∧ X.N[j]? = some y ∧ (X.env.kindOf y = some .cell ∨ X.env.kindOf y = some .free) ∧ ((relabel scope X.env).names.lookup y = some .cell ∨ (relabel scope X.env).names.lookup y = some .free)
  cells : ∀ y c, cl.lookup y = some c → X.env.cells.lookup y = some c
  has : ∀ y, ((relabel scope X.env).names.lookup y = some .cell ∨ (relabel scope X.env).names.lookup y = some .free) → ∃ c, cl.lookup y = some c
theorem cmpOkG_plain {X : Cx} {N : List Str} {k : Nat} {scope : Scope} (len : N.length = k) (kind : scope.kind = .function) (nofree : ∀ y ∈ scope.names, y.2 ≠ .free) (nocell : ∀ y ∈ scope.names, y.2 ≠ .cell)
    (names : ∀ y ∈ scope.names, y.2 = .local → scope.names.lookup y.1 = some .local) : CmpOkG X N k [] scope [] := by
  have er : (relabel scope X.env).names = scope.names := map_eq_self fun y hy => by
    have z : (y.2 == NameKind.free) = false := by simpa using nofree y hy
    simp [z]
  have no : ∀ y, ¬ ((relabel scope X.env).names.lookup y = some .cell ∨ (relabel scope X.env).names.lookup y = some .free) := fun y h => by
    rw [er] at h
    rcases h with h | h
    · exact nocell _ (PySem.mem_of_lookup h) rfl
    · exact nofree _ (PySem.mem_of_lookup h) rfl
  refine ⟨closureFor_none nofree, kind, nocell, names, by rw [len]; rfl, fun i y e => ?_, (fun y c e => by cases e), fun y h => absurd h (no y)⟩
  have := (List.getElem?_eq_some_iff.mp e).1
  omega
def cmpStG (σ : St) (fr : List Nat) (ts : St) : St := ts ++ fr.map fun j => (σ[j]?).join
def CompAtG (J : It) (gt : TG) (k : Nat) (fr : List Nat) (tt : TT) (te : TE) (σ : St) (Q : VK) (H1 : Hp) : Prop := ∀ D, H1 D = none → ∃ W : Nat → Nat → Hp → Prop, (∃ m, W 0 m (upd H1 D (.lst []))) ∧ ∀ i m H, W i m H →
  (J.stop i H ∧ Q (.ref D) H) ∨ (J.go i H ∧ ∀ x H', J.yld i H x H' → ∀ ts : St, ts.length = k → gt x (cmpStG σ fr ts) H' fun σ2 H2 => (∃ ts2 : St, ts2.length = k ∧ σ2 = cmpStG σ fr ts2) ∧ tt σ2 H2 fun b H3 => if b = true then te σ2 H3 fun y H4 => ∃ ys, H4 D = some (.lst ys) ∧ ys.length < sizeLine ∧ ∃ m', m' < m ∧ W (i + 1) m' (upd H4 D (.lst (ys ++ [y])))
    else ∃ m', m' < m ∧ W (i + 1) m' H3)
def tCompG (wi : TI) (gt : TG) (k : Nat) (fr : List Nat) (tt : TT) (te : TE) : TE := fun σ H Q => wi σ H fun J H1 => CompAtG J gt k fr tt te σ Q H1
section
variable {X : Cx} {elt iter tg : Expr} {ifs : List Expr} {pos : Pos} {scope : Scope} {cl : List (Str × Addr)} {N : List Str} {k : Nat} {fr : List Nat} {gt : TG} {tt : TT} {te : TE}
theorem comp_coreG {pins : List (Addr × Obj)} {σ : St} {s2 : Shared} {H2 : Hp} {it : Addr} {fp : List Addr} {tn : Nat → Heap → Prop} {J : It} {Q : VK} {E : Value → Shared → Prop} {RR : Value → Addr → Result → Shared → Prop}
    (O : CmpOkG X N k fr scope cl) (hc : X.calm = true) (I2 : Inv X pins σ H2 s2) (T : Turn X.prog X.w X.K tg J fp it tn) (st2 : tn 0 s2.heap) (f2 : ∀ b ∈ fp, FpOk X pins H2 b)
    (ht : ∀ fp C s H, PIf (cmpCx X N scope cl fp C s H) ifs tt) (he : ∀ fp C s H, PE (cmpCx X N scope cl fp C s H) elt te)
    (hg : ∀ fp C s H, PG (cmpCx X N scope cl fp C s H) tg gt) (hW : CompAtG J gt k fr tt te σ Q H2)
    (fin : ∀ D C s' H', s2.heap.objs.size ≤ C → H' C = none → (∃ m, s'.heap.Ns C m) → Inv X pins σ H' s' → Q (.ref D) H' → RR (.ref D) C (.ok .next) s') :
    wpAny (model X.prog X.w) X.A (newList []) (fun acc s3 => wpAny (model X.prog X.w) X.A (newFunctionEnv scope X.env.globals cl [] X.env.qual none .none (some X.env)) (fun cenv s4 =>
      codeAny (model X.prog X.w) X.A (.compStart (.ListComp elt [⟨tg, iter, ifs, 0⟩] scope pos) 0 (.ref it) acc { cenv with scope := relabel scope X.env }) (RR acc cenv.locals) s4) E s3) E s2 := by
  refine wpAny_newObj_type (wpAny_newFunctionEnv O.nocell (by intro y hy; simp at hy) (fun h1 hns hsb => ?_) O.kind)
  dsimp only at hns hsb ⊢
  generalize hG : s2.heap.push { cls := .type "list", dict := none, data := .seq ([] : List Value).toArray } = G at hns hsb ⊢
  have hC : G.objs.size = s2.heap.objs.size + 1 := by rw [← hG, Heap.size_push]
  have old : ∀ b o, s2.heap.get? b = some o → h1.get? b = some o := fun b o e => hsb.extBut b o (Nat.ne_of_lt (by rw [hC]; exact Nat.lt_succ_of_lt (Heap.lt_size e))) (Heap.get?_push_of_some _ (hG ▸ Heap.get?_push_of_some _ e))
  have hacc : h1.get? s2.heap.objs.size = some { cls := .type "list", data := .seq ([] : List Value).toArray 0 } := hsb.extBut _ _ (Nat.ne_of_lt (by rw [hC]; exact Nat.lt_succ_self _)) (Heap.get?_push_of_some _ (hG ▸ Heap.get?_push_size _ rfl))
  have hD : H2 s2.heap.objs.size = none := I2.fresh
  have okX : (cmpCx X N scope cl fp G.objs.size s2 H2).Ok := by
    refine ⟨I2.ok.mod, O.kind, I2.ok.glob, I2.ok.blt, by show s2.heap.objs.size ≤ G.objs.size; rw [hC]; exact Nat.le_succ _, fun y z c e1 e2 => I2.ok.inj y z c (O.cells y c e1) (O.cells z c e2), fun y hy => O.has y hy, fun y c z => absurd (show false = true from z) Bool.false_ne_true, I2.ok.hd, I2.ok.frames, .inl rfl,
      fun b hb => ⟨?_, fun y c e => (f2 b hb).2.2.2.2.1 y c (O.cells y c e)⟩, I2.bs, Nat.le_trans I2.ok.bsz I2.sz, fun b o e hb => ?_, fun b hb z => ?_, I2.stack, I2.stkFree⟩
    · obtain ⟨o, e, _⟩ := T.obj _ _ st2 b hb
      show b ≠ G.objs.size
      exact Nat.ne_of_lt (by rw [hC]; exact Nat.lt_succ_of_lt (Heap.lt_size e))
    · rcases (f2 b hb).2.2.2.1 with z | z
      · exact I2.ok.noex b o e z
      · exact absurd (Nat.lt_of_lt_of_le (Heap.lt_size e) (Nat.le_trans I2.ok.bsz z)) (Nat.lt_irrefl _)
    · rcases List.mem_cons.mp (I2.stkSub b z) with z | z
      · exact (f2 b hb).2.1 z
      · exact (f2 b hb).2.2.1 z
  have statX : ∀ {H' : Hp}, (∀ b ∈ fp, H' b = none) → ∀ b ∈ fp, FpOk (cmpCx X N scope cl fp G.objs.size s2 H2) [] H' b := fun hn b hb =>
    ⟨hn b hb, (okX.exf b hb).1, okX.exfs b hb, .inl hb, (okX.exf b hb).2, fun p hp => absurd (show p ∈ ([] : List (Addr × Obj)) from hp) (by simp)⟩
  have I' : Inv (cmpCx X N scope cl fp G.objs.size s2 H2) [] (cmpStG σ fr (List.replicate k none)) (upd H2 s2.heap.objs.size (.lst [])) { s2 with heap := h1, toks := s2.toks + ([] : List (Str × Value)).length } := by
    refine ⟨okX, rfl, I2.bare, Un.laid old (Nat.le_refl _) hD, ⟨_, hns, fun i y v e1 e2 e3 => ?_⟩, fun y c e => ?_, ?_, fun y c e => ?_, fun p hp => absurd (show p ∈ ([] : List (Addr × Obj)) from hp) (by simp), I2.hok.laid old (Nat.le_refl _) ⟨Nat.zero_le _, [], 0, .nil, hacc⟩, ?_⟩
    · by_cases hik : i < k
      · have e2' : (List.replicate k none ++ fr.map fun j => (σ[j]?).join)[i]? = some (some v) := e2
        rw [List.getElem?_append_left (by rw [List.length_replicate]; exact hik), List.getElem?_replicate, if_pos hik] at e2'
        cases e2'
      · obtain ⟨j, q1, q2, q3, q4⟩ := O.sub (i - k) y (by rw [show k + (i - k) = i by omega]; exact e1)
        have e2' : (σ[j]?).join = some v := by
          have : (List.replicate k none ++ fr.map fun j => (σ[j]?).join)[i]? = some (some v) := e2
          rw [List.getElem?_append_right (by rw [List.length_replicate]; omega), List.length_replicate, List.getElem?_map, q1] at this
          exact Option.some.inj this
        have e4 : σ[j]? = some (some v) := by
          cases z : σ[j]? with
          | none => rw [z] at e2'; cases e2'
          | some t => rw [z] at e2'; exact congrArg some e2'
        obtain ⟨m, _, hl⟩ := I2.loc
        have vis : Vis X.env.scope y := .inr q3
        obtain ⟨u, r, l⟩ := hl j y v q2 e4 vis
        refine ⟨u, r, .inr ⟨q4, ?_⟩⟩
        obtain ⟨c', hc'⟩ := O.has y q4
        rcases l with ⟨k, _⟩ | ⟨_, c, ec, ic⟩
        · rcases q3 with z | z
          · rw [z] at k; cases k
          · rw [z] at k; cases k
        · have := O.cells y c' hc'
          have e' : c = c' := Option.some.inj (ec.symm.trans this)
          obtain ⟨o, ho, hd⟩ := ic
          rw [e'] at ho
          exact ⟨c', hc', o, old c' o ho, hd⟩
    · obtain ⟨v, o, ho, hd⟩ := I2.cell y c (O.cells y c e)
      exact ⟨v, o, old c o ho, hd⟩
    · show upd H2 s2.heap.objs.size (.lst []) G.objs.size = none
      rw [upd_ne (Nat.ne_of_gt (by rw [hC]; exact Nat.lt_succ_self _))]
      exact I2.hok.fresh (by rw [hC]; exact Nat.le_succ _)
    · obtain ⟨v, o, ho, hd⟩ := I2.cell y c (O.cells y c e)
      rw [upd_ne (Nat.ne_of_lt (Heap.lt_size ho))]
      exact I2.freeC y c (O.cells y c e)
    · show (cmpStG σ fr (List.replicate k none)).length = N.length
      rw [O.len]; simp [cmpStG]
  have st1 : tn 0 h1 := T.keep _ _ _ st2 fun b hb o e => old b o e
  have loop : ∀ s3 : Shared, s3 = { s2 with heap := h1, toks := s2.toks + ([] : List (Str × Value)).length } →
      codeAny (model X.prog X.w) X.A (.compLoop (.ListComp elt [⟨tg, iter, ifs, 0⟩] scope pos) 0 (.ref it) (.ref s2.heap.objs.size) (compEnvC scope cl G.objs.size X.env)) (RR (.ref s2.heap.objs.size) G.objs.size) s3 := by
    rintro s3 rfl
    obtain ⟨W, ⟨m0, w0⟩, turn⟩ := hW _ hD
    refine comp_turns (fun n s' => ∃ i ts H', ts.length = k ∧ Inv (cmpCx X N scope cl fp G.objs.size s2 H2) [] (cmpStG σ fr ts) H' s' ∧ tn i s'.heap ∧ (∀ b ∈ fp, H' b = none) ∧ W i n H') ?_ m0
      ⟨0, List.replicate k none, _, List.length_replicate, I', st1, fun b hb => by
        rw [upd_ne (by obtain ⟨o, e, _⟩ := T.obj _ _ st2 b hb; exact Nat.ne_of_lt (Heap.lt_size e))]
        exact (f2 b hb).1, w0⟩
    rintro n s' ⟨i, ts, H', hts, I3, st3, fr3, w3⟩
    rcases turn i n H' w3 with ⟨stop, qn⟩ | ⟨go, step⟩
    · refine thn (T.done (cmpCx X N scope cl fp G.objs.size s2 H2) rfl rfl rfl hc i [] s' _ H' _ I3 (statX fr3) st3 stop) fun r s4 ⟨hr, I4⟩ => ?_
      subst hr
      obtain ⟨m, hm, _⟩ := I4.loc
      refine fin _ _ s4 H' (by rw [hC]; exact Nat.le_succ _) I4.free ⟨m, hm⟩ (I2.call' (ch := fp) I4.os I4.base I4.hok I4.bare fun b hb => ?_) qn
      exact ⟨(f2 b hb).2.2.2.1, (f2 b hb).2.1, (f2 b hb).2.2.2.2.1, (f2 b hb).2.2.2.2.2⟩
    · refine thn (T.item (cmpCx X N scope cl fp G.objs.size s2 H2) rfl rfl rfl hc i [] s' _ H' _ I3 (statX fr3) st3 go) fun r s4 ⟨u, hr, h4⟩ => ?_
      subst hr
      refine thn h4 fun _ s5 ⟨y, H5, I5, r5, y5, st5, fr5⟩ => ?_
      have I5' := I5.pinned (statX fr5) (T.obj _ _ st5)
      refine thn (hg fp G.objs.size s2 H2 _ s5 _ H5 y u _ I5' r5 (step y H5 y5 ts hts)) fun _ s6 ⟨σ6, H6, I6, ⟨ts6, hts6, e6⟩, q6⟩ => ?_
      subst e6
      have again : ∀ {σ7 : St} {H7 : Hp} {s7 : Shared} {m' : Nat}, σ7 = cmpStG σ fr ts6 → Inv (cmpCx X N scope cl fp G.objs.size s2 H2) ([] ++ pinsAt fp s5.heap) σ7 H7 s7 → m' < n → W (i + 1) m' H7 →
          ∃ m, m < n ∧ ∃ i ts H', ts.length = k ∧ Inv (cmpCx X N scope cl fp G.objs.size s2 H2) [] (cmpStG σ fr ts) H' s7 ∧ tn i s7.heap ∧ (∀ b ∈ fp, H' b = none) ∧ W i m H' := fun {σ7 H7 s7 m'} e7 I7 hm w7 => by
        subst e7
        refine ⟨m', hm, i + 1, ts6, H7, hts6, I7.unpinned, T.keep _ _ _ st5 fun b hb o e => (I7.pin (b, o) (List.mem_append_right _ (List.mem_append_right _ (mem_pinsAt hb e)))).1, fun b hb => ?_, w7⟩
        obtain ⟨o, e, d⟩ := T.obj _ _ st5 b hb
        exact (I7.pin (b, o) (List.mem_append_right _ (List.mem_append_right _ (mem_pinsAt hb e)))).2.1
      refine thn (ht fp G.objs.size s2 H2 _ s6 _ H6 _ I6 q6) fun ok s7 ⟨H7, I7, q7⟩ => ?_
      cases ok with
      | false =>
        rw [if_neg Bool.false_ne_true] at q7 ⊢
        obtain ⟨m', hm, w7⟩ := q7
        exact again rfl I7 hm w7
      | true =>
        rw [if_pos rfl] at q7 ⊢
        refine thn (he fp G.objs.size s2 H2 _ s7 _ H7 _ I7 q7) fun u8 s8 ⟨v8, H8, I8, r8, ys, hys, hlen, m', hm, w8⟩ => ?_
        refine thn (mt_append (X := cmpCx X N scope cl fp G.objs.size s2 H2) _ s8 _ H8 (.ref s2.heap.objs.size) [v8] _ [u8] (fun _ H9 => W (i + 1) m' H9) I8 rfl (.cons r8 .nil) ⟨_, ys, v8, rfl, rfl, hys, hlen, w8⟩) fun _ s9 ⟨_, H9, I9, _, w9⟩ => ?_
        exact again rfl I9 hm w9
  exact codeAny_compStart_list (loop _ rfl) (T.self _ 0 _ _ _ st1 (loop _ rfl))
theorem pe_compG {wi : TI} (hi : PI X tg iter wi) (O : CmpOkG X N k fr scope cl) (hc : X.calm = true) (hg : ∀ fp C s H, PG (cmpCx X N scope cl fp C s H) tg gt) (ht : ∀ fp C s H, PIf (cmpCx X N scope cl fp C s H) ifs tt) (he : ∀ fp C s H, PE (cmpCx X N scope cl fp C s H) elt te)
    (hs : ∀ v, foldedSetIterable iter X.env v = pure v := by intro _; rfl) : PE X (.ListComp elt [⟨tg, iter, ifs, 0⟩] scope pos) (tCompG wi gt k fr tt te) := by
  intro pins s σ H Q I h
  rw [eval_ListComp]
  refine wpAny_comprehension_free (use := none) rfl hs O.clos O.kind O.names (thn (hi pins s σ H _ I h) fun v s1 h1 => thn h1 fun itv s2 h2 => ?_)
  obtain ⟨it, fp, tn, J, H2, e, I2, T, st2, f2, hW⟩ := h2
  subst e
  refine comp_coreG (RR := fun acc C => compPost (model X.prog X.w) X.A X.xe none (EP X pins σ Q) acc C) O hc I2 T st2 f2 ht he hg hW fun D C s' H' hC hn ⟨m, hm⟩ I' q => ?_
  exact ⟨m, hm, fun h' hs' => ⟨.ref D, H', I2.left I' hC hn hs', rfl, q⟩⟩
theorem compG_list {K : PySem.W.Frag} {a : Addr} {xs : List V} {σ : St} {H1 : Hp} {Q : VK} (Pv : Addr → Nat → List V → Hp → Prop) (h0 : ∀ D, H1 D = none → Pv D 0 [] (upd H1 D (.lst [])))
    (hk : ∀ D i ys H, H1 D = none → i ≤ xs.length → Pv D i ys H → SqL K H a xs)
    (hs : ∀ D i x ys H, H1 D = none → xs[i]? = some x → Pv D i ys H → ∀ ts : St, ts.length = k → gt x (cmpStG σ fr ts) H fun σ2 H2 => (∃ ts2 : St, ts2.length = k ∧ σ2 = cmpStG σ fr ts2) ∧ tt σ2 H2 fun b H3 => if b = true then te σ2 H3 (CYes Pv D i xs.length) else CNext Pv D i xs.length H3)
    (hd : ∀ D ys H, H1 D = none → Pv D xs.length ys H → Q (.ref D) H) : CompAtG (Itl K a) gt k fr tt te σ Q H1 := by
  intro D hD
  refine ⟨fun i m H => m = xs.length - i ∧ i ≤ xs.length ∧ ∃ ys, Pv D i ys H, ⟨_, rfl, Nat.zero_le _, [], h0 D hD⟩, ?_⟩
  rintro i m H ⟨rfl, hi, ys, p⟩
  have q := hk D i ys H hD hi p
  by_cases hlt : i < xs.length
  · refine .inr ⟨⟨xs, xs[i], q, by simp [hlt]⟩, fun x H' y => ?_⟩
    obtain ⟨e, y⟩ := y
    subst e
    exact hs D i x ys _ hD (y xs q) p
  · have e : i = xs.length := by omega
    subst e
    exact .inl ⟨⟨xs, q, Nat.le_refl _⟩, hd D ys H hD p⟩
end
theorem gTupK {X : Cx} {K : PySem.W.Frag} {es : List Expr} {k : Nat} {t : TGs} {n : Nat} {pos : Pos} (hK : X.K = K) (hc : X.calm = true) (h : PGs X es t) (hn : (assignEach es X.env).length = n := by rfl) (hst : (assignEach es X.env).findIdx? (·.1) = none := by rfl) : PG X (.Tuple es k pos) (gTup K n t) := hK ▸ pg_tup hc h hn hst
end L2

namespace Srt
open PySem PySem.W PyProof.Rows
/-- the tree's end under an oracle; each question is about places below n -/
def Ok (n : Nat) (lt : Nat → Nat → Bool) {α : Type} : KasT α → (α → Prop) → Prop
  | .ret a, Q => Q a
  | .ask i j k, Q => i < n ∧ j < n ∧ Ok n lt (k (lt i j)) Q
section
variable {n : Nat} {lt : Nat → Nat → Bool}
abbrev g (p : Array Nat) (i : Nat) : Nat := p.getD i 0
/-- p holds places below n alone -/
def Bd (n : Nat) (p : Array Nat) : Prop := 0 < n ∧ ∀ i, g p i < n
/-- ascending up to k; not ascending up to k -/
def Up (lt : Nat → Nat → Bool) (p : Array Nat) (k : Nat) : Prop := ∀ i j, i ≤ j → j < k → lt (g p j) (g p i) = false
def Dn (lt : Nat → Nat → Bool) (p : Array Nat) (k : Nat) : Prop := ∀ i j, i ≤ j → j < k → lt (g p i) (g p j) = false
structure Ord (lt : Nat → Nat → Bool) : Prop where
  tr : ∀ a b c, lt b a = false → lt c b = false → lt c a = false
  as : ∀ a b, lt a b = true → lt b a = false
/-- equal keys between a and b -/
def Eqs (lt : Nat → Nat → Bool) (p : Array Nat) (a b : Nat) : Prop := ∀ i j, a ≤ i → i < b → a ≤ j → j < b → lt (g p i) (g p j) = false
end
end Srt

namespace L2
open PySem PySem.Spec PySem.W PyProof.Rows
/-! ### sorted(..) of a short list of pairs of ints -/
def ltP (p q : Int × Int) : Bool := decide (p.1 < q.1) || (decide (p.1 = q.1) && decide (p.2 < q.2))
section
variable {prog : Program} {w : World} {A : Around} {E : Value → Shared → Prop} {s : Shared}
end
section
variable {X : Cx}
end
end L2

namespace L2
/-! ### both, gaps, without: the mathematics -/
/-- what the loop of both keeps: S told so far, A and B the rests -/
structure BothI (S A B A0 B0 : List Pr) : Prop where
  ap : Apart S
  aA : Apart A
  aB : Apart B
  mem : ∀ n, (inP A0 n && inP B0 n) = (inP S n || (inP A n && inP B n))
  gap : ∀ s ∈ S, (∀ p ∈ A, s.2 + 2 ≤ p.1) ∨ (∀ p ∈ B, s.2 + 2 ≤ p.1)
/-- what the loop of gaps keeps: F told so far of the spans T -/
structure GapI (F T : List Pr) (lo hi st : Int) : Prop where
  ap : Apart F
  lt : ∀ s ∈ F, s.2 + 2 ≤ st
  rng : ∀ s ∈ F, lo ≤ s.1 ∧ s.2 ≤ hi
  tk : ∀ p ∈ T, p.2 < st
  fr : st = lo ∨ ∃ p ∈ T, st = p.2 + 1
  ge : lo ≤ st
  mem : ∀ n, lo ≤ n → n ≤ hi → n < st → inP F n = !inP T n
end L2

namespace L2
/-! ### runs of pieces: the mathematics -/
/-- the pieces of a walk: each begins behind the one ahead of it -/
structure Walk (ts : List (Int × Int × Int)) : Prop where
  le : ∀ t ∈ ts, t.1 ≤ t.2.1
  nx : ∀ (i : Nat) a b, ts[i]? = some a → ts[i + 1]? = some b → b.1 = a.2.1 + 1
def pcs (msk : Int → Bool) (ts : List (Int × Int × Int)) (n : Int) : Bool := ts.any fun t => inR n (t.1, t.2.1) && msk t.2.2
/-- what the loop over the pieces keeps: R told of the first i pieces, at where the next one begins -/
structure RunI (R : List Pr) (ts : List (Int × Int × Int)) (msk : Int → Bool) (i : Nat) (at_ : Int) : Prop where
  ap : Apart R
  mem : ∀ n, inP R n = pcs msk (ts.take i) n
  lt : ∀ r ∈ R, r.2 < at_
  few : 2 * R.length ≤ i ∨ (2 * R.length ≤ i + 1 ∧ ∃ R' l, R = R' ++ [l] ∧ l.2 = at_ - 1)
section
variable {R : List Pr} {ts : List (Int × Int × Int)} {msk : Int → Bool} {i : Nat} {at_ : Int} {t : Int × Int × Int}
end
end L2

namespace L2
/-! ### edges: the mathematics -/
/-- each low, and the number behind each high -/
def ends (R : List Pr) : List Int := R.flatMap fun p => [p.1, p.2 + 1]
end L2

namespace L2
open PySem PySem.Spec PyProof.Rows
/-! ### sum of a list of ints; min of five ints -/
section
variable {X : Cx}
end
section
variable {prog : Program} {w : World} {A : Around} {E : Value → Shared → Prop} {s : Shared}
end
section
variable {X : Cx}
end
end L2

namespace L2
open PySem PySem.Spec PyProof.Rows
/-! ### texts: a loop over the signs, join, globals -/
/-- the signs of z, one by one -/
def Its (z : Str) : It := ⟨fun i _ => i < z.cps.size, fun i H x H' => H' = H ∧ ∃ c, z.cps[i]? = some c ∧ x = .str ⟨#[c]⟩, fun i _ => z.cps.size ≤ i⟩
theorem turn_ascii {P : Program} {w : World} {K : PySem.W.Frag} {tg : Expr} (z : Str) (t : Tok) (it : Addr) : Turn P w K tg (Its z) [it] it (fun i h => h.IsStrIter it "str_ascii_iterator" z t i) where
  mem := by simp
  obj := fun i h st b hb => by
    obtain ⟨o, e, c, d⟩ := st
    rw [show b = it by simpa using hb]
    exact ⟨o, e, fun v q => by rw [d] at q; cases q⟩
  keep := fun i h h' ⟨o, e, r⟩ k => ⟨o, k it (by simp) o e, r⟩
  item := by
    intro X hP hw hK hc i pins s σ H E I hf st hg
    subst hP hw hK
    have hlt : i < z.cps.size := hg
    have hi : z.cps[i]? = some z.cps[i] := Array.getElem?_eq_getElem hlt
    obtain ⟨f0, f1, f2, f3, f4, f5⟩ := hf it (by simp)
    refine wpAny_pyNext_ascii_item st hi fun h' st' sb => ?_
    have I1 : Inv X pins σ H { s with heap := h', toks := s.toks + 1 } := I.turned (t' := s.toks + 1) (fun b o hb e => (sb.2 b hb).trans e) f0 f1 f3 f4 f5
    obtain ⟨o, e, c, d⟩ := id st'
    exact ⟨_, rfl, go_of (s := { s with heap := h', toks := s.toks + 1 }) e c d (by decide) ⟨.str ⟨#[z.cps[i]]⟩, H, I1, ⟨_, rfl⟩, ⟨rfl, _, hi, rfl⟩, st', fun b hb => (hf b hb).1⟩⟩
  done := by
    intro X hP hw hK hc i pins s σ H E I hf st hg
    subst hP hw hK
    obtain ⟨f0, f1, f2, f3, f4, f5⟩ := hf it (by simp)
    exact wpAny_pyNext_ascii_end (I.ok.hd hc) st (by simpa using (show z.cps.size ≤ i from hg)) fun h' eb => ⟨rfl, I.turned (t' := s.toks) (fun b o hb e => eb b o hb e) f0 f1 f3 f4 f5⟩
  self := fun _ _ _ _ _ st h => wpAny_pyIter_striter_ascii st h
theorem turn_wide {P : Program} {w : World} {K : PySem.W.Frag} {tg : Expr} (z : Str) (t : Tok) (it : Addr) : Turn P w K tg (Its z) [it] it (fun i h => h.IsStrIter it "str_iterator" z t i) where
  mem := by simp
  obj := fun i h st b hb => by
    obtain ⟨o, e, c, d⟩ := st
    rw [show b = it by simpa using hb]
    exact ⟨o, e, fun v q => by rw [d] at q; cases q⟩
  keep := fun i h h' ⟨o, e, r⟩ k => ⟨o, k it (by simp) o e, r⟩
  item := by
    intro X hP hw hK hc i pins s σ H E I hf st hg
    subst hP hw hK
    have hlt : i < z.cps.size := hg
    have hi : z.cps[i]? = some z.cps[i] := Array.getElem?_eq_getElem hlt
    obtain ⟨f0, f1, f2, f3, f4, f5⟩ := hf it (by simp)
    refine wpAny_pyNext_wide_item st hi fun h' st' sb => ?_
    have I1 : Inv X pins σ H { s with heap := h', toks := s.toks + 1 } := I.turned (t' := s.toks + 1) (fun b o hb e => (sb.2 b hb).trans e) f0 f1 f3 f4 f5
    obtain ⟨o, e, c, d⟩ := id st'
    exact ⟨_, rfl, go_of (s := { s with heap := h', toks := s.toks + 1 }) e c d (by decide) ⟨.str ⟨#[z.cps[i]]⟩, H, I1, ⟨_, rfl⟩, ⟨rfl, _, hi, rfl⟩, st', fun b hb => (hf b hb).1⟩⟩
  done := by
    intro X hP hw hK hc i pins s σ H E I hf st hg
    subst hP hw hK
    obtain ⟨f0, f1, f2, f3, f4, f5⟩ := hf it (by simp)
    exact wpAny_pyNext_wide_end (I.ok.hd hc) st (by simpa using (show z.cps.size ≤ i from hg)) fun h' eb => ⟨rfl, I.turned (t' := s.toks) (fun b o hb e => eb b o hb e) f0 f1 f3 f4 f5⟩
  self := fun _ _ _ _ _ st h => wpAny_pyIter_striter_wide st h
section
variable {X : Cx} {tg : Expr}
def iStr (tl : TE) : PySem.W.Frag → St → Hp → (It → Hp → Prop) → Prop := fun _ σ H R => tl σ H fun x H1 => ∃ z, x = .str z ∧ R (Its z) H1
theorem pi_str {l : Expr} {tl : TE} (hl : PE X l tl) : PI X tg l (iStr tl X.K) := by
  intro pins s σ H R I h
  refine thn (hl pins s σ H _ I h) fun v s1 ⟨x, H1, I1, r1, q1⟩ => ?_
  obtain ⟨z, e, q⟩ := q1
  subst e
  obtain ⟨t, rfl⟩ := r1
  have fpo : ∀ b ∈ [s1.heap.objs.size], FpOk X pins H1 b := fun b hb => by
    rw [show b = s1.heap.objs.size by simpa using hb]
    exact I1.fpOk (Nat.le_refl _) (I1.hok.fresh (Nat.le_refl _))
  cases ha : z.cps.all (· < 128) with
  | true => exact wpAny_pyIter_ascii ha ⟨s1.heap.objs.size, [s1.heap.objs.size], _, _, H1, rfl, I1.kept (t' := s1.toks) fun b o e => Heap.get?_push_of_some _ e, turn_ascii z t _, ⟨_, Heap.get?_push_size _ rfl, rfl, rfl⟩, fpo, q⟩
  | false => exact wpAny_pyIter_wide ha ⟨s1.heap.objs.size, [s1.heap.objs.size], _, _, H1, rfl, I1.kept (t' := s1.toks) fun b o e => Heap.get?_push_of_some _ e, turn_wide z t _, ⟨_, Heap.get?_push_size _ rfl, rfl, rfl⟩, fpo, q⟩
end
theorem for_str {z : Str} {g : TG} {tb : TS} {D : Ends} {σ : St} {H : Hp} (Pv : Nat → St → Hp → Prop) (h0 : Pv 0 σ H)
    (hs : ∀ i c σ H, z.cps.toList[i]? = some c → Pv i σ H → g (.str ⟨#[c]⟩) σ H fun σ2 H2 => tb { D with nx := Pv (i + 1), ct := Pv (i + 1), bk := D.nx } σ2 H2) (hd : ∀ σ H, Pv z.cps.size σ H → D.nx σ H) :
    ∃ W : Nat → Nat → St → Hp → Prop, (∃ m, W 0 m σ H) ∧ ∀ i m σ H, W i m σ H →
      ((Its z).stop i H ∧ D.nx σ H) ∨ ((Its z).go i H ∧ ∃ N : St → Hp → Prop, (∀ σ' H', N σ' H' → ∃ m', m' < m ∧ W (i + 1) m' σ' H') ∧ ∀ x H', (Its z).yld i H x H' → g x σ H' fun σ2 H2 => tb { D with nx := N, ct := N, bk := D.nx } σ2 H2) := by
  refine ⟨fun i m σ H => m = z.cps.size - i ∧ i ≤ z.cps.size ∧ Pv i σ H, ⟨_, rfl, Nat.zero_le _, h0⟩, ?_⟩
  rintro i m σ H ⟨rfl, hi, p⟩
  by_cases hlt : i < z.cps.size
  · refine .inr ⟨hlt, Pv (i + 1), fun σ' H' p' => ⟨z.cps.size - (i + 1), by omega, rfl, hlt, p'⟩, fun x H' y => ?_⟩
    obtain ⟨e, c, y1, y2⟩ := y
    subst e; subst y2
    exact hs i c σ _ (by simpa using y1) p
  · have e : i = z.cps.size := by omega
    subst e
    exact .inl ⟨Nat.le_refl _, hd σ H p⟩
theorem strs_are : ∀ {ys : List Str} {us : List Value}, Vals (ys.map V.str) us → StrsAre us ys
  | [], _, .nil => .nil
  | y :: ys, _, .cons r t => by
    obtain ⟨t0, rfl⟩ := r
    exact .cons y t0 (strs_are t)
section
variable {X : Cx}
/-- sep.join(xs), xs a list of texts -/
def rJoin (K : PySem.W.Frag) : V → List V → Hp → VK → Prop := fun x vs H Q => ∃ (z : Str) (a : Addr) (ys : List Str), x = .str z ∧ vs = [.ref a] ∧ SqL K H a (ys.map V.str) ∧ z.length ≤ 64 ∧ (ys.map (·.length)).sum + ys.length * 64 ≤ 16777216 ∧ Q (.str (Txt.join z ys)) H
theorem mt_join : MtM X "str.join" (rJoin X.K) := by
  intro pins s σ H x vs v us Q I rx rv h
  obtain ⟨z, a, ys, rfl, rfl, hq, h1, h2, q⟩ := h
  obtain ⟨t, rfl⟩ := rx
  obtain ⟨u, rfl, ru⟩ := rv.one
  cases (show u = Value.ref a from ru)
  obtain ⟨its, r, pl, hz⟩ := I.list hq
  exact join_listC pl.isList (by simpa using strs_are r) h1 h2 fun t' k => ⟨.str (Txt.join z ys), H, I.tok k, ⟨_, rfl⟩, q⟩
/-- a global whose value is known -/
theorem pe_gl {x : Str} {v : V} {pos : Pos} (hg : Gl X x) (h : ∃ u, X.mg x = some u ∧ RelV v u) (hd : (x == ("__debug__" : Str)) = false := by decide) : PE X (.Name x pos) (tC v) :=
  let ⟨_, m, r⟩ := h
  pe_glob hg m r hd
end
/-- a sign that stands in g -/
def sg (g : Str) (c : Nat) : Bool := !(Builtin.Str.occurrences g ⟨#[c]⟩ 0 g.length 1).isEmpty
def allIn (z g : Str) : Bool := z.cps.toList.all (sg g)
end L2

namespace L2
open PySem PySem.Spec PyProof.Rows PySem.NumText
/-! ### texts of numbers: slices, startswith, int(text), figures -/
section
variable {X : Cx}
/-- z[lo:hi] -/
def rSlS : V → Option Int → Option Int → Hp → VK → Prop := fun x lo hi H Q => ∃ z, x = .str z ∧ z.length ≤ sizeLine ∧ Q (.str (Txt.slice z lo hi)) H
def rStarts : V → List V → Hp → VK → Prop := fun x vs H Q => ∃ z y : Str, x = .str z ∧ vs = [.str y] ∧ Q (.bl (Txt.startswith z y)) H
end
/-! figures -/
/-- figures with no nought ahead -/
structure Figs (cs : List Nat) : Prop where
  all : AllDigits cs
  one : cs.length = 1 ∨ ∃ c r, cs = c :: r ∧ 49 ≤ c
/-- the signs of str(n) -/
def numCs (n : Int) (cs : List Nat) : List Nat := if n < 0 then 45 :: cs else cs
end L2

/-! ### the script's numbers are of a bounded size -/
namespace L2
open PySem PySem.Spec PyProof.Rows PySem.W
end L2

namespace L2
open PySem PySem.Spec PyProof.Rows
/-! ### exceptions of own classes: raised, passed on, caught -/
/-- an exception: its own record and the head of its trace -/
def ExcT (h : Heap) (e T : Addr) (cls a0 : Value) : Prop :=
  ∃ oe vs oT ts, h.get? e = some oe ∧ (oe.cls = cls ∧ vs[0]? = some a0) ∧ oe.data = .fields vs ∧ vs[1]? = some (.ref T) ∧ T ≠ e ∧ h.get? T = some oT ∧ oT.data = .fields ts ∧ ts[3]? = some .none
/-- what a step of a trace changes: the records at X, the slots of the frames at F -/
structure Stp (F X : List Addr) (h h' : Heap) : Prop where
  keep : ∀ b o, b ∉ F → b ∉ X → h.get? b = some o → h'.get? b = some o
  slot : ∀ b o, b ∈ F → h.get? b = some o → ∃ sl, h'.get? b = some { o with slots := sl }
section
variable {M : Model} {A : Around} {E : Value → Shared → Prop} {s : Shared} {base : Heap} {env : Env} {outer : List Env} {L e T : Addr} {oe : Obj} {vs : Array Value} {a0 cls : Value} {Q : Unit → Shared → Prop}
end
end L2

namespace L2
open PySem PySem.Spec PyProof.Rows
section
variable {P : Program} {w : World} {H H' : Hp} {h h' : Heap} {a : Addr} {o : HO} {F Y fs : List Addr}
end
/-- how an exception of an own class lies behind a call -/
def CX1 (P : Program) (w : World) : CXT := fun outer H s E ev s' => ∃ (e T C : Addr) (a0 : Value) (H' : Hp), ev = .ref e ∧ s'.os = s.os ∧ AllBare s'.gens ∧ Un (frs outer) [] H H' s.heap s'.heap ∧ HOk P w H' s'.heap ∧
  ExcT s'.heap e T (.ref C) a0 ∧ s.heap.get? e = none ∧ s.heap.get? T = none ∧ H' e = none ∧ H' T = none ∧ E (.ref C) none H'
/-- a record that is new to a body, not its frame's, not pinned -/
structure NewAt (X : Cx) (pins : List (Addr × Obj)) (H : Hp) (b : Addr) : Prop where
  ent : X.s₀.heap.get? b = none
  unt : H b = none
  loc : b ≠ X.env.locals
  cel : ∀ x c, X.env.cells.lookup x = some c → c ≠ b
  pin : ∀ p ∈ X.pn ++ pins, p.1 ≠ b
section
variable {X : Cx} {pins : List (Addr × Obj)} {σ : St} {H : Hp} {s : Shared} {h' : Heap} {e T : Addr}
end
/-! raise -/
/-- a class of the text below a built-in exception -/
structure ExcCls (K : PySem.W.Frag) (C : Addr) : Prop where
  ex : ∃ (bmB bmN : List Value) (newId B Bn nid initId inN : String), PySem.W.excIn K C bmB newId = true ∧ ExcBaseFacts Bn newId inN bmN ∧ bmB.contains (Value.type Bn) = true ∧ ExcBaseFacts B nid initId bmB
section
variable {P : Program} {w : World} {K : PySem.W.Frag} {mg : Str → Option Value} {base : Heap} {N : List Str} {qual : Str} {scope : Scope} {f : Addr} {cd : Value} {A : Around} {outer : List Env} {s0 : Shared} {H0 : Hp} {E : XK}
def tRaise (C : Addr) (E : XK) (t : TA) : TS := fun _ σ H => t σ H fun vs H1 => vs.length ≤ sizeLine ∧ E (.ref C) none H1
end
end L2

namespace L2
open PySem PySem.Spec PyProof.Rows
/-! ### a call that may raise; try with one except clause -/
/-- behind an exception, in the frame that sees it -/
def XP (X : Cx) (pins : List (Addr × Obj)) (σ : St) (EX : Addr → Hp → Prop) (ev : Value) (s' : Shared) : Prop :=
  ∃ (e T C : Addr) (a0 : Value) (H' : Hp), ev = .ref e ∧ Inv X pins σ H' s' ∧ ExcT s'.heap e T (.ref C) a0 ∧ NewAt X pins H' e ∧ NewAt X pins H' T ∧ EX C H'
abbrev TX := St → Hp → VK → (Addr → Hp → Prop) → Prop
def PEX (X : Cx) (e : Expr) (t : TX) : Prop :=
  ∀ (pins : List (Addr × Obj)) (s : Shared) (σ : St) (H : Hp) (Q : VK) (EX : Addr → Hp → Prop), Inv X pins σ H s → t σ H Q EX → wpAny (model X.prog X.w) X.A (eval e X.env) (EP X pins σ Q) (XP X pins σ EX) s
/-- a def that may raise, bundled -/
def CalleeX (P : Program) (w : World) (K : PySem.W.Frag) (mg : Str → Option Value) (base : Heap) (k : Nat) (x : Str) (ps : List Str) (sp : Sp) : Prop :=
  ∃ f fd, FnOk P w K mg base (CX1 P w) k f fd ps sp ∧ Binds K fd ps [] ∧ PySem.W.keepIn K (.ref f) = true ∧ mg x = some (.ref f)
section
variable {X : Cx} {pins : List (Addr × Obj)} {σ : St} {H : Hp} {s s' : Shared}
end
section
variable {X : Cx} {k : Nat} {x : Str} {ps : List Str} {sp : Sp} {e : Expr} {es : List Expr} {t : TA} {p pos : Pos}
def tFnX (sp : Sp) (t : TA) : TX := fun σ H Q EX => t σ H fun vs H1 => sp vs H1 Q fun cv _ H2 => ∃ C, cv = .ref C ∧ EX C H2
abbrev TSX := Ends → St → Hp → (Addr → Hp → Prop) → Prop
/-- a statement that may raise, at the state it was begun with -/
def PSX (X : Cx) (st : Stmt) (t : TSX) : Prop :=
  ∀ (pins : List (Addr × Obj)) (s : Shared) (σ : St) (H : Hp) (D : Ends) (EX : Addr → Hp → Prop), Inv X pins σ H s → t D σ H EX → wpAny (model X.prog X.w) X.A (exec st X.env) (SP X pins D) (XP X pins σ EX) s
def tSetX (i : Nat) (te : TX) : TSX := fun D σ H EX => te σ H (fun v H1 => D.nx (σ.set i (some v)) H1) EX
def tDropX (te : TX) : TSX := fun D σ H EX => te σ H (fun _ H1 => D.nx σ H1) EX
end
/-! the except suite -/
/-- its context: the exception is handled, its record is pinned -/
def sfx (X : Cx) (e : Addr) (oe : Obj) : Cx := { X with A := X.A.mark (some (.ref e)), calm := false, pn := (e, oe) :: X.pn, xe := fun _ _ => False }
section
variable {X : Cx} {pins : List (Addr × Obj)} {σ : St} {H : Hp} {s s' : Shared} {e : Addr} {oe : Obj}
end

section
variable {X : Cx} {pins : List (Addr × Obj)} {σ : St} {H : Hp} {s : Shared}
end
def tTry (i : Nat) (B : Addr) (K : PySem.W.Frag) (G : Addr → Prop) (tb : TSX) (ts : Addr → Addr → TS) : TS := fun D σ H => tb D σ H fun C H1 => PySem.W.exmOne K (.ref C) (.ref B) = some true ∧ G C ∧
  ∀ e, ts C e { nx := fun σ' H' => D.nx (σ'.set i none) H', rt := D.rt, bk := fun σ' H' => D.bk (σ'.set i none) H', ct := fun σ' H' => D.ct (σ'.set i none) H' } (σ.set i (some (.ref e))) H1
section
variable {X : Cx} {st b₀ : Stmt} {su : List Stmt} {tb : TSX} {ts : Addr → Addr → TS} {Tn n : Str} {B : Addr} {i : Nat} {np hpos pos : Pos}
end
end L2

namespace L2
open PySem PySem.Spec PyProof.Rows
/-! ### isinstance of an exception of an own class -/
/-- what a class must have: below a built-in exception, no hooks of its own -/
structure ExcLook (K : PySem.W.Frag) (C : Addr) : Prop where
  ga : PySem.W.findIn K (.ref C) "__getattribute__" = some (some (.builtin "BaseException.__getattribute__"))
  hk : PySem.W.findIn K (.ref C) "__getattr__" = some none
  cl : PySem.W.findIn K (.ref C) "__class__" = some (some (.builtin "object.__class__"))
  gt : PySem.W.specialIn K (.builtin "object.__class__") "__get__" = some (some (.builtin "getset_descriptor.__get__"))
  tk : PySem.W.takesIn K (.builtin "object.__class__") = some true
  ob : PySem.W.mroIn K C (.type "object") = some true
  be : PySem.W.mroIn K C (.type "BaseException") = some true
  me : PySem.W.kitCls K (.ref C) (.ref C) = some true
section
variable {prog : Program} {w : World} {A : Around} {E : Value → Shared → Prop} {s : Shared} {K : PySem.W.Frag} {e C : Addr} {oe : Obj}
end
section
variable {X : Cx} {e C : Addr} {oe : Obj}
end
end L2

namespace L2
open PySem PySem.Spec PyProof.Rows
/-! ### f'{text!r} ..', a text times a number, find, join of more -/
section
variable {X : Cx}
def tFr (c : Str) (ta : TE) : TE := fun σ H Q => ta σ H fun x H1 => ∃ z : Str, x = .str z ∧ z.length ≤ 1000 ∧ (∀ n ∈ z.cps.toList, n < 16 ^ 8) ∧ c.length ≤ 1000 ∧ ∀ z2 : Str, Q (.str z2) H1
def rFind : V → List V → Hp → VK → Prop := fun x vs H Q => ∃ z y : Str, x = .str z ∧ vs = [.str y] ∧ Q (.int (Txt.find z y)) H
end
end L2

namespace L2
open PySem PySem.Spec PyProof.Rows
/-! ### own classes: methods bundled, instances made, a method of a class above called by that class's name; calls of these that may raise -/
/-- a method of the class at C, bundled -/
def MCallee (CX : CXT) (P : Program) (w : World) (K : PySem.W.Frag) (mg : Str → Option Value) (base : Heap) (k : Nat) (C : Addr) (m : Str) (ps : List Str) (sp : Sp) : Prop :=
  ∃ f fd, Meth K C m f ∧ FnOk P w K mg base CX k f fd ps sp ∧ Binds K fd ps []
/-- a class that can be made, bundled with its __init__ -/
def MkCallee (CX : CXT) (P : Program) (w : World) (K : PySem.W.Frag) (mg : Str → Option Value) (base : Heap) (k : Nat) (x : Str) (C : Addr) (ps : List Str) (sp : Sp) : Prop :=
  ∃ f fd, Mk K C f ∧ FnOk P w K mg base CX k f fd ps sp ∧ Binds K fd ps [] ∧ mg x = some (.ref C)
/-- what the text must have for B.m(..) -/
structure BaseM (K : PySem.W.Frag) (B : Addr) (m : Str) (f : Addr) : Prop where
  sp : PySem.W.specialIn K (.ref B) "__getattribute__" = some (some (.builtin "type.__getattribute__"))
  rd : PySem.W.readsIn K B (.type "type") = true
  at_ : PySem.W.findCls K (.ref B) (.type "type") m = some (.val (.ref f))
  kp : PySem.W.keepIn K (.ref f) = true
def BCallee (CX : CXT) (P : Program) (w : World) (K : PySem.W.Frag) (mg : Str → Option Value) (base : Heap) (k : Nat) (x : Str) (m : Str) (ps : List Str) (sp : Sp) : Prop :=
  ∃ f fd B, BaseM K B m f ∧ FnOk P w K mg base CX k f fd ps sp ∧ Binds K fd ps [] ∧ mg x = some (.ref B)
section
variable {CX : CXT} {P : Program} {w : World} {K : PySem.W.Frag} {mg : Str → Option Value} {base : Heap} {j k : Nat} {C : Addr} {x m : Str} {ps : List Str} {sp : Sp}
theorem MCallee.mono (c : MCallee CX P w K mg base j C m ps sp) (h : j ≤ k) : MCallee CX P w K mg base k C m ps sp :=
  let ⟨f, fd, M, F, b⟩ := c
  ⟨f, fd, M, F.mono h, b⟩
theorem MkCallee.mono (c : MkCallee CX P w K mg base j x C ps sp) (h : j ≤ k) : MkCallee CX P w K mg base k x C ps sp :=
  let ⟨f, fd, M, F, b⟩ := c
  ⟨f, fd, M, F.mono h, b⟩
theorem BCallee.mono (c : BCallee CX P w K mg base j x m ps sp) (h : j ≤ k) : BCallee CX P w K mg base k x m ps sp :=
  let ⟨f, fd, B, M, F, b⟩ := c
  ⟨f, fd, B, M, F.mono h, b⟩
end
/-- the readings -/
def tMt (C : Addr) (m : Str) (sp : Sp) (ta : TE) (t : TA) : TE := fun σ H Q => ta σ H fun x H1 => ∃ a dx fs, x = .ref a ∧ H1 a = some (.ins C dx fs) ∧ fs.lookup m = none ∧ t σ H1 fun vs H2 => sp (x :: vs) H2 Q E0
def tMk (C : Addr) (sp : Sp) (t : TA) : TE := fun σ H Q => t σ H fun vs H1 => ∀ x dx, H1 x = none → H1 dx = none → dx ≠ x →
  sp (.ref x :: vs) (upd (upd H1 dx (.own x)) x (.ins C dx [])) (fun v H2 => v = .non ∧ Q (.ref x) H2) E0
def tMtX (C : Addr) (m : Str) (sp : Sp) (ta : TE) (t : TA) : TX := fun σ H Q EX => ta σ H fun x H1 => ∃ a dx fs, x = .ref a ∧ H1 a = some (.ins C dx fs) ∧ fs.lookup m = none ∧ t σ H1 fun vs H2 => sp (x :: vs) H2 Q fun cv _ H3 => ∃ C', cv = .ref C' ∧ EX C' H3
def tMkX (C : Addr) (sp : Sp) (t : TA) : TX := fun σ H Q EX => t σ H fun vs H1 => ∀ x dx, H1 x = none → H1 dx = none → dx ≠ x →
  sp (.ref x :: vs) (upd (upd H1 dx (.own x)) x (.ins C dx [])) (fun v H2 => v = .non ∧ Q (.ref x) H2) fun cv _ H3 => ∃ C', cv = .ref C' ∧ EX C' H3
section
variable {X : Cx} {CX : CXT} {k : Nat} {f C : Addr} {fd : FuncData} {ps : List Str} {sp : Sp} {x m : Str} {p np pos apos : Pos} {e o : Expr} {es : List Expr} {ta : TE} {t : TA}
theorem run0 {pins : List (Addr × Obj)} {σ : St} {H : Hp} {s : Shared} {Q : VK} {us : List Value} {vs : List V} {E : XK} (F : FnOk X.prog X.w X.K X.mg X.base CX k f fd ps sp) (hr : Room k X.A) (hb : Binds X.K fd ps []) (hx : Passes CX X E)
    (I : Inv X pins σ H s) (r : Vals vs us) (h : sp vs H Q E) : wpAny (model X.prog X.w) X.A (call (.ref f) us) (EP X pins σ Q) X.xe s :=
  run_fn (dvs := []) (ds := []) F hr hb .nil hx I r (by rw [List.append_nil]; exact h)
/-- o.m(e, ..) -/
theorem pe_mt {pl : Sem Bool} (M : MCallee CX X.prog X.w X.K X.mg X.base k C m ps sp) (hx : Passes CX X E0) (c : Cls X.K C) (hr : Room k X.A) (he : PE X o ta) (ha : PA X (e :: es) t)
    (hst : starEach (e :: es) X.env = (false, eval e X.env) :: starEach es X.env := by rfl) (hpl : (backTo pos (starEach es X.env)).any (·.1) = false := by rfl)
    (ht : eval (.Call (.Attribute o m apos) (e :: es) [] pos) X.env = (do
      let ov ← eval o X.env
      standAt apos.atName
      let (f, first) ← holding [ov] (getMethod ov m pl)
      callWith pos f first (backTo pos (starEach (e :: es) X.env)) (backToKw pos (keywordEach [] X.env))) := by rfl) :
    PE X (.Call (.Attribute o m apos) (e :: es) [] pos) (tMt C m sp ta t) := by
  obtain ⟨f, fd, hm, F, hb⟩ := M
  intro pins s σ H Q I h
  refine PySem.W.methodCall_KW (pl := pl) (thn (he pins s σ H _ I h) fun u s1 ⟨x, H1, I1, rx, a, dx, fs, ex, ea, l, q⟩ => ?_) ht
  subst ex
  obtain rfl : u = Value.ref a := rx
  refine getmeth_ok I1 ea c hm l ?_
  refine PySem.W.callWith_K (first := [.ref a]) (h₀ := X.base) I.ok.mod.kin hm.kp (thn (ha pos pins s1 σ H1 _ I1 q) fun us s2 ⟨vs, H2, I2, r, q2⟩ => ⟨I2.kIn, ?_⟩) hst hpl
  exact run0 (us := .ref a :: us) (vs := .ref a :: vs) F hr hb hx I2 (.cons rfl r) q2
/-- B.m(e, ..), m of the class B -/
theorem pe_base {pl : Sem Bool} (M : BCallee CX X.prog X.w X.K X.mg X.base k x m ps sp) (hx : Passes CX X E0) (hr : Room k X.A) (hg : Gl X x) (ha : PA X (e :: es) t) (hdb : (x == ("__debug__" : Str)) = false := by decide)
    (hst : starEach (e :: es) X.env = (false, eval e X.env) :: starEach es X.env := by rfl) (hpl : (backTo pos (starEach es X.env)).any (·.1) = false := by rfl)
    (ht : eval (.Call (.Attribute (.Name x np) m apos) (e :: es) [] pos) X.env = (do
      let ov ← eval (.Name x np) X.env
      standAt apos.atName
      let (f, first) ← holding [ov] (getMethod ov m pl)
      callWith pos f first (backTo pos (starEach (e :: es) X.env)) (backToKw pos (keywordEach [] X.env))) := by rfl) :
    PE X (.Call (.Attribute (.Name x np) m apos) (e :: es) [] pos) (tFn sp t) := by
  obtain ⟨f, fd, B, hB, F, hb, hm⟩ := M
  intro pins s σ H Q I h
  refine PySem.W.methodCall_KW (pl := pl) (ld_glob I hg hm ?_ hdb) ht
  refine PySem.W.method_cls I.kIn hB.sp (PySem.W.cls_value (mc := .type "type") I.kIn hB.rd hB.at_ (handed_of (v := .ref f) rfl) ?_)
  refine PySem.W.callWith_K (first := []) (h₀ := X.base) I.ok.mod.kin hB.kp (thn (ha pos pins _ σ H _ (I.tok _) h) fun us s2 ⟨vs, H2, I2, r, q2⟩ => ⟨I2.kIn, ?_⟩) hst hpl
  exact run0 (us := us) (vs := vs) F hr hb hx I2 r q2
/-- C(e, ..) -/
theorem pe_mk (M : MkCallee CX X.prog X.w X.K X.mg X.base k x C ps sp) (hx : Passes CX X E0) (hr : Room (k + 1) X.A) (hg : Gl X x) (ha : PA X (e :: es) t) (hdb : (x == ("__debug__" : Str)) = false := by decide)
    (he : starEach (e :: es) X.env = (false, eval e X.env) :: starEach es X.env := by rfl) (hpl : (backTo pos (starEach es X.env)).any (·.1) = false := by rfl) :
    PE X (.Call (.Name x p) (e :: es) [] pos) (tMk C sp t) := by
  obtain ⟨f, fd, M, F, hb, hm⟩ := M
  have h := pe_make (E := E0) (dvs := []) (ds := []) (p := p) M F hr hg hm hb .nil hx ha hdb he hpl
  intro pins s σ H Q I q
  refine h pins s σ H Q I ?_
  have q' : t σ H fun vs H1 => ∀ x dx, H1 x = none → H1 dx = none → dx ≠ x → sp (.ref x :: vs) (upd (upd H1 dx (.own x)) x (.ins C dx [])) (fun v H2 => v = .non ∧ Q (.ref x) H2) E0 := q
  show t σ H fun vs H1 => ∀ x dx, H1 x = none → H1 dx = none → dx ≠ x → sp (.ref x :: (vs ++ [])) (upd (upd H1 dx (.own x)) x (.ins C dx [])) (fun v H2 => v = .non ∧ Q (.ref x) H2) E0
  have e1 : (fun (vs : List V) (H1 : Hp) => ∀ x dx, H1 x = none → H1 dx = none → dx ≠ x → sp (.ref x :: (vs ++ [])) (upd (upd H1 dx (.own x)) x (.ins C dx [])) (fun v H2 => v = .non ∧ Q (.ref x) H2) E0) = fun vs H1 => ∀ x dx, H1 x = none → H1 dx = none → dx ≠ x → sp (.ref x :: vs) (upd (upd H1 dx (.own x)) x (.ins C dx [])) (fun v H2 => v = .non ∧ Q (.ref x) H2) E0 := by
    funext vs H1
    rw [List.append_nil]
  rw [e1]
  exact q'
end
/-! f'{value!r} ..' of a plain value -/
/-- what can be shown: none, a bool, a number of few figures, a text of small signs -/
inductive Shw : V → Prop where
  | non : Shw .non
  | bl (b : Bool) : Shw (.bl b)
  | int {i : Int} (h : i.natAbs < 10 ^ 60) : Shw (.int i)
  | str {z : Str} (h : z.length ≤ 1000) (k : ∀ n ∈ z.cps.toList, n < 16 ^ 8) : Shw (.str z)
section
variable {X : Cx}
def tFrV (c : Str) (ta : TE) : TE := fun σ H Q => ta σ H fun x H1 => Shw x ∧ c.length ≤ 1000 ∧ ∀ z2 : Str, Q (.str z2) H1
end
/-! == of two tuples -/
def rEqT (K : PySem.W.Frag) (neg : Bool) : R2 := fun x y H Q => ∃ a b xs ys, x = .ref a ∧ y = .ref b ∧ SqT K H a xs ∧ SqT K H b ys ∧
  ∃ f : Nat → Bool, (∀ j x y, xs[j]? = some x → ys[j]? = some y → EqI K H x y (f j)) ∧ Q (.bl (if neg then !((List.range (min xs.length ys.length)).all f && xs.length == ys.length) else (List.range (min xs.length ys.length)).all f && xs.length == ys.length)) H
section
variable {X : Cx}
end
end L2

namespace L2
open PySem PySem.Spec PyProof.Rows
section
variable {X : Cx}
/-- list + list, both only read -/
def rCatS (K : PySem.W.Frag) : R2 := fun x y H Q => ∃ l b xs zs, x = .ref l ∧ y = .ref b ∧ SqL K H l xs ∧ SqL K H b zs ∧ xs.length + zs.length ≤ sizeLine ∧ ∀ p, H p = none → Q (.ref p) (upd H p (.lst (xs ++ zs)))
end
end L2
namespace L2
open PySem PySem.Spec PyProof.Rows
end L2
namespace L2
open PySem PySem.Spec PyProof.Rows
end L2

namespace L2
open PySem
set_option maxRecDepth 100000
/-! ### == and != of lists and tuples that hold lists and tuples, down to a depth -/
inductive DEq (K : PySem.W.Frag) (H : Hp) : Nat → V → V → Bool → Prop where
  | flat {n : Nat} {x y : V} (fx : flatV x = true) (fy : flatV y = true) : DEq K H n x y (eqV x y)
  | same {n : Nat} (a : Addr) : DEq K H n (.ref a) (.ref a) true
  | lst {n : Nat} {a b : Addr} {xs ys : List V} {f : Nat → Bool} (ne : a ≠ b) (ha : SqL K H a xs) (hb : SqL K H b ys) (hl : xs.length = ys.length) (h : ∀ (j : Nat) (x y : V), xs[j]? = some x → ys[j]? = some y → DEq K H n x y (f j)) : DEq K H (n + 1) (.ref a) (.ref b) ((List.range xs.length).all f)
  | lst_ne {n : Nat} {a b : Addr} {xs ys : List V} (ne : a ≠ b) (ha : SqL K H a xs) (hb : SqL K H b ys) (hl : xs.length ≠ ys.length) : DEq K H (n + 1) (.ref a) (.ref b) false
  | tup {n : Nat} {a b : Addr} {xs ys : List V} {f : Nat → Bool} (ne : a ≠ b) (ha : SqT K H a xs) (hb : SqT K H b ys) (h : ∀ (j : Nat) (x y : V), xs[j]? = some x → ys[j]? = some y → DEq K H n x y (f j)) : DEq K H (n + 1) (.ref a) (.ref b) ((List.range (min xs.length ys.length)).all f && xs.length == ys.length)
section
variable {X : Cx} {pins : List (Addr × Obj)} {σ : St} {H : Hp} {s : Shared}
end
/-- == (neg: !=) of two lists -/
def rEqDL (K : PySem.W.Frag) (neg : Bool) : R2 := fun x y H Q => ∃ a b xs ys, x = .ref a ∧ y = .ref b ∧ SqL K H a xs ∧ SqL K H b ys ∧
  ((xs.length ≠ ys.length ∧ Q (.bl neg) H) ∨ (xs.length = ys.length ∧ ∃ f : Nat → Bool, (∀ (j : Nat) (x y : V), xs[j]? = some x → ys[j]? = some y → DEq K H 60 x y (f j)) ∧ Q (.bl (if neg then !(List.range xs.length).all f else (List.range xs.length).all f)) H))
/-- == (neg: !=) of two tuples -/
def rEqDT (K : PySem.W.Frag) (neg : Bool) : R2 := fun x y H Q => ∃ a b xs ys, x = .ref a ∧ y = .ref b ∧ SqT K H a xs ∧ SqT K H b ys ∧
  ∃ f : Nat → Bool, (∀ (j : Nat) (x y : V), xs[j]? = some x → ys[j]? = some y → DEq K H 60 x y (f j)) ∧ Q (.bl (if neg then !((List.range (min xs.length ys.length)).all f && xs.length == ys.length) else (List.range (min xs.length ys.length)).all f && xs.length == ys.length)) H
section
variable {X : Cx}
end
end L2

namespace L2
open PySem PySem.Spec PyProof.Rows
/-! ### set(list) for keys of any kind; len(set) -/
section
variable {κ : Type} [DecidableEq κ]
/-- how many different keys stand ahead of place i -/
def cntK (ks : List κ) : Nat → Nat
  | 0 => 0
  | i + 1 => match ks[i]? with
    | some k => if k ∈ ks.take i then cntK ks i else cntK ks i + 1
    | none => cntK ks i
theorem cntK_le (ks : List κ) : ∀ i, cntK ks i ≤ i
  | 0 => Nat.le_refl _
  | i + 1 => by
    have ih := cntK_le ks i
    unfold cntK
    split
    · split <;> omega
    · omega
theorem cntK_full (ks : List κ) : ∀ i, i ≤ ks.length → (cntK ks i = i ↔ (ks.take i).Nodup)
  | 0, _ => by simp [cntK]
  | i + 1, h => by
    have ih := cntK_full ks i (by omega)
    have le := cntK_le ks i
    have e : ks[i]? = some ks[i] := List.getElem?_eq_getElem (by omega)
    have et : ks.take (i + 1) = ks.take i ++ [ks[i]] := by rw [List.take_add_one, e]; rfl
    unfold cntK
    rw [e, et, List.nodup_append]
    dsimp only
    by_cases m : ks[i] ∈ ks.take i
    · rw [if_pos m]
      exact ⟨fun z => absurd z (by omega), fun z => absurd rfl (z.2.2 _ m _ (by simp))⟩
    · rw [if_neg m]
      refine ⟨fun z => ⟨ih.mp (by omega), by simp, fun a ha b hb => ?_⟩, fun z => by rw [ih.mpr z.1]⟩
      rw [show b = ks[i] by simpa using hb]
      exact fun q => m (q ▸ ha)
variable {prog : Program} {w : World} {A : Around} {E : Value → Shared → Prop} {s : Shared} {knd : KeyKind prog w κ}
theorem setOf_stay {h h' : Heap} {a : Addr} {S : κ → Bool} {n : Nat} (x : h.SetOf knd a S n) (k : ∀ o, h.get? a = some o → h'.get? a = some o) : h'.SetOf knd a S n := by
  obtain ⟨o, es, ep, t, ho, r⟩ := x
  exact ⟨o, es, ep, t, k o ho, r⟩
theorem setOf_as {h : Heap} {a : Addr} {S S' : κ → Bool} {n n' : Nat} (x : h.SetOf knd a S n) (e1 : S = S') (e2 : n = n') : h.SetOf knd a S' n' := e1 ▸ e2 ▸ x
/-- the loop that puts the walked items in -/
theorem fill_loop {R : Result → Shared → Prop} {I : Addr} {fp wr : List Addr} {G : Array GenState → Array GenState → Prop} {n : Nat} {P : Nat → Value → Prop} {St : Nat → Shared → Prop} (W : WalksS prog w A.in1 I fp wr G n P St) {a : Addr} (ha : a ∉ fp) {ks : List κ}
    (hv : ∀ i v, P i v → ∃ k, ks[i]? = some k ∧ knd.is k v = true ∧ v.scannable = true) (hb : n + 1 < scanBound) : ∀ (d i : Nat) (s : Shared), n = i + d → St i s → s.heap.SetOf knd a (fun k => decide (k ∈ ks.take i)) (cntK ks i) →
      (∀ s', Moved (a :: wr) G s s' → s'.heap.SetOf knd a (fun k => decide (k ∈ ks.take n)) (cntK ks n) → R (.ok (.ret .none)) s') → codeAny (model prog w) A (.builtin "set.update.loop" ⟨[.ref a, .ref I], []⟩) R s := by
  have hw : a ∉ wr := fun z => ha (W.sub a z)
  intro d
  induction d with
  | zero =>
    intro i s e st x fin
    rw [show n = i by omega] at W fin
    refine codeAny_builtin (R := R) (A := A) F.entry_set_update_loop ?_
    rw [Around.under_plainId (A := A) F.plain_set_update_loop _]
    show wpAny (model prog w) A.in1 (pyNext (.ref I) >>= _) _ _ s
    exact wpAny_bind (W.done s _ _ st fun s' m => wpAny_pure (fin s' (m.mono fun b hb => List.mem_cons_of_mem a hb) (setOf_stay x fun o q => m.heap a o hw q)))
  | succ d ih =>
    intro i s e st x fin
    refine codeAny_builtin (R := R) (A := A) F.entry_set_update_loop ?_
    rw [Around.under_plainId (A := A) F.plain_set_update_loop _]
    show wpAny (model prog w) A.in1 (pyNext (.ref I) >>= _) _ _ s
    refine wpAny_bind (W.item i s _ _ (by omega) st fun v s1 p st1 m => ?_)
    obtain ⟨k, ek, ik, sc⟩ := hv i v p
    have x1 := setOf_stay x fun o q => m.heap a o hw q
    show wpAny (model prog w) A.in1 (holding [v] (setAdd a v) >>= _) _ _ s1
    refine wpAny_bind (wpAny_holding (show wpAny (model prog w) A.in1 (setAdd a v) _ _ s1 from ?_))
    unfold setAdd
    refine wpAny_holding (wpAny_bind (knd.pyHash ik ?_))
    have le := cntK_le ks i
    refine wpAny_setAddHashed_of (knd := knd) (s := { s1 with toks := s1.toks + 1 }) ik sc x1 (by omega) fun h' sb x2 => ?_
    have et : ks.take (i + 1) = ks.take i ++ [k] := by rw [List.take_add_one, ek]; rfl
    have x3 : h'.SetOf knd a (fun q => decide (q ∈ ks.take (i + 1))) (cntK ks (i + 1)) := by
      refine setOf_as x2 (funext fun q => ?_) ?_
      · rw [et]
        by_cases z : q ∈ ks.take i <;> by_cases y : q = k <;> simp [z, y]
      · show (if decide (k ∈ ks.take i) = true then cntK ks i else cntK ks i + 1) = match ks[i]? with | some k => if k ∈ ks.take i then cntK ks i else cntK ks i + 1 | none => cntK ks i
        rw [ek]
        by_cases z : k ∈ ks.take i <;> simp [z]
    refine wpAny_pure ⟨plainId_quiet F.plain_set_update_loop _, ih (i + 1) { s1 with heap := h', toks := s1.toks + 1 } (by omega) (W.frame (i + 1) s1 h' (s1.toks + 1) st1 (Nat.le_succ _) fun b hbf o q => (sb.2 b fun z => ha (z ▸ hbf)).trans q) x3 fun s2 m2 x4 => ?_⟩
    refine fin s2 (Moved.trans W.gtrans ((m.mono fun b hb => List.mem_cons_of_mem a hb).then_heap (Nat.le_succ _) fun b o hbn q => ?_) m2) x4
    exact (sb.2 b fun z => hbn (z ▸ List.mem_cons_self)).trans q
/-- a set as it is made -/
abbrev newS (led : Bool) : Obj := { cls := .type "set", dict := none, data := .set #[] 0 (.fresh 0 0 led) }
/-- what is told behind set(..) -/
def Filled (knd : KeyKind prog w κ) (s : Shared) (ks : List κ) (h' : Heap) : Prop :=
  h'.SetOf knd s.heap.objs.size (fun k => decide (k ∈ ks)) (cntK ks ks.length) ∧ ∀ b o, b < s.heap.objs.size → s.heap.get? b = some o → h'.get? b = some o
/-- __init__ of the new set walks the list -/
theorem init_set {l : Addr} {items : Array Value} {ks : List κ} {led : Bool} (hh : A.handled = none) (hl : s.heap.IsList l items) (hk : ∀ (i : Nat) (v : Value), items[i]? = some v → ∃ k, ks[i]? = some k ∧ knd.is k v = true ∧ v.scannable = true) (hn : ks.length = items.size) (hb : items.size + 1 < scanBound) :
    codeAny (model prog w) A (.call (.builtin "set.__init__") ⟨[.ref s.heap.objs.size, .ref l], []⟩) (wants (fun r s2 => r = .none ∧ ∃ h' tk, s2 = { s with heap := h', toks := tk } ∧ Filled knd s ks h') E) { s with heap := s.heap.push (newS led) } := by
  have g0 : (s.heap.push (newS led)).get? s.heap.objs.size = some (newS led) := Heap.get?_push_size s.heap rfl
  have ty : Shared.TypeIs { s with heap := s.heap.push (newS led) } (.ref s.heap.objs.size) "set" := ⟨newS led, g0, rfl⟩
  refine codeAny_call_builtin F.called_set.init.plain F.entry_set_init (check_set_init_1 ty ?_)
  obtain ⟨⟨c1, c2, c3, c4⟩, ho, hc, m, hd⟩ := hl
  dsimp only at hc hd
  subst hc hd
  have g1 : (s.heap.push (newS led)).get? l = some { cls := .type "list", dict := c2, data := .seq items m, slots := c4 } := Heap.get?_push_of_some _ ho
  have y1 := F.sub_list_set
  have y2 := F.sub_list_frozenset
  have y3 : (Value.type "list" == Value.type "dict") = false := by decide
  have l1 : (s.heap.push (newS led)).IsList l items := ⟨_, g1, rfl, m, rfl⟩
  have lt : l < s.heap.objs.size := Heap.lt_size ho
  unfold Builtin.«set.__init__» Builtin.Frozenset.updateFrom noKeywords
  generalize hI : pyIter = it
  wp_walk
  subst hI
  refine wpAny_pyIter_list l1 (wpAny_bind (wpAny_runValue ?_))
  have nl : l ≠ (s.heap.push (newS led)).objs.size := by rw [Heap.size_push]; exact Nat.ne_of_lt (Nat.lt_succ_of_lt lt)
  have nf : s.heap.objs.size ∉ [(s.heap.push (newS led)).objs.size, l] := by
    rw [Heap.size_push]
    intro z
    rcases List.mem_cons.mp z with z | z
    · exact absurd z (Nat.ne_of_lt (Nat.lt_succ_self _))
    · exact absurd (by simpa using z) (Nat.ne_of_gt lt)
  refine fill_loop (knd := knd) ((Walks.list (by simp [hh]) _ l nl items).toS) nf (ks := ks) hk hb items.size 0 _ (Nat.zero_add _).symm ⟨⟨_, Heap.get?_push_size _ rfl, rfl, rfl⟩, l1.push _⟩ (setOf_as ((setObjOf_fresh (knd := knd) led).setOf (Heap.get?_push_of_some _ g0) (by unfold scanBound; omega)) (funext fun k => by simp) rfl) fun s' mv x => ?_
  obtain ⟨h', g', d', t', o'⟩ := s'
  obtain rfl : g' = s.gens := mv.gens
  obtain rfl : d' = s.drawn := mv.drawn
  obtain rfl : o' = s.os := mv.os
  refine wpAny_pure (show wpAny (model prog w) _ (ret Value.none) _ _ _ from wpAny_pure ⟨rfl, h', t', rfl, ?_, fun b o hb' q => ?_⟩)
  · rw [← hn] at x
    exact setOf_as x (funext fun k => by rw [List.take_length]) rfl
  · refine mv.heap b o (fun z => ?_) (Heap.get?_push_of_some _ (Heap.get?_push_of_some _ q))
    rcases List.mem_cons.mp z with z | z
    · exact absurd z (Nat.ne_of_lt hb')
    · have z2 : b = (s.heap.push (newS led)).objs.size := by simpa using z
      rw [Heap.size_push] at z2
      exact absurd z2 (Nat.ne_of_lt (Nat.lt_succ_of_lt hb'))
set_option maxRecDepth 100000 in
theorem call_setK {l : Addr} {items : Array Value} {ks : List κ} {Q : Value → Shared → Prop} (hh : A.handled = none) (hl : s.heap.IsList l items) (hk : ∀ (i : Nat) (v : Value), items[i]? = some v → ∃ k, ks[i]? = some k ∧ knd.is k v = true ∧ v.scannable = true) (hn : ks.length = items.size) (hb : items.size + 1 < scanBound)
    (h : ∀ h' tk, Filled knd s ks h' → Q (.ref s.heap.objs.size) { s with heap := h', toks := tk }) : wpAny (model prog w) A (call (.type "set") [.ref l]) Q E s := by
  obtain ⟨c, tl, mro⟩ := F.called_set.mro
  have a1 := F.called_set.made
  have a2 := F.called_set.sub
  have a3 := F.called_set.notType
  have a4 := F.called_set.canCreate
  have a5 := F.typeCall_set_1 (.ref l)
  refine wpAny_call (codeAny_of_tree (show wpAny (model prog w) _ (callAny (.type "set") _) _ _ _ from wpAny_pure ⟨Code.quiet_builtin _ (by decide +kernel), codeAny_builtin F.entry_type_call ?_⟩))
  rw [Around.under_plain (A := A) (weight_type_call_type "set" [.ref l] []) rfl]
  repeat (any_goals (first | assumption | wp_step))
  refine codeAny_mono (code_set_new_1 (.ref l) (E := E) (Q₁ := fun ob s1 => ∃ led, ob = .ref s.heap.objs.size ∧ s1 = { s with heap := s.heap.push (newS led) }) fun led => ⟨led, rfl, rfl⟩) fun r s1 hr => ?_
  cases r with
  | error e => exact hr
  | ok fl =>
    cases fl with
    | ret ob =>
      obtain ⟨led, rfl, rfl⟩ := hr
      have g0 : (s.heap.push (newS led)).get? s.heap.objs.size = some (newS led) := Heap.get?_push_size s.heap rfl
      have ty : Shared.TypeIs { s with heap := s.heap.push (newS led) } (.ref s.heap.objs.size) "set" := ⟨newS led, g0, rfl⟩
      have b1 := F.called_set.init.lookup
      have b2 := F.called_set.init.bind (.ref s.heap.objs.size)
      repeat (any_goals (first | assumption | wp_step))
      refine codeAny_mono (init_set (E := E) (knd := knd) (by simp [hh]) hl hk hn hb) fun r2 s2 hr2 => ?_
      cases r2 with
      | error e => exact hr2
      | ok f2 =>
        cases f2 with
        | ret r =>
          obtain ⟨rfl, h', tk, rfl, x⟩ := hr2
          repeat (any_goals (first | assumption | wp_step))
          exact h h' tk x
        | _ => exact hr2.elim
    | _ => exact hr.elim
end
/-! the layer's rules -/
/-- a set of texts -/
def SetO (P : Program) (w : World) (a : Addr) (zs : List Str) : HO := .ext fun h => h.SetOf (strKind P w) a (fun z => decide (z ∈ zs)) (cntK zs zs.length)
section
variable {X : Cx}
theorem vals_strs : ∀ {zs : List Str} {us : List Value}, Vals (zs.map V.str) us → ∀ (i : Nat) (v : Value), us[i]? = some v → ∃ z t, zs[i]? = some z ∧ v = .str z t
  | [], _, .nil, i, v, h => by simp at h
  | z :: zs, _, .cons ⟨t, e⟩ r, 0, v, h => by simp at h; exact ⟨z, t, rfl, by rw [← h, e]⟩
  | z :: zs, _, .cons _ r, i + 1, v, h => by
    obtain ⟨z', t, e1, e2⟩ := vals_strs r i v (by simpa using h)
    exact ⟨z', t, by simpa using e1, e2⟩
/-- set(xs) of a list of texts -/
theorem call_set_strs (hc : X.calm = true) : CallR X (.type "set") (fun xs H Q => ∃ (p : Addr) (zs : List Str), xs = [.ref p] ∧ SqL X.K H p (zs.map V.str) ∧ zs.length ≤ 1000 ∧ ∀ l, H l = none → Q (.ref l) (upd H l (SetO X.prog X.w l zs))) := by
  intro pins s σ H xs us Q I r h
  obtain ⟨p, zs, rfl, hS, hz, q⟩ := h
  obtain ⟨u, rfl, ru⟩ := r.one
  obtain rfl : u = Value.ref p := ru
  obtain ⟨its, rv, pl, _⟩ := I.list hS
  have hl := rv.length
  rw [List.length_map] at hl
  refine call_setK (knd := strKind X.prog X.w) (ks := zs) (I.ok.hd hc) pl.isList (fun i v e => ?_) (by simpa using hl) (by unfold scanBound; simp; omega) fun h' tk x => ?_
  · obtain ⟨z, t, e1, rfl⟩ := vals_strs rv i v (by simpa using e)
    exact ⟨z, e1, by show Value.isStrOf z (.str z t) = true; simp [Value.isStrOf], rfl⟩
  · obtain ⟨x1, x2⟩ := x
    refine ⟨.ref s.heap.objs.size, _, I.laid (a := s.heap.objs.size) (o := SetO X.prog X.w s.heap.objs.size zs) (h' := h') (t' := tk) (fun b o q => x2 b o (Heap.lt_size q) q) (Nat.le_refl _) ?_, rfl, q _ I.fresh⟩
    refine ⟨x1, ?_, fun h1 h2 y k => setOf_stay y k⟩
    obtain ⟨o, _, _, _, g, _⟩ := x1
    exact ⟨o, g⟩
end
end L2

namespace L2
open PySem PySem.Spec PyProof.Rows
/-! ### exceptions that pass through loops and callers -/
/-- as ExcT, with the flight of the trace's head -/
def ExcF (h : Heap) (e T : Addr) (cls a0 fl : Value) : Prop :=
  ∃ oe vs oT ts, h.get? e = some oe ∧ (oe.cls = cls ∧ vs[0]? = some a0) ∧ oe.data = .fields vs ∧ vs[1]? = some (.ref T) ∧ T ≠ e ∧ h.get? T = some oT ∧ oT.data = .fields ts ∧ ts[3]? = some fl
/-- an exception in the frame at L: just made, flying, or held there -/
inductive ExcS (h : Heap) (L e : Addr) (cls a0 : Value) : List Addr → Prop where
  | fresh {oe : Obj} {vs : Array Value} (he : h.get? e = some oe) (hc : oe.cls = cls) (hd : oe.data = .fields vs) (h1 : vs[1]? = some Value.none) (h0 : vs[0]? = some a0) : ExcS h L e cls a0 []
  | fly {T : Addr} (x : ExcF h e T cls a0 .none) : ExcS h L e cls a0 [T]
  | held {T : Addr} (x : ExcF h e T cls a0 (rawInt L)) : ExcS h L e cls a0 [T]
section
variable {M : Model} {A : Around} {E : Value → Shared → Prop} {s : Shared} {base : Heap} {env : Env} {outer : List Env} {L e T : Addr} {a0 cls fl : Value} {Q : Unit → Shared → Prop} {Ts : List Addr}
end
section
variable {X : Cx} {pins : List (Addr × Obj)} {σ : St} {H : Hp} {s : Shared} {h' : Heap} {Y : List Addr}
end
/-- what is wanted of an exception in a def's body: it lies as ExcS tells, the state is that of the body -/
def XEof (X : Cx) (L : Addr) (E : XK) : Value → Shared → Prop := fun ev s' => ∃ (e C : Addr) (a0 : Value) (Ts : List Addr) (pins : List (Addr × Obj)) (σ : St) (H' : Hp), ev = .ref e ∧ Inv X pins σ H' s' ∧ ExcS s'.heap L e (.ref C) a0 Ts ∧ (∀ b ∈ e :: Ts, NewAt X pins H' b) ∧ E (.ref C) none H'
section
variable {P : Program} {w : World} {K : PySem.W.Frag} {mg : Str → Option Value} {base : Heap} {N : List Str} {qual : Str} {scope : Scope} {f : Addr} {cd : Value} {A : Around} {outer : List Env} {s0 : Shared} {H0 : Hp} {E : XK}
/-- the context of a body that may raise -/
abbrev cxE (P : Program) (w : World) (K : PySem.W.Frag) (mg : Str → Option Value) (base : Heap) (N : List Str) (qual : Str) (scope : Scope) (f : Addr) (cd : Value) (A : Around) (outer : List Env) (s0 : Shared) (H0 : Hp) (E : XK) : Cx :=
  (cxOf (CX1 P w) P w K mg base N qual scope f cd A outer s0 H0 E).wish (XEof (cxOf (CX1 P w) P w K mg base N qual scope f cd A outer s0 H0 E) s0.heap.objs.size E)
end
end L2

namespace L2
open PySem PySem.Spec PyProof.Rows
/-! ### list.index, len of a set of texts, calls whose exceptions pass on -/
section
variable {X : Cx}
def rIndex (K : PySem.W.Frag) : V → List V → Hp → VK → Prop := fun x vs H Q => ∃ (p : Addr) (xs : List V) (y z : V) (j : Nat), x = .ref p ∧ vs = [y] ∧ SqL K H p xs ∧ flatV y = true ∧ xs.all flatV = true ∧ xs[j]? = some z ∧ eqV z y = true ∧ (∀ (m : Nat) (u : V), m < j → xs[m]? = some u → eqV u y = false) ∧ Q (.int j) H
theorem call_len_setO : CallR X (.builtin "len") (fun xs H Q => ∃ (l : Addr) (zs : List Str), xs = [.ref l] ∧ H l = some (SetO X.prog X.w l zs) ∧ zs.length ≤ 1000 ∧ Q (.int ((cntK zs zs.length : Nat) : Int)) H) := by
  intro pins s σ H xs us Q I r h
  obtain ⟨l, zs, rfl, e, hz, q⟩ := h
  obtain ⟨u, rfl, ru⟩ := r.one
  obtain rfl : u = Value.ref l := ru
  obtain ⟨⟨o, es, ep, t, g1, g2, g3, _, _, _, g4, g5⟩, _, _⟩ := I.hok l _ e
  have le := cntK_le zs zs.length
  refine call_len_set g1 g2 g3 g4 (by rw [g5]; omega) ⟨.int _, H, I.tok _, ⟨_, rfl⟩, ?_⟩
  rw [g5]; exact q
end
/-- calls, with what is wanted of their exceptions -/
def tFnE (sp : Sp) (E : XK) (t : TA) : TE := fun σ H Q => t σ H fun vs H1 => sp vs H1 Q E
def tMtE (C : Addr) (m : Str) (sp : Sp) (E : XK) (ta : TE) (t : TA) : TE := fun σ H Q => ta σ H fun x H1 => ∃ a dx fs, x = .ref a ∧ H1 a = some (.ins C dx fs) ∧ fs.lookup m = none ∧ t σ H1 fun vs H2 => sp (x :: vs) H2 Q E
def tMkE (C : Addr) (sp : Sp) (E : XK) (t : TA) : TE := fun σ H Q => t σ H fun vs H1 => ∀ x dx, H1 x = none → H1 dx = none → dx ≠ x →
  sp (.ref x :: vs) (upd (upd H1 dx (.own x)) x (.ins C dx [])) (fun v H2 => v = .non ∧ Q (.ref x) H2) E
section
variable {X : Cx} {k : Nat} {f C : Addr} {fd : FuncData} {ps : List Str} {sp : Sp} {x m : Str} {p np pos apos : Pos} {e o : Expr} {es : List Expr} {ta : TE} {t : TA} {E : XK}
end
end L2

namespace L2
open PySem PySem.Spec PyProof.Rows
/-! ### min and max of a list of ints; a set of ints and how many it has -/
section
variable {X : Cx}
end
/-- a set of ints -/
def SetI (P : Program) (w : World) (a : Addr) (ns : List Int) : HO := .ext fun h => h.SetOf (intKind P w) a (fun z => decide (z ∈ ns)) (cntK ns ns.length)
section
variable {X : Cx}
end
end L2
namespace L2
open PySem PySem.Spec PyProof.Rows
section
variable {X : Cx}
def rUpper : V → List V → Hp → VK → Prop := fun x vs H Q => ∃ z : Str, x = .str z ∧ vs = [] ∧ z.length ≤ 1000 ∧ Q (.str (Txt.upper z)) H
end
end L2

namespace L2
open PySem PySem.Spec PyProof.Rows
/-! ### isinstance against an own class or a built-in one, of a tuple of the module too -/
def TyG (K : PySem.W.Frag) (H : Hp) (x : V) (t : Value) : Prop := TyOf K H x t ∨ ∃ a ys, x = .ref a ∧ SqT K H a ys ∧ t = .type "tuple"
inductive ClV : V → Value → Prop where
  | ty (T : String) : ClV (.ty T) (.type T)
  | ref (C : Addr) : ClV (.ref C) (.ref C)
section
variable {X : Cx}
theorem call_isiG : CallR X (.builtin "isinstance") (fun xs H Q => ∃ x c cv t b, xs = [x, c] ∧ ClV c cv ∧ TyG X.K H x t ∧ PySem.W.kitOne X.K t cv = some b ∧ Q (.bl b) H) := by
  intro pins s σ H xs us Q I r h
  obtain ⟨x, c, cv, t, b, rfl, rc, ty, e, q⟩ := h
  cases r with
  | cons rx r2 =>
    cases r2 with
    | @cons _ cu _ _ ry r3 =>
      cases r3
      have ec : cu = cv := by cases rc <;> exact ry
      subst ec
      rcases ty with ty | ⟨a, ys, rfl, hS, rfl⟩
      · exact isinst_ok I rx ty e fun tk => ⟨.bl b, H, I.tok tk, rfl, q⟩
      · cases (show _ = Value.ref a from rx)
        obtain ⟨its, r, ⟨o, h1, h2, _⟩, _⟩ := I.tuple hS
        exact PySem.W.kia_one PySem.W.kitx_tuple I.kIn ⟨o, h1, h2⟩ e (fun z => nomatch z) fun tk => ⟨.bl b, H, I.tok tk, rfl, q⟩
end
/-- what the text must have for isinstance of an instance of C -/
structure InsT (K : PySem.W.Frag) (C : Addr) : Prop where
  cl : Cls K C
  ha : PySem.W.findIn K (.ref C) "__class__" = some (some (.builtin "object.__class__"))
  hn : PySem.W.specialIn K (.builtin "object.__class__") "__get__" = some (some (.builtin "getset_descriptor.__get__"))
  tk : PySem.W.takesIn K (.builtin "object.__class__") = some true
  hm : PySem.W.mroIn K C (.type "object") = some true
theorem InsT.ty {K : PySem.W.Frag} {C : Addr} (h : InsT K C) {H : Hp} {a dx : Addr} {fs : List (Str × V)} (e : H a = some (.ins C dx fs)) : TyG K H (.ref a) (.ref C) := .inl (.ins e h.cl h.ha h.hn h.tk h.hm)
/-! ### a method of one of several classes -/
def PolM (CX : CXT) (P : Program) (w : World) (K : PySem.W.Frag) (mg : Str → Option Value) (base : Heap) (k : Nat) (m : Str) (ps : List Str) (cs : List (Addr × Sp)) : Prop :=
  ∀ p ∈ cs, MCallee CX P w K mg base k p.1 m ps p.2 ∧ Cls K p.1
section
variable {CX : CXT} {P : Program} {w : World} {K : PySem.W.Frag} {mg : Str → Option Value} {base : Heap} {k : Nat} {C : Addr} {m : Str} {ps : List Str} {sp : Sp} {cs : List (Addr × Sp)}
theorem poln : PolM CX P w K mg base k m ps [] := fun _ h => nomatch h
theorem polc (M : MCallee CX P w K mg base k C m ps sp) (c : Cls K C) (r : PolM CX P w K mg base k m ps cs) : PolM CX P w K mg base k m ps ((C, sp) :: cs) := fun p h => by
  rcases List.mem_cons.mp h with rfl | h
  · exact ⟨M, c⟩
  · exact r p h
end
def tMtP (cs : List (Addr × Sp)) (m : Str) (ta : TE) (t : TA) : TE := fun σ H Q => ta σ H fun x H1 => ∃ a p dx fs, x = .ref a ∧ p ∈ cs ∧ H1 a = some (.ins p.1 dx fs) ∧ fs.lookup m = none ∧ t σ H1 fun vs H2 => p.2 (x :: vs) H2 Q E0
section
variable {X : Cx} {CX : CXT} {k : Nat} {f C : Addr} {fd : FuncData} {ps : List Str} {sp : Sp} {x m : Str} {p np pos apos : Pos} {e o : Expr} {es : List Expr} {ta : TE} {t : TA} {cs : List (Addr × Sp)}
theorem pe_mtP {pl : Sem Bool} (M : PolM CX X.prog X.w X.K X.mg X.base k m ps cs) (hx : Passes CX X E0) (hr : Room k X.A) (he : PE X o ta) (ha : PA X (e :: es) t)
    (hst : starEach (e :: es) X.env = (false, eval e X.env) :: starEach es X.env := by rfl) (hpl : (backTo pos (starEach es X.env)).any (·.1) = false := by rfl)
    (ht : eval (.Call (.Attribute o m apos) (e :: es) [] pos) X.env = (do
      let ov ← eval o X.env
      standAt apos.atName
      let (f, first) ← holding [ov] (getMethod ov m pl)
      callWith pos f first (backTo pos (starEach (e :: es) X.env)) (backToKw pos (keywordEach [] X.env))) := by rfl) :
    PE X (.Call (.Attribute o m apos) (e :: es) [] pos) (tMtP cs m ta t) := by
  intro pins s σ H Q I h
  refine PySem.W.methodCall_KW (pl := pl) (thn (he pins s σ H _ I h) fun u s1 ⟨x, H1, I1, rx, a, p, dx, fs, ex, hp, ea, l, q⟩ => ?_) ht
  obtain ⟨⟨f, fd, hm, F, hb⟩, c⟩ := M p hp
  subst ex
  obtain rfl : u = Value.ref a := rx
  refine getmeth_ok I1 ea c hm l ?_
  refine PySem.W.callWith_K (first := [.ref a]) (h₀ := X.base) I.ok.mod.kin hm.kp (thn (ha pos pins s1 σ H1 _ I1 q) fun us s2 ⟨vs, H2, I2, r, q2⟩ => ⟨I2.kIn, ?_⟩) hst hpl
  exact run0 (us := .ref a :: us) (vs := .ref a :: vs) F hr hb hx I2 (.cons rfl r) q2
theorem pe_mtP0 {pl : Sem Bool} (M : PolM CX X.prog X.w X.K X.mg X.base k m ps cs) (hx : Passes CX X E0) (hr : Room k X.A) (he : PE X o ta)
    (ht : eval (.Call (.Attribute o m apos) [] [] pos) X.env = (do
      let ov ← eval o X.env
      standAt apos.atName
      let (f, first) ← holding [ov] (getMethod ov m pl)
      callWith pos f first (backTo pos (starEach [] X.env)) (backToKw pos (keywordEach [] X.env))) := by rfl) :
    PE X (.Call (.Attribute o m apos) [] [] pos) (tMtP cs m ta tNil) := by
  intro pins s σ H Q I h
  refine PySem.W.methodCall_KW (pl := pl) (thn (he pins s σ H _ I h) fun u s1 ⟨x, H1, I1, rx, a, p, dx, fs, ex, hp, ea, l, q⟩ => ?_) ht
  obtain ⟨⟨f, fd, hm, F, hb⟩, c⟩ := M p hp
  subst ex
  obtain rfl : u = Value.ref a := rx
  refine getmeth_ok I1 ea c hm l ?_
  exact PySem.W.callWith_K0 (first := [.ref a]) I1.kIn hm.kp (run0 (us := [.ref a]) (vs := [.ref a]) F hr hb hx I1 (.cons rfl .nil) q)
/-- C() -/
theorem pe_mk0 (M : MkCallee CX X.prog X.w X.K X.mg X.base k x C ps sp) (hx : Passes CX X E0) (hr : Room (k + 1) X.A) (hg : Gl X x) (hdb : (x == ("__debug__" : Str)) = false := by decide) :
    PE X (.Call (.Name x p) [] [] pos) (tMk C sp tNil) := by
  obtain ⟨f, fd, M, F, hb, hm⟩ := M
  have h := pe_make0 (E := E0) (dvs := []) (ds := []) (p := p) (pos := pos) M F hr hg hm hb .nil hx hdb
  intro pins s σ H Q I q
  exact h pins s σ H Q I q
end
/-! ### a tuple of the module -/
def ModT (K : PySem.W.Frag) (a : Addr) (xs : List V) : Prop := ∃ (o : Obj) (its : Array Value) (n : Nat), K.lookup a = some o ∧ o.cls = .type "tuple" ∧ o.data = .seq its n ∧ its.size ≤ sizeLine ∧ Vals xs its.toList
end L2
namespace L2
open PySem PySem.Spec PyProof.Rows
theorem iteTS {c A B : Prop} [Decidable c] (hc : c) (h : A) : if decide c = true then A else B := by rw [if_pos (decide_eq_true hc)]; exact h
theorem iteFS {c A B : Prop} [Decidable c] (hc : ¬ c) (h : B) : if decide c = true then A else B := by rw [if_neg (by rw [decide_eq_false hc]; decide)]; exact h
end L2

namespace L2
open PySem PySem.Spec PyProof.Rows
/-! ### for a, b in zip(xs, ys), of two lists that stay -/
section
variable {X : Cx} {pins : List (Addr × Obj)} {σ : St} {H : Hp} {s : Shared} {h' : Heap}
/-- some records of an iterator have turned, and a new pair has come -/
theorem Inv.turnedPair {ch : List Addr} {T : Addr} {x y : V} {u v : Value} (I : Inv X pins σ H s) (hf : ∀ b ∈ ch, FpOk X pins H b) (k : ∀ b o, b ∉ ch → s.heap.get? b = some o → h'.get? b = some o)
    (nT : s.heap.get? T = none) (hT : H T = none) (gT : IsPair h' T u v) (rx : RelV x u) (ry : RelV y v) : Inv X pins σ (upd H T (.tup [x, y])) { s with heap := h' } := by
  have out : ∀ b u, H b = some u → b ∉ ch := fun b u e z => by
    have f := (hf b z).1
    rw [f] at e
    cases e
  have neT : ∀ {b o}, s.heap.get? b = some o → b ≠ T := fun e z => by rw [z, nT] at e; cases e
  have neH : ∀ {b u}, H b = some u → b ≠ T := fun e z => by rw [z, hT] at e; cases e
  have J := Inv.step (H' := upd H T (.tup [x, y])) (h' := h') (g' := s.gens) (d' := s.drawn) (t' := s.toks) (ch := ch) I
    (fun b hb => by obtain ⟨_, f1, _, f3, f4, f5⟩ := hf b hb; exact ⟨f3, f1, f4, f5⟩)
    (fun b o _ _ hc e _ => k b o hc e)
    (fun b o _ _ hc e _ => ⟨o.slots, k b o hc e⟩)
    (fun b o _ e n => by rw [upd_ne (neT e)]; exact n)
    (fun b o hc e => ⟨o, k b o hc e⟩)
    (fun b xs e => by rw [upd_ne (neH e)]; exact e)
    (fun b o w e => by rw [upd_ne (neH e)]; exact e)
    (fun b ps e => ⟨#[], by rw [upd_ne (neH e), e]; simp⟩)
    (fun m hm => by
      obtain ⟨o, es, ep, ho, r⟩ := hm
      refine ⟨o, es, ep, k _ o (fun z => ?_) ho, r⟩
      obtain ⟨_, f1, _⟩ := hf _ z
      exact f1 rfl)
    (fun b w e => by
      by_cases hb : b = T
      · subst hb
        rw [upd_same] at e
        cases e
        exact ⟨by show 2 ≤ sizeLine; decide, [u, v], .cons rx (.cons ry .nil), _, gT, rfl, _, rfl⟩
      · rw [upd_ne hb] at e
        refine (I.hok b w e).stay (fun c z hc q => k c z ?_ q) (fun c q => ?_) fun c xs q => ?_
        · rcases hc with z | z
          · rw [z]; exact out b w e
          · exact out c _ z
        · rw [upd_ne (neH q)]; exact q
        · rw [upd_ne (neH q)]; exact q)
    I.bare
  exact J
/-- some records of an iterator have turned -/
theorem Inv.turnedL {ch : List Addr} (I : Inv X pins σ H s) (hf : ∀ b ∈ ch, FpOk X pins H b) (k : ∀ b o, b ∉ ch → s.heap.get? b = some o → h'.get? b = some o) : Inv X pins σ H { s with heap := h' } := by
  have out : ∀ b u, H b = some u → b ∉ ch := fun b u e z => by
    have f := (hf b z).1
    rw [f] at e
    cases e
  have J := Inv.step (H' := H) (h' := h') (g' := s.gens) (d' := s.drawn) (t' := s.toks) (ch := ch) I
    (fun b hb => by obtain ⟨_, f1, _, f3, f4, f5⟩ := hf b hb; exact ⟨f3, f1, f4, f5⟩)
    (fun b o _ _ hc e _ => k b o hc e)
    (fun b o _ _ hc e _ => ⟨o.slots, k b o hc e⟩)
    (fun b o _ _ n => n)
    (fun b o hc e => ⟨o, k b o hc e⟩)
    (fun b xs e => e) (fun b o w e => e) (fun b ps e => ⟨#[], by rw [e]; simp⟩)
    (fun m hm => by
      obtain ⟨o, es, ep, ho, r⟩ := hm
      refine ⟨o, es, ep, k _ o (fun z => ?_) ho, r⟩
      obtain ⟨_, f1, _⟩ := hf _ z
      exact f1 rfl)
    (fun b w e => by
      refine (I.hok b w e).stay (fun c z hc q => k c z ?_ q) (fun c q => q) fun c xs q => q
      rcases hc with z | z
      · rw [z]; exact out b w e
      · exact out c _ z)
    I.bare
  exact J
end
/-- the walk of zip over the lists at a and b -/
def Itz (K : PySem.W.Frag) (a b : Addr) : It :=
  ⟨fun i H => ∃ xs ys x y, SqL K H a xs ∧ SqL K H b ys ∧ xs[i]? = some x ∧ ys[i]? = some y,
   fun i H v H' => ∃ T, H T = none ∧ v = .ref T ∧ ∀ xs ys x y, SqL K H a xs → SqL K H b ys → xs[i]? = some x → ys[i]? = some y → H' = upd H T (.tup [x, y]),
   fun i H => ∃ xs ys, SqL K H a xs ∧ SqL K H b ys ∧ (xs.length ≤ i ∨ ys.length ≤ i)⟩
/-- the iterator's records -/
def ZipSt (z TI TO i1 i2 a b : Addr) (i : Nat) (h : Heap) : Prop := IsZip h z TI TO .none ∧ IsPair h TI (.ref i1) (.ref i2) ∧ (∃ p q, IsPair h TO p q) ∧ h.IsListIter i1 a i ∧ h.IsListIter i2 b i
theorem turn_zip {P : Program} {w : World} {K : PySem.W.Frag} {elts : List Expr} {x1} {tp : Pos} {z TI TO i1 i2 a b : Addr} (D : ZipApart z TI TO i1 i2 a b) :
    Turn P w K (.Tuple elts x1 tp) (Itz K a b) [z, TI, TO, i1, i2] z (ZipSt z TI TO i1 i2 a b) where
  mem := by simp
  obj := fun i h st c hc => by
    obtain ⟨g1, g2, ⟨p, q, g3⟩, ⟨o4, g4, _, d4⟩, ⟨o5, g5, _, d5⟩⟩ := st
    simp only [List.mem_cons, List.not_mem_nil, or_false] at hc
    rcases hc with rfl | rfl | rfl | rfl | rfl
    · exact ⟨_, g1, fun v q => nomatch q⟩
    · exact ⟨_, g2, fun v q => nomatch q⟩
    · exact ⟨_, g3, fun v q => nomatch q⟩
    · exact ⟨_, g4, fun v q => by rw [d4] at q; cases q⟩
    · exact ⟨_, g5, fun v q => by rw [d5] at q; cases q⟩
  keep := fun i h h' st k => by
    obtain ⟨g1, g2, ⟨p, q, g3⟩, g4, g5⟩ := st
    exact ⟨k z (by simp) _ g1, k TI (by simp) _ g2, ⟨p, q, k TO (by simp) _ g3⟩, g4.at fun o e => k i1 (by simp) o e, g5.at fun o e => k i2 (by simp) o e⟩
  item := by
    intro X hP hw hK hc i pins s σ H E I hf st hg
    subst hP hw hK
    obtain ⟨xs, ys, x, y, qa, qb, ex, ey⟩ := hg
    obtain ⟨g1, g2, ⟨p, q, g3⟩, g4, g5⟩ := st
    obtain ⟨us, ru, pu, _⟩ := I.list qa
    obtain ⟨vs, rv, pv, _⟩ := I.list qb
    obtain ⟨u, eu, r1⟩ := ru.get ex
    obtain ⟨v, ev, r2⟩ := rv.get ey
    refine wpAny_pyNext_zip_item D g1 g2 g3 g4 g5 pu.isList pv.isList (x := u) (y := v) (by simpa using eu) (by simpa using ev) fun h1 a1 a2 a3 a4 a5 a6 a7 => ?_
    refine ⟨_, rfl, wpAny_letOwnedTupleGo_zip (s := { s with heap := h1 }) a1 fun h2 b1 b2 => ?_⟩
    have nT : s.heap.get? s.heap.objs.size = none := by
      cases q : s.heap.get? s.heap.objs.size with
      | none => rfl
      | some o => exact absurd (Heap.lt_size q) (Nat.lt_irrefl _)
    have hT : H s.heap.objs.size = none := I.hok.fresh (Nat.le_refl _)
    have nz : s.heap.objs.size ≠ z := Nat.ne_of_gt (Heap.lt_size g1)
    have kk : ∀ c o, c ∉ [z, TO, i1, i2] → s.heap.get? c = some o → h2.get? c = some o := fun c o hc e => by
      simp only [List.mem_cons, List.not_mem_nil, or_false, not_or] at hc
      exact b2.extBut _ _ hc.1 (a7 c o hc.1 hc.2.1 hc.2.2.1 hc.2.2.2 e)
    have J := I.turnedPair (h' := h2) (ch := [z, TO, i1, i2]) (T := s.heap.objs.size) (x := x) (y := y) (u := u) (v := v) (fun c hc => hf c (by simp at hc ⊢; rcases hc with e | e | e | e <;> simp [e])) kk nT hT (b2.extBut _ _ nz a5) r1 r2
    refine ⟨.ref s.heap.objs.size, upd H s.heap.objs.size (.tup [x, y]), J, rfl, ⟨_, hT, rfl, fun xs' ys' x' y' q1 q2 e1 e2 => ?_⟩, ⟨b1, b2.extBut _ _ D.TIz (a7 TI _ D.TIz D.TITO D.TIi1 D.TIi2 g2), ⟨_, _, b2.extBut _ _ D.TOz a2⟩, a3.extBut b2.extBut D.i1z, a4.extBut b2.extBut D.i2z⟩, fun c hc => ?_⟩
    · rw [I.list_inj q1 qa] at e1
      rw [I.list_inj q2 qb] at e2
      rw [ex] at e1; rw [ey] at e2
      cases e1; cases e2
      rfl
    · have h0 := (hf c hc).1
      have : c ≠ s.heap.objs.size := by
        obtain ⟨o4, g4', _⟩ := g4
        obtain ⟨o5, g5', _⟩ := g5
        simp only [List.mem_cons, List.not_mem_nil, or_false] at hc
        rcases hc with rfl | rfl | rfl | rfl | rfl
        · exact nz.symm
        · exact Nat.ne_of_lt (Heap.lt_size g2)
        · exact Nat.ne_of_lt (Heap.lt_size g3)
        · exact Nat.ne_of_lt (Heap.lt_size g4')
        · exact Nat.ne_of_lt (Heap.lt_size g5')
      rw [upd_ne this]; exact h0
  done := by
    intro X hP hw hK hc i pins s σ H E I hf st hg
    subst hP hw hK
    obtain ⟨xs, ys, qa, qb, hl⟩ := hg
    obtain ⟨g1, g2, ⟨p, q, g3⟩, g4, g5⟩ := st
    obtain ⟨us, ru, pu, _⟩ := I.list qa
    obtain ⟨vs, rv, pv, _⟩ := I.list qb
    have l1 := ru.length
    have l2 := rv.length
    refine wpAny_pyNext_zip_end (I.ok.hd hc) D g1 g2 g3 g4 g5 pu.isList pv.isList ?_ fun h2 k => ⟨rfl, I.turnedL (ch := [z, TO, i1, i2]) (fun c hc => hf c (by simp at hc ⊢; rcases hc with e | e | e | e <;> simp [e])) fun c o hc e => ?_⟩
    · rcases hl with hl | hl
      · exact .inl (by simp; omega)
      · exact .inr (by simp; omega)
    · simp only [List.mem_cons, List.not_mem_nil, or_false, not_or] at hc
      exact k c o hc.1 hc.2.1 hc.2.2.1 hc.2.2.2 e
  self := fun _ _ _ _ _ st h => wpAny_pyIter_zip st.1 h
def iZip (K : PySem.W.Frag) (ta : TA) : TI := fun σ H R => ta σ H fun vs H1 => ∃ a b, vs = [.ref a, .ref b] ∧ (∃ xs, SqL K H1 a xs) ∧ (∃ ys, SqL K H1 b ys) ∧ R (Itz K a b) H1
section
variable {X : Cx}
theorem pi_zip {e1 e2 : Expr} {ta : TA} {p pos : Pos} {elts : List Expr} {x1} {tp : Pos} (hg : Gl X "zip") (hm : X.mg "zip" = none) (ha : PA X [e1, e2] ta)
    (hs : starEach [e1, e2] X.env = [(false, eval e1 X.env), (false, eval e2 X.env)] := by rfl) (hs2 : starEach [e2] X.env = [(false, eval e2 X.env)] := by rfl) :
    PI X (.Tuple elts x1 tp) (.Call (.Name "zip" p) [e1, e2] [] pos) (iZip X.K ta) := by
  intro pins s σ H R I h
  refine Call_ (ld_blt I hg hm PyProof.Rows.boot_zip (PyProof.Rows.callWith_type1 (thn (ha pos pins s σ H _ I h) fun us s1 ⟨vs, H1, I1, r1, q1⟩ => ?_) (by rw [hs, hs2]) (by rw [hs2]; rfl)))
  obtain ⟨a, b, rfl, ⟨xs, qa⟩, ⟨ys, qb⟩, q⟩ := q1
  obtain ⟨u, v, rfl, ru, rv⟩ := r1.two
  cases (show u = Value.ref a from ru)
  cases (show v = Value.ref b from rv)
  obtain ⟨us, _, pu, _⟩ := I1.list qa
  obtain ⟨vs, _, pv, _⟩ := I1.list qb
  obtain ⟨oa, ea, _⟩ := id pu.isList
  obtain ⟨ob, eb, _⟩ := id pv.isList
  have la : a < s1.heap.objs.size := Heap.lt_size ea
  have lb : b < s1.heap.objs.size := Heap.lt_size eb
  refine call_zip_2 pu.isList pv.isList fun h' z1 z2 z3 z4 z5 z6 z7 => ?_
  refine wpAny_pyIter_zip (s := { s1 with heap := h' }) z1 ?_
  refine ⟨s1.heap.objs.size + 4, [s1.heap.objs.size + 4, s1.heap.objs.size + 2, s1.heap.objs.size + 3, s1.heap.objs.size, s1.heap.objs.size + 1], ZipSt (s1.heap.objs.size + 4) (s1.heap.objs.size + 2) (s1.heap.objs.size + 3) s1.heap.objs.size (s1.heap.objs.size + 1) a b, Itz X.K a b, H1, rfl, I1.kept (t' := s1.toks) z7, turn_zip ?_, ⟨z1, z2, ⟨_, _, z3⟩, z4, z5⟩, fun c hc => ?_, q⟩
  · refine ⟨?_, ?_, ?_, ?_, ?_, ?_, ?_, ?_, ?_, ?_, ?_, ?_, ?_, ?_, ?_, ?_, ?_, ?_⟩ <;> first | exact Nat.ne_of_lt (by omega) | exact Nat.ne_of_gt (by omega) | exact Nat.ne_of_lt la | exact Nat.ne_of_lt lb | exact Nat.ne_of_lt (Nat.lt_of_lt_of_le la (Nat.le_add_right _ _)) | exact Nat.ne_of_lt (Nat.lt_of_lt_of_le lb (Nat.le_add_right _ _))
  · have hc' : s1.heap.objs.size ≤ c := by
      simp only [List.mem_cons, List.not_mem_nil, or_false] at hc
      rcases hc with rfl | rfl | rfl | rfl | rfl <;> omega
    exact I1.fpOk hc' (I1.hok.fresh hc')
end
/-- over two lists that the body leaves as they are -/
theorem for_zip {K : PySem.W.Frag} {a b : Addr} {xs ys : List V} {g : TG} {tb : TS} {D : Ends} {σ : St} {H : Hp} (Pv : Nat → St → Hp → Prop) (h0 : Pv 0 σ H) (hl : ∀ i σ H, Pv i σ H → SqL K H a xs ∧ SqL K H b ys)
    (hs : ∀ i x y σ H T, xs[i]? = some x → ys[i]? = some y → Pv i σ H → H T = none → g (.ref T) σ (upd H T (.tup [x, y])) fun σ2 H2 => tb { D with nx := Pv (i + 1), ct := Pv (i + 1), bk := D.nx } σ2 H2)
    (hd : ∀ σ H, Pv (min xs.length ys.length) σ H → D.nx σ H) :
    ∃ W : Nat → Nat → St → Hp → Prop, (∃ m, W 0 m σ H) ∧ ∀ i m σ H, W i m σ H →
      ((Itz K a b).stop i H ∧ D.nx σ H) ∨ ((Itz K a b).go i H ∧ ∃ N : St → Hp → Prop, (∀ σ' H', N σ' H' → ∃ m', m' < m ∧ W (i + 1) m' σ' H') ∧ ∀ x H', (Itz K a b).yld i H x H' → g x σ H' fun σ2 H2 => tb { D with nx := N, ct := N, bk := D.nx } σ2 H2) := by
  refine ⟨fun i m σ H => m = min xs.length ys.length - i ∧ i ≤ min xs.length ys.length ∧ Pv i σ H, ⟨min xs.length ys.length, by simp, Nat.zero_le _, h0⟩, ?_⟩
  rintro i m σ H ⟨rfl, hi, p⟩
  obtain ⟨q1, q2⟩ := hl i σ H p
  by_cases lt : i < min xs.length ys.length
  · have e1 : xs[i]? = some xs[i] := List.getElem?_eq_getElem (by omega)
    have e2 : ys[i]? = some ys[i] := List.getElem?_eq_getElem (by omega)
    refine .inr ⟨⟨xs, ys, _, _, q1, q2, e1, e2⟩, Pv (i + 1), fun σ' H' p' => ⟨_, ?_, rfl, lt, p'⟩, fun v H' yl => ?_⟩
    · omega
    · obtain ⟨T, hT, rfl, e⟩ := yl
      rw [e xs ys _ _ q1 q2 e1 e2]
      exact hs i _ _ σ H T e1 e2 p hT
  · have e : i = min xs.length ys.length := by omega
    subst e
    exact .inl ⟨⟨xs, ys, q1, q2, by omega⟩, hd σ H p⟩
end L2
namespace L2
open PySem PySem.Spec PyProof.Rows
section
variable {X : Cx}
end
end L2
namespace L2
open PySem PySem.Spec PyProof.Rows
theorem call_list_ofK {X : Cx} {K : PySem.W.Frag} (h : X.K = K) : CallR X (.type "list") (fun xs H Q => ∃ p ys, xs = [.ref p] ∧ (SqL K H p ys ∨ SqT K H p ys) ∧ ∀ l, H l = none → Q (.ref l) (upd H l (.lst ys))) := h ▸ call_list_of
end L2

namespace L2
open PySem PySem.Spec PyProof.Rows
/-! ### for k, x in enumerate(xs), of a list that stays; all(..) of a list of bools; a block with a tuple target that sees names of the def -/
/-- the walk of enumerate over the list at a -/
def Ite (K : PySem.W.Frag) (a : Addr) : It :=
  ⟨fun i H => ∃ xs x, SqL K H a xs ∧ xs[i]? = some x,
   fun i H v H' => ∃ T, H T = none ∧ v = .ref T ∧ ∀ xs x, SqL K H a xs → xs[i]? = some x → H' = upd H T (.tup [.int i, x]),
   fun i H => ∃ xs, SqL K H a xs ∧ xs.length ≤ i⟩
def EnumSt (e it a : Addr) (i : Nat) (h : Heap) : Prop := (∃ old, IsEnum h e it i old) ∧ h.IsListIter it a i
def iEnum (K : PySem.W.Frag) (ta : TA) : TI := fun σ H R => ta σ H fun vs H1 => ∃ a, vs = [.ref a] ∧ (∃ xs, SqL K H1 a xs) ∧ R (Ite K a) H1
section
variable {X : Cx}
end
section
variable {gt : TG} {k : Nat} {fr : List Nat} {tt : TT} {te : TE}
theorem compG_zip {K : PySem.W.Frag} {a b : Addr} {xs ys : List V} {σ : St} {H1 : Hp} {Q : VK} (Pv : Addr → Nat → List V → Hp → Prop) (h0 : ∀ D, H1 D = none → Pv D 0 [] (upd H1 D (.lst [])))
    (hk : ∀ D i zs H, H1 D = none → i ≤ min xs.length ys.length → Pv D i zs H → SqL K H a xs ∧ SqL K H b ys)
    (hs : ∀ D i x y zs H T, H1 D = none → xs[i]? = some x → ys[i]? = some y → Pv D i zs H → H T = none → ∀ ts : St, ts.length = k → gt (.ref T) (cmpStG σ fr ts) (upd H T (.tup [x, y])) fun σ2 H2 => (∃ ts2 : St, ts2.length = k ∧ σ2 = cmpStG σ fr ts2) ∧ tt σ2 H2 fun b H3 => if b = true then te σ2 H3 (CYes Pv D i (min xs.length ys.length)) else CNext Pv D i (min xs.length ys.length) H3)
    (hd : ∀ D zs H, H1 D = none → Pv D (min xs.length ys.length) zs H → Q (.ref D) H) : CompAtG (Itz K a b) gt k fr tt te σ Q H1 := by
  intro D hD
  refine ⟨fun i m H => m = min xs.length ys.length - i ∧ i ≤ min xs.length ys.length ∧ ∃ zs, Pv D i zs H, ⟨_, rfl, Nat.zero_le _, [], h0 D hD⟩, ?_⟩
  rintro i m H ⟨rfl, hi, zs, p⟩
  obtain ⟨q1, q2⟩ := hk D i zs H hD hi p
  by_cases hlt : i < min xs.length ys.length
  · have ex : xs[i]? = some xs[i] := List.getElem?_eq_getElem (by omega)
    have ey : ys[i]? = some ys[i] := List.getElem?_eq_getElem (by omega)
    refine .inr ⟨⟨xs, ys, xs[i], ys[i], q1, q2, ex, ey⟩, fun x H' y => ?_⟩
    obtain ⟨T, hT, rfl, e⟩ := y
    rw [e xs ys _ _ q1 q2 ex ey]
    exact hs D i _ _ zs _ T hD ex ey p hT
  · have e : i = min xs.length ys.length := by omega
    subst e
    exact .inl ⟨⟨xs, ys, q1, q2, by omega⟩, hd D zs H hD p⟩
end
theorem cmpOkG_free {X : Cx} {N : List Str} {k : Nat} {fr : List Nat} {scope : Scope} {cl : List (Str × Addr)} (clos : closureFor scope X.env = pure cl) (kind : scope.kind = .function) (nocell : ∀ y ∈ scope.names, y.2 ≠ .cell)
    (names : ∀ y ∈ scope.names, y.2 = .local → scope.names.lookup y.1 = some .local) (len : N.length = k + fr.length)
    (sub : ((List.range fr.length).all fun i => match N[k + i]?, fr[i]? with | some y, some j => (X.N[j]? == some y) && ((X.env.kindOf y == some .cell) && ((relabel scope X.env).names.lookup y == some .cell)) | _, _ => false) = true)
    (cells : ∀ p ∈ cl, X.env.cells.lookup p.1 = some p.2) (has : ((relabel scope X.env).names.all fun p => (p.2 != .cell && p.2 != .free) || (cl.lookup p.1).isSome) = true) : CmpOkG X N k fr scope cl := by
  refine ⟨clos, kind, nocell, names, len, fun i y e => ?_, fun y c e => cells _ (PySem.mem_of_lookup e), fun y h => ?_⟩
  · have hi : i < fr.length := by have := (List.getElem?_eq_some_iff.mp e).1; omega
    have z := List.all_eq_true.mp sub i (List.mem_range.mpr hi)
    rw [e, List.getElem?_eq_getElem hi] at z
    simp only [Bool.and_eq_true, beq_iff_eq] at z
    exact ⟨_, List.getElem?_eq_getElem hi, z.1, .inl z.2.1, .inl z.2.2⟩
  · have look : ∀ k, (relabel scope X.env).names.lookup y = some k → (k = .cell ∨ k = .free) → ∃ c, cl.lookup y = some c := fun k e hk => by
      have z := List.all_eq_true.mp has _ (PySem.mem_of_lookup e)
      rcases hk with rfl | rfl
      · exact Option.isSome_iff_exists.mp (by simpa using z)
      · exact Option.isSome_iff_exists.mp (by simpa using z)
    rcases h with h | h
    · exact look _ h (.inl rfl)
    · exact look _ h (.inr rfl)
section
variable {X : Cx}
end
section
variable {X : Cx} {elt iter tg : Expr} {ifs : List Expr} {pos : Pos} {scope : Scope} {cl : List (Str × Addr)} {N : List Str} {k : Nat} {fr : List Nat} {gt : TG} {tt : TT} {te : TE}
/-- y = [.. for a tuple in ..] -/
theorem ps_compG {wi : TI} {i : Nat} {y : Str} {py spos : Pos} (hN : X.N.Nodup) (hy : X.N[i]? = some y) (hl : Loc X.env.scope y) (hi : PI X tg iter wi) (O : CmpOkG X N k fr scope cl) (hc : X.calm = true) (hg : ∀ fp C s H, PG (cmpCx X N scope cl fp C s H) tg gt)
    (ht : ∀ fp C s H, PIf (cmpCx X N scope cl fp C s H) ifs tt) (he : ∀ fp C s H, PE (cmpCx X N scope cl fp C s H) elt te) (hs : ∀ v, foldedSetIterable iter X.env v = pure v := by intro _; rfl)
    (hsw : swapsWith (.ListComp elt [⟨tg, iter, ifs, 0⟩] scope pos) (some (.Name y py)) spos.line X.env = pure true := by rfl) (hf : X.fn y = true ∨ X.env.scope.names.lookup y = some .local := by first | exact .inl rfl | exact .inr rfl | assumption) :
    PS X (.Assign [.Name y py] (.ListComp elt [⟨tg, iter, ifs, 0⟩] scope pos) spos) (tAsg (tCompG wi gt k fr tt te) (gName i)) := by
  intro pins s σ H D0 I h
  rw [exec_Assign_Name_used _ _ _ _ hsw]
  refine wpAny_bind (wpAny_standAt (wpAny_bind ?_))
  show wpAny _ X.A (do let _ ← comprehension (.ListComp elt [⟨tg, iter, ifs, 0⟩] scope pos) scope X.env _ (newList []) false (eval iter X.env) (some (assign (.Name y py) X.env))) _ _ s
  refine wpAny_bind (wpAny_mono (wpAny_comprehension_free (use := some (assign (.Name y py) X.env)) (Q := fun _ s' => SP X pins D0 .next s') rfl hs O.clos O.kind O.names (thn (hi pins s σ H _ I h) fun v s1 h1 => thn h1 fun itv s2 h2 => ?_)) (fun _ s' hq => wpAny_pure (wpAny_pure hq)) fun _ _ z => z)
  obtain ⟨it, fp, tn, J, H2, e, I2, T, st2, f2, hW⟩ := h2
  subst e
  refine comp_coreG (Q := fun v H1 => gName i v σ H1 D0.nx) (RR := fun acc C => compPost (model X.prog X.w) X.A X.xe (some (assign (.Name y py) X.env)) (fun _ s' => SP X pins D0 .next s') acc C) O hc I2 T st2 f2 ht he hg hW fun D C s' H' hC hn ⟨m, hm⟩ I' q => ?_
  show wpAny _ X.A (assign (.Name y py) X.env (.ref D)) _ _ s'
  refine wpAny_assign_Name (store_ok2 I' hN hy hl (v := .ref D) rfl (fun s3 I3 ⟨a, hsa, ha⟩ => ?_) hf)
  have hCa : C ≠ a := by
    rcases ha with z | z
    · rw [z]; exact Nat.ne_of_gt (Nat.lt_of_lt_of_le I2.lt hC)
    · obtain ⟨v, o, ho, _⟩ := I2.cell y a z
      exact Nat.ne_of_gt (Nat.lt_of_lt_of_le (Heap.lt_size ho) hC)
  exact ⟨m, hm.sameBut hsa hCa, fun h' hs' => ⟨_, H', I2.left I3 hC hn hs', q⟩⟩
end
end L2

namespace L2
open PySem
set_option maxRecDepth 100000
section
variable {prog : Program} {w : World} {A : Around} {E : Value → Shared → Prop} {s : Shared}
end
section
variable {X : Cx}
/-- list(reversed(xs)) -/
def tLR (K : PySem.W.Frag) (ta : TA) : TE := fun σ H Q => ta σ H fun vs H1 => ∃ a xs, vs = [.ref a] ∧ SqL K H1 a xs ∧ ∀ p, H1 p = none → Q (.ref p) (upd H1 p (.lst xs.reverse))
end
end L2
namespace L2
open PySem
end L2

namespace L2
open PySem PySem.Spec PyProof.Rows
/-! ### a list comprehension whose own names are seen by a block within it: they are cells of its frame -/
theorem pi_listK {X : Cx} {K : PySem.W.Frag} {tg l : Expr} {tl : TE} (h : X.K = K) (hl : PE X l tl) : PI X tg l (iList K tl) := h ▸ pi_list hl
def cmpEnvN (scope : Scope) (cl : List (Str × Addr)) (C : Addr) (env : Env) : Env :=
  { scope := relabel scope env, locals := C, globals := env.globals, cells := cellsFrom (C + 1) scope.names cl, qual := env.qual, func := none, code := env.code, frame := env.frame, builtins := env.builtins }
def cmpCxN (X : Cx) (N : List Str) (scope : Scope) (cl : List (Str × Addr)) (fp : List Addr) (C : Addr) (s2 : Shared) (H2 : Hp) : Cx :=
  { prog := X.prog, w := X.w, K := X.K, mg := X.mg, base := X.base, A := X.A, N := N, s₀ := s2, H₀ := H2, env := cmpEnvN scope cl C X.env, outer := X.stack, stack := X.stack, ex := fp, fn := fun y => scope.names.lookup y == some .cell, calm := X.calm, pn := [], xe := fun _ _ => False }
structure CmpOkN (X : Cx) (N : List Str) (k : Nat) (fr : List Nat) (scope : Scope) (cl : List (Str × Addr)) : Prop where
  clos : closureFor scope X.env = pure cl
  kind : scope.kind = .function
  names : ∀ y ∈ scope.names, y.2 = .local → scope.names.lookup y.1 = some .local
  len : N.length = k + fr.length
  sub : ∀ (i : Nat) (y : Str), N[k + i]? = some y → ∃ j, fr[i]? = some j ∧ X.N[j]? = some y ∧ (X.env.kindOf y = some .cell ∨ X.env.kindOf y = some .free) ∧ ((relabel scope X.env).names.lookup y = some .cell ∨ (relabel scope X.env).names.lookup y = some .free) ∧ ∃ c, cl.lookup y = some c ∧ ∀ C : Addr, (cellsFrom (C + 1) scope.names cl).lookup y = some c
  cells : ∀ y c, cl.lookup y = some c → X.env.cells.lookup y = some c
  has : ∀ (C : Addr) (y : Str), ((relabel scope X.env).names.lookup y = some .cell ∨ (relabel scope X.env).names.lookup y = some .free) → ∃ c, (cellsFrom (C + 1) scope.names cl).lookup y = some c
section
variable {X : Cx} {elt iter tg : Expr} {ifs : List Expr} {pos : Pos} {scope : Scope} {cl : List (Str × Addr)} {N : List Str} {k : Nat} {fr : List Nat} {gt : TG} {tt : TT} {te : TE}
end
/-- the names of the def that the block sees, one by one -/
def SubN (X : Cx) (N : List Str) (scope : Scope) (cl : List (Str × Addr)) : List Nat → Nat → Prop
  | [], _ => True
  | j :: fr, i => (∃ (y : Str) (c : Addr), N[i]? = some y ∧ X.N[j]? = some y ∧ X.env.kindOf y = some .cell ∧ (relabel scope X.env).names.lookup y = some .cell ∧ cl.lookup y = some c ∧ ∀ C : Addr, (cellsFrom (C + 1) scope.names cl).lookup y = some c) ∧ SubN X N scope cl fr (i + 1)
/-! list.insert -/
def rInsert : V → List V → Hp → VK → Prop := fun x vs H Q => ∃ (l : Addr) (xs : List V) (i : Int) (k : Nat) (y : V), x = .ref l ∧ vs = [.int i, y] ∧ i = (k : Int) ∧ H l = some (.lst xs) ∧ k ≤ xs.length ∧ xs.length < sizeLine ∧ Q .non (upd H l (.lst (xs.take k ++ y :: xs.drop k)))
end L2

set_option Elab.async false
set_option maxRecDepth 100000
set_option maxHeartbeats 4000000
set_option linter.all false
namespace My
open PySem L2
def top (i : Nat) : Stmt := PySem.Challenge.pw_rowjudge_k76_lines_written.main.body.getD i (.Pass ⟨0, 0, 0, 0⟩)
abbrev s_all_among : Stmt := top 13
abbrev s_is_word : Stmt := top 14
abbrev s_number_text : Stmt := top 15
abbrev s_is_whole : Stmt := top 16
abbrev s_show_cell : Stmt := top 24
abbrev s_words_of : Stmt := top 25
abbrev s_show_range : Stmt := top 26
abbrev s_show_value : Stmt := top 27
abbrev s_way_by : Stmt := top 36
abbrev s_refuse_names : Stmt := top 41
abbrev s_refuse_counts : Stmt := top 42
abbrev s_refuse_way : Stmt := top 43
abbrev s_refuse_row : Stmt := top 44
abbrev s_own_row : Stmt := top 45
abbrev s_head_text : Stmt := top 54
abbrev s_row_text : Stmt := top 55
abbrev s_fields_text : Stmt := top 56
abbrev s_law_at : Stmt := top 58
abbrev s_law_words : Stmt := top 59
abbrev s_law_domain : Stmt := top 60
abbrev s_law_pool : Stmt := top 61
abbrev s_law_spans : Stmt := top 62
abbrev s_law_row : Stmt := top 63
abbrev s_law_book : Stmt := top 64
abbrev s_law_made : Stmt := top 65
abbrev s_law_table : Stmt := top 66
abbrev s_law_domain_text : Stmt := top 68
abbrev s_law_part_text : Stmt := top 69
abbrev s_law_field : Stmt := top 70
abbrev s_law_value : Stmt := top 71
abbrev s_law_head : Stmt := top 72
abbrev s_law_when : Stmt := top 73
abbrev s_Table___init___Table : Stmt := inClass (top 40) 0
abbrev s_First___init___First : Stmt := inClass (top 30) 0
abbrev s_Way___init___First : Stmt := inClass (top 29) 0
abbrev s_Only___init___Only : Stmt := inClass (top 31) 0
abbrev s_Way___init___Only : Stmt := inClass (top 29) 0
abbrev s_Like___init___Like : Stmt := inClass (top 32) 0
abbrev s_Way___init___Like : Stmt := inClass (top 29) 0
abbrev s_Low___init___Low : Stmt := inClass (top 33) 0
abbrev s_Way___init___Low : Stmt := inClass (top 29) 0
abbrev s_High___init___High : Stmt := inClass (top 34) 0
abbrev s_Way___init___High : Stmt := inClass (top 29) 0
abbrev s_Sum___init___Sum : Stmt := inClass (top 35) 0
abbrev s_Way___init___Sum : Stmt := inClass (top 29) 0
abbrev s_Domain_has_code_Numbers : Stmt := inClass (top 17) 5
abbrev s_Domain_has_code_Words : Stmt := inClass (top 17) 5
abbrev s_Numbers___init___Numbers : Stmt := inClass (top 18) 0
abbrev s_Domain___init___Numbers : Stmt := inClass (top 17) 0
abbrev s_Words___init___Words : Stmt := inClass (top 19) 0
abbrev s_Domain___init___Words : Stmt := inClass (top 17) 0
abbrev s_Numbers_written_Numbers : Stmt := inClass (top 18) 4
abbrev s_Words_written_Words : Stmt := inClass (top 19) 4
abbrev s_Domain_worth_Numbers : Stmt := inClass (top 17) 7
abbrev s_Numbers_value_at_Numbers : Stmt := inClass (top 18) 3
abbrev s_Domain_worth_Words : Stmt := inClass (top 17) 7
abbrev s_Words_value_at_Words : Stmt := inClass (top 19) 3
abbrev s_Domain_whole_Numbers : Stmt := inClass (top 17) 9
abbrev s_Domain_whole_Words : Stmt := inClass (top 17) 9
abbrev s_law : Stmt := top 74
theorem sc_all_among : FnScope ["text", "signs", "sign"] ["text", "signs"] (defScope s_all_among) := ⟨rfl, rfl, rfl, by decide +kernel, rfl, by decide +kernel, by decide +kernel⟩
theorem sc_is_word : FnScope ["text"] ["text"] (defScope s_is_word) := ⟨rfl, rfl, rfl, by decide +kernel, rfl, by decide +kernel, by decide +kernel⟩
theorem sc_number_text : FnScope ["number"] ["number"] (defScope s_number_text) := ⟨rfl, rfl, rfl, by decide +kernel, rfl, by decide +kernel, by decide +kernel⟩
theorem sc_is_whole : FnScope ["value"] ["value"] (defScope s_is_whole) := ⟨rfl, rfl, rfl, by decide +kernel, rfl, by decide +kernel, by decide +kernel⟩
theorem sc_show_cell : FnScope ["domain", "spans"] ["domain", "spans"] (defScope s_show_cell) := ⟨rfl, rfl, rfl, by decide +kernel, rfl, by decide +kernel, by decide +kernel⟩
theorem sc_words_of : FnScope ["domain", "spans", "words", "low", "high"] ["domain", "spans"] (defScope s_words_of) := ⟨rfl, rfl, rfl, by decide +kernel, rfl, by decide +kernel, by decide +kernel⟩
theorem sc_show_range : FnScope ["domain", "low", "high"] ["domain", "low", "high"] (defScope s_show_range) := ⟨rfl, rfl, rfl, by decide +kernel, rfl, by decide +kernel, by decide +kernel⟩
theorem sc_show_value : FnScope ["domain", "code"] ["domain", "code"] (defScope s_show_value) := ⟨rfl, rfl, rfl, by decide +kernel, rfl, by decide +kernel, by decide +kernel⟩
theorem sc_way_by : FnScope ["name", "way"] ["name"] (defScope s_way_by) := ⟨rfl, rfl, rfl, by decide +kernel, rfl, by decide +kernel, by decide +kernel⟩
theorem sc_refuse_names : FnScope ["names", "name"] ["names"] (defScope s_refuse_names) := ⟨rfl, rfl, rfl, by decide +kernel, rfl, by decide +kernel, by decide +kernel⟩
theorem sc_refuse_counts : FnScope ["names", "rows"] ["names", "rows"] (defScope s_refuse_counts) := ⟨rfl, rfl, rfl, by decide +kernel, rfl, by decide +kernel, by decide +kernel⟩
theorem sc_refuse_way : FnScope ["way", "outcome"] ["way", "outcome"] (defScope s_refuse_way) := ⟨rfl, rfl, rfl, by decide +kernel, rfl, by decide +kernel, by decide +kernel⟩
theorem sc_refuse_row : FnScope ["domains", "outcome", "cells", "code", "domain", "spans", "low", "high"] ["domains", "outcome", "cells", "code"] (defScope s_refuse_row) := ⟨rfl, rfl, rfl, by decide +kernel, rfl, by decide +kernel, by decide +kernel⟩
theorem sc_own_row : FnScope ["cells", "code"] ["cells", "code"] (defScope s_own_row) := ⟨rfl, rfl, rfl, by decide +kernel, rfl, by decide +kernel, by decide +kernel⟩
theorem sc_head_text : FnScope ["table", "columns"] ["table"] (defScope s_head_text) := ⟨rfl, rfl, rfl, by decide +kernel, rfl, by decide +kernel, by decide +kernel⟩
theorem sc_row_text : FnScope ["table", "k", "row"] ["table", "k"] (defScope s_row_text) := ⟨rfl, rfl, rfl, by decide +kernel, rfl, by decide +kernel, by decide +kernel⟩
theorem sc_fields_text : FnScope ["domains", "cells"] ["domains", "cells"] (defScope s_fields_text) := ⟨rfl, rfl, rfl, by decide +kernel, rfl, by decide +kernel, by decide +kernel⟩
theorem sc_law_at : FnScope ["script", "k"] ["script", "k"] (defScope s_law_at) := ⟨rfl, rfl, rfl, by decide +kernel, rfl, by decide +kernel, by decide +kernel⟩
theorem sc_law_words : FnScope ["cell", "count", "letters", "head", "tail"] ["cell", "count"] (defScope s_law_words) := ⟨rfl, rfl, rfl, by decide +kernel, rfl, by decide +kernel, by decide +kernel⟩
theorem sc_law_domain : FnScope ["cell", "low", "width", "words"] ["cell"] (defScope s_law_domain) := ⟨rfl, rfl, rfl, by decide +kernel, rfl, by decide +kernel, by decide +kernel⟩
theorem sc_law_pool : FnScope ["domain", "cell", "width"] ["domain", "cell"] (defScope s_law_pool) := ⟨rfl, rfl, rfl, by decide +kernel, rfl, by decide +kernel, by decide +kernel⟩
theorem sc_law_spans : FnScope ["kind", "one", "two", "domain", "parts"] ["kind", "one", "two", "domain"] (defScope s_law_spans) := ⟨rfl, rfl, rfl, by decide +kernel, rfl, by decide +kernel, by decide +kernel⟩
theorem sc_law_row : FnScope ["columns", "domains", "pools", "own", "cell", "number", "parts", "k", "one", "two"] ["columns", "domains", "pools", "own", "cell"] (defScope s_law_row) := ⟨rfl, rfl, rfl, by decide +kernel, rfl, by decide +kernel, by decide +kernel⟩
theorem sc_law_book : FnScope ["script", "facts", "total", "domains", "pools", "tables", "own", "cell", "columns", "way", "k", "table"] ["script"] (defScope s_law_book) := ⟨rfl, rfl, rfl, by decide +kernel, rfl, by decide +kernel, by decide +kernel⟩
theorem sc_law_made : FnScope ["domain"] ["domain"] (defScope s_law_made) := ⟨rfl, rfl, rfl, by decide +kernel, rfl, by decide +kernel, by decide +kernel⟩
theorem sc_law_table : FnScope ["plan", "k", "names", "domains", "tables", "own", "columns", "rows", "heads", "taken"] ["plan", "k"] (defScope s_law_table) := ⟨rfl, rfl, rfl, by decide +kernel, rfl, by decide +kernel, by decide +kernel⟩
theorem sc_law_domain_text : FnScope ["domain"] ["domain"] (defScope s_law_domain_text) := ⟨rfl, rfl, rfl, by decide +kernel, rfl, by decide +kernel, by decide +kernel⟩
theorem sc_law_part_text : FnScope ["domain", "pair"] ["domain", "pair"] (defScope s_law_part_text) := ⟨rfl, rfl, rfl, by decide +kernel, rfl, by decide +kernel, by decide +kernel⟩
theorem sc_law_field : FnScope ["domain", "spans"] ["domain", "spans"] (defScope s_law_field) := ⟨rfl, rfl, rfl, by decide +kernel, rfl, by decide +kernel, by decide +kernel⟩
theorem sc_law_value : FnScope ["domain", "code"] ["domain", "code"] (defScope s_law_value) := ⟨rfl, rfl, rfl, by decide +kernel, rfl, by decide +kernel, by decide +kernel⟩
theorem sc_law_head : FnScope ["plan", "k", "names", "domains", "tables", "own", "heads", "tail"] ["plan", "k"] (defScope s_law_head) := ⟨rfl, rfl, rfl, by decide +kernel, rfl, by decide +kernel, by decide +kernel⟩
theorem sc_law_when : FnScope ["plan", "k", "row", "names", "domains", "tables", "columns", "fields", "own"] ["plan", "k", "row"] (defScope s_law_when) := ⟨rfl, rfl, rfl, by decide +kernel, rfl, by decide +kernel, by decide +kernel⟩
theorem sc_Table___init___Table : FnScope ["self", "name", "names", "domains", "outcome", "way", "rows", "cells", "code"] ["self", "name", "names", "domains", "outcome", "way", "rows"] (defScope s_Table___init___Table) := ⟨rfl, rfl, rfl, by decide +kernel, rfl, by decide +kernel, by decide +kernel⟩
theorem sc_First___init___First : FnScope ["self"] ["self"] (defScope s_First___init___First) := ⟨rfl, rfl, rfl, by decide +kernel, rfl, by decide +kernel, by decide +kernel⟩
theorem sc_Way___init___First : FnScope ["self", "called"] ["self", "called"] (defScope s_Way___init___First) := ⟨rfl, rfl, rfl, by decide +kernel, rfl, by decide +kernel, by decide +kernel⟩
theorem sc_Only___init___Only : FnScope ["self"] ["self"] (defScope s_Only___init___Only) := ⟨rfl, rfl, rfl, by decide +kernel, rfl, by decide +kernel, by decide +kernel⟩
theorem sc_Way___init___Only : FnScope ["self", "called"] ["self", "called"] (defScope s_Way___init___Only) := ⟨rfl, rfl, rfl, by decide +kernel, rfl, by decide +kernel, by decide +kernel⟩
theorem sc_Like___init___Like : FnScope ["self"] ["self"] (defScope s_Like___init___Like) := ⟨rfl, rfl, rfl, by decide +kernel, rfl, by decide +kernel, by decide +kernel⟩
theorem sc_Way___init___Like : FnScope ["self", "called"] ["self", "called"] (defScope s_Way___init___Like) := ⟨rfl, rfl, rfl, by decide +kernel, rfl, by decide +kernel, by decide +kernel⟩
theorem sc_Low___init___Low : FnScope ["self"] ["self"] (defScope s_Low___init___Low) := ⟨rfl, rfl, rfl, by decide +kernel, rfl, by decide +kernel, by decide +kernel⟩
theorem sc_Way___init___Low : FnScope ["self", "called"] ["self", "called"] (defScope s_Way___init___Low) := ⟨rfl, rfl, rfl, by decide +kernel, rfl, by decide +kernel, by decide +kernel⟩
theorem sc_High___init___High : FnScope ["self"] ["self"] (defScope s_High___init___High) := ⟨rfl, rfl, rfl, by decide +kernel, rfl, by decide +kernel, by decide +kernel⟩
theorem sc_Way___init___High : FnScope ["self", "called"] ["self", "called"] (defScope s_Way___init___High) := ⟨rfl, rfl, rfl, by decide +kernel, rfl, by decide +kernel, by decide +kernel⟩
theorem sc_Sum___init___Sum : FnScope ["self"] ["self"] (defScope s_Sum___init___Sum) := ⟨rfl, rfl, rfl, by decide +kernel, rfl, by decide +kernel, by decide +kernel⟩
theorem sc_Way___init___Sum : FnScope ["self", "called"] ["self", "called"] (defScope s_Way___init___Sum) := ⟨rfl, rfl, rfl, by decide +kernel, rfl, by decide +kernel, by decide +kernel⟩
theorem sc_Domain_has_code_Numbers : FnScope ["self", "value"] ["self", "value"] (defScope s_Domain_has_code_Numbers) := ⟨rfl, rfl, rfl, by decide +kernel, rfl, by decide +kernel, by decide +kernel⟩
theorem sc_Domain_has_code_Words : FnScope ["self", "value"] ["self", "value"] (defScope s_Domain_has_code_Words) := ⟨rfl, rfl, rfl, by decide +kernel, rfl, by decide +kernel, by decide +kernel⟩
theorem sc_Numbers___init___Numbers : FnScope ["self", "low", "high"] ["self", "low", "high"] (defScope s_Numbers___init___Numbers) := ⟨rfl, rfl, rfl, by decide +kernel, rfl, by decide +kernel, by decide +kernel⟩
theorem sc_Domain___init___Numbers : FnScope ["self", "low", "high"] ["self", "low", "high"] (defScope s_Domain___init___Numbers) := ⟨rfl, rfl, rfl, by decide +kernel, rfl, by decide +kernel, by decide +kernel⟩
theorem sc_Words___init___Words : FnScope ["self", "words", "word"] ["self", "words"] (defScope s_Words___init___Words) := ⟨rfl, rfl, rfl, by decide +kernel, rfl, by decide +kernel, by decide +kernel⟩
theorem sc_Domain___init___Words : FnScope ["self", "low", "high"] ["self", "low", "high"] (defScope s_Domain___init___Words) := ⟨rfl, rfl, rfl, by decide +kernel, rfl, by decide +kernel, by decide +kernel⟩
theorem sc_Numbers_written_Numbers : FnScope ["self"] ["self"] (defScope s_Numbers_written_Numbers) := ⟨rfl, rfl, rfl, by decide +kernel, rfl, by decide +kernel, by decide +kernel⟩
theorem sc_Words_written_Words : FnScope ["self"] ["self"] (defScope s_Words_written_Words) := ⟨rfl, rfl, rfl, by decide +kernel, rfl, by decide +kernel, by decide +kernel⟩
theorem sc_Domain_worth_Numbers : FnScope ["self", "code"] ["self", "code"] (defScope s_Domain_worth_Numbers) := ⟨rfl, rfl, rfl, by decide +kernel, rfl, by decide +kernel, by decide +kernel⟩
theorem sc_Numbers_value_at_Numbers : FnScope ["self", "code"] ["self", "code"] (defScope s_Numbers_value_at_Numbers) := ⟨rfl, rfl, rfl, by decide +kernel, rfl, by decide +kernel, by decide +kernel⟩
theorem sc_Domain_worth_Words : FnScope ["self", "code"] ["self", "code"] (defScope s_Domain_worth_Words) := ⟨rfl, rfl, rfl, by decide +kernel, rfl, by decide +kernel, by decide +kernel⟩
theorem sc_Words_value_at_Words : FnScope ["self", "code"] ["self", "code"] (defScope s_Words_value_at_Words) := ⟨rfl, rfl, rfl, by decide +kernel, rfl, by decide +kernel, by decide +kernel⟩
theorem sc_Domain_whole_Numbers : FnScope ["self"] ["self"] (defScope s_Domain_whole_Numbers) := ⟨rfl, rfl, rfl, by decide +kernel, rfl, by decide +kernel, by decide +kernel⟩
theorem sc_Domain_whole_Words : FnScope ["self"] ["self"] (defScope s_Domain_whole_Words) := ⟨rfl, rfl, rfl, by decide +kernel, rfl, by decide +kernel, by decide +kernel⟩
theorem sc_law : FnScope ["script", "plan", "tables", "k", "made", "found", "j", "line"] ["script"] (defScope s_law) := ⟨rfl, rfl, rfl, by decide +kernel, rfl, by decide +kernel, by decide +kernel⟩
structure Bl (K : PySem.W.Frag) (mg : Str → Option Value) (cWay cFirst cOnly cLike cLow cHigh cSum cDomain cNumbers cWords cTable : Addr) : Prop where
  Way_ : mg "Way" = some (.ref cWay)
  n_Way : PySem.W.nsIn K mainGlobals "Way" = some (some (.ref cWay))
  First_ : mg "First" = some (.ref cFirst)
  n_First : PySem.W.nsIn K mainGlobals "First" = some (some (.ref cFirst))
  Only_ : mg "Only" = some (.ref cOnly)
  n_Only : PySem.W.nsIn K mainGlobals "Only" = some (some (.ref cOnly))
  Like_ : mg "Like" = some (.ref cLike)
  n_Like : PySem.W.nsIn K mainGlobals "Like" = some (some (.ref cLike))
  Low_ : mg "Low" = some (.ref cLow)
  n_Low : PySem.W.nsIn K mainGlobals "Low" = some (some (.ref cLow))
  High_ : mg "High" = some (.ref cHigh)
  n_High : PySem.W.nsIn K mainGlobals "High" = some (some (.ref cHigh))
  Sum_ : mg "Sum" = some (.ref cSum)
  n_Sum : PySem.W.nsIn K mainGlobals "Sum" = some (some (.ref cSum))
  Domain_ : mg "Domain" = some (.ref cDomain)
  n_Domain : PySem.W.nsIn K mainGlobals "Domain" = some (some (.ref cDomain))
  Numbers_ : mg "Numbers" = some (.ref cNumbers)
  n_Numbers : PySem.W.nsIn K mainGlobals "Numbers" = some (some (.ref cNumbers))
  Words_ : mg "Words" = some (.ref cWords)
  n_Words : PySem.W.nsIn K mainGlobals "Words" = some (some (.ref cWords))
  Table_ : mg "Table" = some (.ref cTable)
  n_Table : PySem.W.nsIn K mainGlobals "Table" = some (some (.ref cTable))
  k_First : Cls K cFirst
  k_Only : Cls K cOnly
  k_Like : Cls K cLike
  k_Low : Cls K cLow
  k_High : Cls K cHigh
  k_Sum : Cls K cSum
  k_Numbers : Cls K cNumbers
  k_Words : Cls K cWords
  k_Table : Cls K cTable
  t_First : InsT K cFirst
  t_Only : InsT K cOnly
  t_Like : InsT K cLike
  t_Low : InsT K cLow
  t_High : InsT K cHigh
  t_Sum : InsT K cSum
  t_Numbers : InsT K cNumbers
  t_Words : InsT K cWords
  t_Table : InsT K cTable
  na_First_called : NoAttr K cFirst "called"
  na_Only_called : NoAttr K cOnly "called"
  na_Like_called : NoAttr K cLike "called"
  na_Low_called : NoAttr K cLow "called"
  na_High_called : NoAttr K cHigh "called"
  na_Sum_called : NoAttr K cSum "called"
  na_Numbers_low : NoAttr K cNumbers "low"
  na_Numbers_high : NoAttr K cNumbers "high"
  na_Numbers_words : NoAttr K cNumbers "words"
  na_Words_low : NoAttr K cWords "low"
  na_Words_high : NoAttr K cWords "high"
  na_Words_words : NoAttr K cWords "words"
  na_Table_name : NoAttr K cTable "name"
  na_Table_names : NoAttr K cTable "names"
  na_Table_domains : NoAttr K cTable "domains"
  na_Table_outcome : NoAttr K cTable "outcome"
  na_Table_way : NoAttr K cTable "way"
  na_Table_rows : NoAttr K cTable "rows"
  f_nn : PySem.W.kitOne K (.ref cNumbers) (.ref cNumbers) = some true
  f_wn : PySem.W.kitOne K (.ref cWords) (.ref cNumbers) = some false
  f_ww : PySem.W.kitOne K (.ref cWords) (.ref cWords) = some true
  f_tt : PySem.W.kitOne K (.ref cTable) (.ref cTable) = some true
  f_nw : PySem.W.kitOne K (.ref cNumbers) (.ref cWords) = some false
  len_ : mg "len" = none
  str_ : mg "str" = none
  isinstance_ : mg "isinstance" = none
  int_ : mg "int" = none
  bool_ : mg "bool" = none
  set_ : mg "set" = none
  zip_ : mg "zip" = none
  list_ : mg "list" = none
  range_ : mg "range" = none
  min_ : mg "min" = none
  max_ : mg "max" = none
  MOST_SIGNS_ : ∃ u, mg "MOST_SIGNS" = some u ∧ RelV (V.int 12) u
  SMALL_LETTERS_ : ∃ u, mg "SMALL_LETTERS" = some u ∧ RelV (V.str "abcdefghijklmnopqrstuvwxyz") u
  ALL_ : ∃ u, mg "ALL" = some u ∧ RelV (V.str "-") u
  NOT_ : ∃ u, mg "NOT" = some u ∧ RelV (V.str "not ") u
  UP_TO_ : ∃ u, mg "UP_TO" = some u ∧ RelV (V.str "..") u
  MOST_ROWS_ : ∃ u, mg "MOST_ROWS" = some u ∧ RelV (V.int 200) u
  MOST_COLUMNS_ : ∃ u, mg "MOST_COLUMNS" = some u ∧ RelV (V.int 4) u
  BETWEEN_NAMES_ : ∃ u, mg "BETWEEN_NAMES" = some u ∧ RelV (V.str ", ") u
  BY_ : ∃ u, mg "BY" = some u ∧ RelV (V.str " by ") u
  TO_ : ∃ u, mg "TO" = some u ∧ RelV (V.str " -> ") u
  NAMED_ : ∃ u, mg "NAMED" = some u ∧ RelV (V.str ": ") u
  TABLE_ : ∃ u, mg "TABLE" = some u ∧ RelV (V.str "table ") u
  WHEN_ : ∃ u, mg "WHEN" = some u ∧ RelV (V.str "when ") u
  BETWEEN_FIELDS_ : ∃ u, mg "BETWEEN_FIELDS" = some u ∧ RelV (V.str " | ") u
  MOST_WORDS_ : ∃ u, mg "MOST_WORDS" = some u ∧ RelV (V.int 40) u
theorem p10 (n : Nat) : (0 : Int) < 10 ^ n := Int.pow_pos (by decide)
theorem ret_r1 {H : Hp} {r : Addr} {o : HO} {b : Addr} {u : HO} (h : H r = some u) (n : H b = none) : upd H b o r = some u := by rw [upd_ne (ne_of_none h n)]; exact h
theorem take_snoc {α : Type} {l : List α} {i : Nat} {x : α} (e : l[i]? = some x) : l.take (i + 1) = l.take i ++ [x] := by rw [List.take_add_one, e]; rfl
def lets : Str := "abcdefghijklmnopqrstuvwxyz"
def isw (z : Str) : Bool := decide ((1 : Int) ≤ ((z.length : Nat) : Int)) && (decide (((z.length : Nat) : Int) ≤ 12) && (!decide (V.str z = V.str "not") && allIn z lets))
theorem all_no {l : List Nat} {i : Nat} {c : Nat} {p : Nat → Bool} (e : l[i]? = some c) (h : p c = false) : l.all p = false := by
  cases q : l.all p with
  | false => rfl
  | true => rw [List.all_eq_true.mp q c (List.mem_of_getElem? e)] at h; cases h
theorem all_succ {l : List Nat} {i : Nat} {c : Nat} {p : Nat → Bool} (e : l[i]? = some c) (h : p c = true) (ha : (l.take i).all p = true) : (l.take (i + 1)).all p = true := by
  rw [take_snoc e, List.all_append, ha]; simp [h]
theorem all_done {z g : Str} (h : (z.cps.toList.take z.cps.size).all (sg g) = true) : allIn z g = true := by
  have e : z.cps.toList.take z.cps.size = z.cps.toList := by rw [← Array.length_toList]; exact List.take_length
  rw [e] at h; exact h
theorem not_sg {g : Str} {c : Nat} (h : (!(!(Builtin.Str.occurrences g ⟨#[c]⟩ 0 g.length 1).isEmpty)) = true) : sg g c = false := by unfold sg; simpa using h
theorem is_sg {g : Str} {c : Nat} (h : ¬ (!(!(Builtin.Str.occurrences g ⟨#[c]⟩ 0 g.length 1).isEmpty)) = true) : sg g c = true := by unfold sg; simpa using h
theorem big {n : Nat} (h : n ≤ 1000) : n ≤ sizeLine := Nat.le_of_lt (small1000 h)
def mkd (C : Addr) (H : Hp) (x dx : Addr) (lo hi : Int) : Hp := upd (upd H x (.ins C dx [("low", .int lo)])) x (.ins C dx [("low", .int lo), ("high", .int hi)])
theorem put2 (v u : V) : putF (Str.ofString "high") u [(Str.ofString "low", v)] = [(Str.ofString "low", v), (Str.ofString "high", u)] := by
  unfold putF putF
  rw [if_neg (by decide)]
theorem put3 (v u t : V) : putF (Str.ofString "words") t [(Str.ofString "low", v), (Str.ofString "high", u)] = [(Str.ofString "low", v), (Str.ofString "high", u), (Str.ofString "words", t)] := by
  unfold putF putF putF
  rw [if_neg (by decide), if_neg (by decide)]
def hiW (zs : List Str) : Int := ((zs.length : Nat) : Int) - 1
structure Good (zs : List Str) : Prop where
  some_ : 1 ≤ zs.length
  few : zs.length ≤ 40
  words : ∀ z ∈ zs, isw z = true
  once : zs.Nodup
theorem get_strs {zs : List Str} {i : Nat} {x : V} (e : (zs.map V.str)[i]? = some x) : ∃ z, x = .str z ∧ zs[i]? = some z := by
  rw [List.getElem?_map] at e
  cases q : zs[i]? with
  | none => rw [q] at e; cases e
  | some z => rw [q] at e; cases e; exact ⟨z, rfl, rfl⟩
theorem put_strs {zs : List Str} {i : Nat} {z : Str} (e : zs[i]? = some z) : (zs.map V.str)[i]? = some (.str z) := by rw [List.getElem?_map, e]; rfl
def six : List Str := [Str.ofString "first", Str.ofString "only", Str.ofString "like", Str.ofString "low", Str.ofString "high", Str.ofString "sum"]
def WyN (C : Addr) (H : Hp) (x : Addr) (z : Str) : Prop := ∃ dx, H x = some (.ins C dx [("called", .str z)])
theorem WyN.same {C : Addr} {H H' : Hp} {x : Addr} {z : Str} (h : WyN C H x z) (s : Same H H') : WyN C H' x z := let ⟨dx, e⟩ := h; ⟨dx, s _ _ e⟩
def fnew (C : Addr) (z : Str) : Sp := fun vs H Q _ => ∃ (x dx : Addr), vs = [.ref x] ∧ H x = some (.ins C dx []) ∧ Q .non (upd H x (.ins C dx [("called", .str z)]))
theorem small2 : 2 ≤ sizeLine := by decide
/-- the six classes, told by place -/
def cl6 (a b c d e f : Addr) : List Addr := [a, b, c, d, e, f]

/-! domains, told by their ends -/
def DomC (C : Addr) (H : Hp) (a : Addr) (lo hi : Int) : Prop := ∃ dx fs, H a = some (.ins C dx fs) ∧ fs.lookup (Str.ofString "low") = some (.int lo) ∧ fs.lookup (Str.ofString "high") = some (.int hi) ∧ fs.lookup (Str.ofString "has_code") = none
def Dom (cN cW : Addr) (H : Hp) (a : Addr) (b : Int × Int) : Prop := ∃ C, (C = cN ∨ C = cW) ∧ DomC C H a b.1 b.2
theorem Dom.same {cN cW : Addr} {H H' : Hp} {a : Addr} {b : Int × Int} (h : Dom cN cW H a b) (s : Same H H') : Dom cN cW H' a b := let ⟨C, hC, dx, fs, e, r⟩ := h; ⟨C, hC, dx, fs, s _ _ e, r⟩
/-- a row of refs, item by item -/
def RefL {α : Type} (xs : List V) (as : List α) (P : Addr → α → Prop) : Prop := xs.length = as.length ∧ ∀ (j : Nat) (a : α), as[j]? = some a → ∃ r, xs[j]? = some (.ref r) ∧ P r a
theorem RefL.mono {α : Type} {xs : List V} {as : List α} {P Q : Addr → α → Prop} (h : RefL xs as P) (k : ∀ r a, P r a → Q r a) : RefL xs as Q := ⟨h.1, fun j a e => let ⟨r, e1, p⟩ := h.2 j a e; ⟨r, e1, k r a p⟩⟩
theorem RefL.nil {α : Type} {P : Addr → α → Prop} : RefL [] [] P := ⟨rfl, (fun j a e => by simp at e)⟩
theorem RefL.snoc {α : Type} {xs : List V} {as : List α} {P : Addr → α → Prop} {r : Addr} {a : α} (h : RefL xs as P) (p : P r a) : RefL (xs ++ [.ref r]) (as ++ [a]) P := by
  refine ⟨by simp [h.1], fun j b e => ?_⟩
  by_cases hj : j < as.length
  · rw [List.getElem?_append_left hj] at e
    obtain ⟨r', e1, q⟩ := h.2 j b e
    exact ⟨r', by rw [List.getElem?_append_left (by rw [h.1]; exact hj)]; exact e1, q⟩
  · have hj2 : j = as.length := by
      have := (List.getElem?_eq_some_iff.mp e).1
      simp at this; omega
    subst hj2
    simp at e
    subst e
    exact ⟨r, by rw [← h.1]; simp, p⟩
theorem RefL.get {α : Type} {xs : List V} {as : List α} {P : Addr → α → Prop} (h : RefL xs as P) {j : Nat} {x : V} (e : xs[j]? = some x) : ∃ r a, x = .ref r ∧ as[j]? = some a ∧ P r a := by
  have hj := (List.getElem?_eq_some_iff.mp e).1
  have ea := List.getElem?_eq_getElem (l := as) (i := j) (by rw [← h.1]; exact hj)
  obtain ⟨r, e1, p⟩ := h.2 j _ ea
  rw [e] at e1; cases e1
  exact ⟨r, _, rfl, ea, p⟩
abbrev Prs := List (Int × Int)
/-- a list of pairs at l -/
def SpA (N : Addr → Prop) (H : Hp) (l : Addr) (ps : Prs) : Prop := N l ∧ ∃ ys, H l = some (.lst ys) ∧ PL H ys ps
def CL (N : Addr → Prop) (H : Hp) (xs : List V) (pss : List Prs) : Prop := RefL xs pss (SpA N H)
abbrev Rw := List Prs × Int
def RowA (N : Addr → Prop) (H : Hp) (r : Addr) (rw_ : Rw) : Prop := ∃ ce cs, H r = some (.tup [.ref ce, .int rw_.2]) ∧ N ce ∧ H ce = some (.lst cs) ∧ CL N H cs rw_.1
def RL (N : Addr → Prop) (H : Hp) (xs : List V) (rws : List Rw) : Prop := RefL xs rws (RowA N H)
theorem SpA.same {N : Addr → Prop} {H H' : Hp} {l : Addr} {ps : Prs} (h : SpA N H l ps) (s : Same H H') : SpA N H' l ps := let ⟨n, ys, e, p⟩ := h; ⟨n, ys, s _ _ e, p.mono s.tups⟩
theorem CL.same {N : Addr → Prop} {H H' : Hp} {xs : List V} {pss : List Prs} (h : CL N H xs pss) (s : Same H H') : CL N H' xs pss := RefL.mono h fun _ _ p => p.same s
theorem RowA.same {N : Addr → Prop} {H H' : Hp} {r : Addr} {w : Rw} (h : RowA N H r w) (s : Same H H') : RowA N H' r w := let ⟨ce, cs, e, n, f, c⟩ := h; ⟨ce, cs, s _ _ e, n, s _ _ f, c.same s⟩
theorem RL.same {N : Addr → Prop} {H H' : Hp} {xs : List V} {rws : List Rw} (h : RL N H xs rws) (s : Same H H') : RL N H' xs rws := RefL.mono h fun _ _ p => p.same s
abbrev NT : Addr → Prop := fun _ => True
theorem SpA.any {N : Addr → Prop} {H : Hp} {l : Addr} {ps : Prs} (h : SpA N H l ps) : SpA NT H l ps := ⟨trivial, h.2⟩
theorem CL.any {N : Addr → Prop} {H : Hp} {xs : List V} {pss : List Prs} (h : CL N H xs pss) : CL NT H xs pss := RefL.mono h fun _ _ p => p.any
theorem RowA.any {N : Addr → Prop} {H : Hp} {r : Addr} {w : Rw} (h : RowA N H r w) : RowA NT H r w := let ⟨ce, cs, e, _, f, c⟩ := h; ⟨ce, cs, e, trivial, f, c.any⟩
theorem RL.any {N : Addr → Prop} {H : Hp} {xs : List V} {rws : List Rw} (h : RL N H xs rws) : RL NT H xs rws := RefL.mono h fun _ _ p => p.any
theorem SpA.wk {N N' : Addr → Prop} {H : Hp} {l : Addr} {ps : Prs} (h : SpA N H l ps) (k : ∀ a, N a → N' a) : SpA N' H l ps := ⟨k _ h.1, h.2⟩
theorem CL.wk {N N' : Addr → Prop} {H : Hp} {xs : List V} {pss : List Prs} (h : CL N H xs pss) (k : ∀ a, N a → N' a) : CL N' H xs pss := RefL.mono h fun _ _ p => p.wk k
theorem RowA.wk {N N' : Addr → Prop} {H : Hp} {r : Addr} {w : Rw} (h : RowA N H r w) (k : ∀ a, N a → N' a) : RowA N' H r w := let ⟨ce, cs, e, n, f, c⟩ := h; ⟨ce, cs, e, k _ n, f, c.wk k⟩
theorem SpA.updN {N : Addr → Prop} {D : Addr} {H : Hp} {l : Addr} {ps : Prs} {zs : List V} {o : HO} (h : SpA N H l ps) (n : ¬ N D) (e : H D = some (.lst zs)) : SpA N (upd H D o) l ps :=
  let ⟨m, ys, f, p⟩ := h
  ⟨m, ys, (upd_ne (fun z => n (by rw [← z]; exact m))).trans f, p.mono (sameT_lst e)⟩
theorem CL.updN {N : Addr → Prop} {D : Addr} {H : Hp} {xs : List V} {pss : List Prs} {zs : List V} {o : HO} (h : CL N H xs pss) (n : ¬ N D) (e : H D = some (.lst zs)) : CL N (upd H D o) xs pss := RefL.mono h fun _ _ p => p.updN n e
theorem RowA.updN {N : Addr → Prop} {D : Addr} {H : Hp} {r : Addr} {w : Rw} {zs : List V} {o : HO} (h : RowA N H r w) (n : ¬ N D) (e : H D = some (.lst zs)) : RowA N (upd H D o) r w :=
  let ⟨ce, cs, f, m, g, c⟩ := h
  ⟨ce, cs, (upd_ne (ne_of f e (by intro z; cases z))).trans f, m, (upd_ne (fun z => n (by rw [← z]; exact m))).trans g, c.updN n e⟩
theorem RL.updN {N : Addr → Prop} {D : Addr} {H : Hp} {xs : List V} {rws : List Rw} {zs : List V} {o : HO} (h : RL N H xs rws) (n : ¬ N D) (e : H D = some (.lst zs)) : RL N (upd H D o) xs rws := RefL.mono h fun _ _ p => p.updN n e
/-- free ahead, and not D -/
def Fr (H : Hp) (D : Addr) : Addr → Prop := fun a => H a = none ∧ a ≠ D
theorem Fr.out {H : Hp} {D : Addr} : ¬ Fr H D D := fun h => h.2 rfl
/-- columns of the law -/
structure RngOk (b : Int × Int) (zs : List Str) : Prop where
  le : b.1 ≤ b.2
  ws : zs ≠ [] → Good zs ∧ b = (0, hiW zs)
def ColA (N : Addr → Prop) (H : Hp) (l : Addr) (b : Int × Int) : Prop := ∃ (w : Addr) (zs : List Str), N l ∧ N w ∧ H l = some (.lst [.int b.1, .int b.2, .ref w]) ∧ H w = some (.lst (zs.map V.str)) ∧ RngOk b zs
def Cols (N : Addr → Prop) (H : Hp) (xs : List V) (bs : Prs) : Prop := RefL xs bs (ColA N H)
/-- a row that a table takes -/
structure RowOk (bs : Prs) (o : Int × Int) (w : Rw) : Prop where
  len : w.1.length = bs.length
  inn : ∀ (j : Nat) (ps : Prs) (b : Int × Int), w.1[j]? = some ps → bs[j]? = some b → ∀ p ∈ ps, b.1 ≤ p.1 ∧ p.2 ≤ b.2
  lo : o.1 ≤ w.2
  hi : w.2 ≤ o.2
/-- a row fits codes -/
def rfit (pss : List Prs) (cs : List Int) : Bool := (List.range cs.length).all fun j => inP (pss.getD j []) (cs.getD j 0)
theorem pf1 (v0 v1 : V) : putF (Str.ofString "names") v1 [(Str.ofString "name", v0)] = [(Str.ofString "name", v0), (Str.ofString "names", v1)] := by
  unfold putF putF
  rw [if_neg (by decide)]
theorem pf2 (v0 v1 v2 : V) : putF (Str.ofString "domains") v2 [(Str.ofString "name", v0), (Str.ofString "names", v1)] = [(Str.ofString "name", v0), (Str.ofString "names", v1), (Str.ofString "domains", v2)] := by
  unfold putF putF putF
  rw [if_neg (by decide), if_neg (by decide)]
theorem pf3 (v0 v1 v2 v3 : V) : putF (Str.ofString "outcome") v3 [(Str.ofString "name", v0), (Str.ofString "names", v1), (Str.ofString "domains", v2)] = [(Str.ofString "name", v0), (Str.ofString "names", v1), (Str.ofString "domains", v2), (Str.ofString "outcome", v3)] := by
  unfold putF putF putF putF
  rw [if_neg (by decide), if_neg (by decide), if_neg (by decide)]
theorem pf4 (v0 v1 v2 v3 v4 : V) : putF (Str.ofString "way") v4 [(Str.ofString "name", v0), (Str.ofString "names", v1), (Str.ofString "domains", v2), (Str.ofString "outcome", v3)] = [(Str.ofString "name", v0), (Str.ofString "names", v1), (Str.ofString "domains", v2), (Str.ofString "outcome", v3), (Str.ofString "way", v4)] := by
  unfold putF putF putF putF putF
  rw [if_neg (by decide), if_neg (by decide), if_neg (by decide), if_neg (by decide)]
theorem pf5 (v0 v1 v2 v3 v4 v5 : V) : putF (Str.ofString "rows") v5 [(Str.ofString "name", v0), (Str.ofString "names", v1), (Str.ofString "domains", v2), (Str.ofString "outcome", v3), (Str.ofString "way", v4)] = [(Str.ofString "name", v0), (Str.ofString "names", v1), (Str.ofString "domains", v2), (Str.ofString "outcome", v3), (Str.ofString "way", v4), (Str.ofString "rows", v5)] := by
  unfold putF putF putF putF putF putF
  rw [if_neg (by decide), if_neg (by decide), if_neg (by decide), if_neg (by decide), if_neg (by decide)]
/-- the heap without x -/
def hide (H : Hp) (x : Addr) : Hp := fun b => if b = x then none else H b
theorem hide_of {H : Hp} {x b : Addr} {o : HO} (e : H b = some o) (n : b ≠ x) : hide H x b = some o := by unfold hide; rw [if_neg n]; exact e
theorem hide_same {H H' : Hp} {x : Addr} (k : ∀ b o, b ≠ x → H b = some o → H' b = some o) : Same (hide H x) H' := fun b o e => by
  unfold hide at e
  by_cases h : b = x
  · rw [if_pos h] at e; cases e
  · rw [if_neg h] at e; exact k b o h e
theorem PL.hide {H : Hp} {x C dx : Addr} {fs : List (Str × V)} (hx : H x = some (.ins C dx fs)) {ys : List V} {ps : Prs} (h : PL H ys ps) : PL (hide H x) ys ps :=
  h.mono fun b xs e => hide_of e (ne_of e hx (by intro z; cases z))
theorem RL.hide {H : Hp} {x C dx : Addr} {fs : List (Str × V)} (hx : H x = some (.ins C dx fs)) {xs : List V} {rws : List Rw} (h : RL NT H xs rws) : RL NT (My.hide H x) xs rws :=
  RefL.mono h fun r w ⟨ce, cs, e, _, f, c⟩ => ⟨ce, cs, hide_of e (ne_of e hx (by intro z; cases z)), trivial, hide_of f (ne_of f hx (by intro z; cases z)), RefL.mono c fun l ps ⟨_, ys, g, p⟩ => ⟨trivial, ys, hide_of g (ne_of g hx (by intro z; cases z)), PL.hide hx p⟩⟩
/-! words -/
def wcs (c k : Int) : List Nat := List.replicate (c / 26 % 6).toNat (97 + (c % 26).toNat) ++ ([97 + (k / 7 % 7).toNat, 97 + (k % 7).toNat] ++ List.replicate (k % 5).toNat (97 + (c / 156 % 26).toNat))
def wd (c k : Int) : Str := ⟨(wcs c k).toArray⟩
theorem sg_let {c : Nat} (h : 97 ≤ c ∧ c ≤ 122) : sg lets c = true := by
  have : ∀ d : Nat, d < 26 → sg lets (97 + d) = true := by decide +kernel
  have z := this (c - 97) (by omega)
  rw [show 97 + (c - 97) = c by omega] at z
  exact z
theorem lets_at {s : Str} {n : Nat} (h : s.cps.toList = (List.range n).map (97 + ·)) {k : Int} (h0 : 0 ≤ k) (h1 : k < n) : atI s.cps.toList k = some (97 + k.toNat) := by
  have hk : k.toNat < n := by omega
  have z : s.cps.toList[k.toNat]? = some (97 + k.toNat) := by rw [h, List.getElem?_map, List.getElem?_range hk]; rfl
  have q := atI_nat z
  rw [show ((k.toNat : Nat) : Int) = k by omega] at q
  exact q
theorem abc26 : (Str.ofString "abcdefghijklmnopqrstuvwxyz").cps.toList = (List.range 26).map (97 + ·) := by decide +kernel
/-- the words of a domain -/
def wds (c : Int) (n : Nat) : List Str := (List.range n).map fun j : Nat => wd c (j : Int)
abbrev SI := Str × Int
def tp (p : SI) : List V := [.str p.1, .int p.2]
def say (i : Int) : SI := (Str.ofString "say", i)
def clash : SI := (Str.ofString "clash", 0)
def non_ : SI := (Str.ofString "none", 0)
def least (ns : List Int) : Int := ns.foldl (fun m c => if c < m then c else m) (ns.headD 0)
def great (ns : List Int) : Int := ns.foldl (fun m c => if c > m then c else m) (ns.headD 0)
def fLow (ns : List Int) : SI := say (least ns)
def fHigh (ns : List Int) : SI := say (great ns)
def fLike (ns : List Int) : SI := if least ns = great ns then say (least ns) else clash
def ver (f : List Int → SI) : List Int → SI
  | [] => non_
  | n :: ns => f (n :: ns)
def Wy (C : Addr) (H : Hp) (x : Addr) : Prop := ∃ dx z, H x = some (.ins C dx [("called", .str z)])
def fFirst (ns : List Int) : SI := say (ns.headD 0)
def fOnly (ns : List Int) : SI := if ns.length = 1 then say (ns.headD 0) else clash
def near (lo hi n : Int) : Int := if n < lo then lo else if n > hi then hi else n
/-- what the way at a place makes of codes -/
def wf : Nat → Int → Int → List Int → SI
  | 0, _, _ => fFirst
  | 1, _, _ => fOnly
  | 2, _, _ => fLike
  | 3, _, _ => fLow
  | 4, _, _ => fHigh
  | _, lo, hi => fun ns => say (near lo hi ns.sum)
def spCh (K : PySem.W.Frag) (C cN cW : Addr) (i : Nat) : Sp := fun vs H Q _ => ∃ (x c o : Addr) (n : Int) (ns : List Int) (b : Int × Int), vs = [.ref x, .ref c, .ref o] ∧ Wy C H x ∧ Dom cN cW H o b ∧ b.1 ≤ b.2 ∧ SqL K H c ((n :: ns).map V.int) ∧ ns.length < 900 ∧ ∀ (r : Addr) (H' : Hp), Same H H' → SqT K H' r (tp (wf i b.1 b.2 (n :: ns))) → Q (.ref r) H'
def spVe (K : PySem.W.Frag) (C cN cW : Addr) (i : Nat) : Sp := fun vs H Q _ => ∃ (x c o : Addr) (ns : List Int) (b : Int × Int), vs = [.ref x, .ref c, .ref o] ∧ Wy C H x ∧ Dom cN cW H o b ∧ b.1 ≤ b.2 ∧ SqL K H c (ns.map V.int) ∧ ns.length < 900 ∧ ∀ (r : Addr) (H' : Hp), Same H H' → SqT K H' r (tp (ver (wf i b.1 b.2) ns)) → Q (.ref r) H'
/-! masks -/
def msk (f : Nat → Bool) : Nat → Nat
  | 0 => 0
  | n + 1 => (if f n then 2 ^ n else 0) + msk f n
def bitOn (m : Int) (k : Nat) : Bool := Builtin.bitAnd (m / 2 ^ k) 1 != 0
/-- the codes of some rows ahead of n -/
def pkF (rws : List Rw) (f : Nat → Bool) (n : Nat) : List Int := ((List.range n).filter f).map fun k => (rws.getD k ([], 0)).2
/-- a table: its rows, its way, its outcome -/
def Tbl (cT cN cW : Addr) (H : Hp) (t : Addr) (rws : List Rw) (i : Nat) (o : Int × Int) : Prop := ∃ (rl ou dx : Addr) (fs : List (Str × V)) (xs : List V) (wy : Str), H t = some (.ins cT dx fs) ∧ fs.lookup (Str.ofString "rows") = some (.ref rl) ∧ fs.lookup (Str.ofString "way") = some (.str wy) ∧ fs.lookup (Str.ofString "outcome") = some (.ref ou) ∧ H rl = some (.lst xs) ∧ RL NT H xs rws ∧ six[i]? = some wy ∧ Dom cN cW H ou o ∧ o.1 ≤ o.2 ∧ xs.length ≤ 200
def fitF (rws : List Rw) (cs : List Int) (k : Nat) : Bool := rfit (rws.getD k ([], 0)).1 cs
/-- the codes of the rows that fit -/
def fl (rws : List Rw) (cs : List Int) : List Int := (rws.filter fun w => rfit w.1 cs).map (·.2)
/-- the places of the law's ways among the six -/
def ord : List Nat := [3, 4, 2, 1, 0, 5]
def w6 : List Str := [Str.ofString "low", Str.ofString "high", Str.ofString "like", Str.ofString "only", Str.ofString "first", Str.ofString "sum"]
def dueL (lo hi : Int) (ns : List Int) : List SI := ord.map fun i => ver (wf i lo hi) ns
/-- tuples of verdicts -/
def DL (H : Hp) (xs : List V) (ps : List SI) : Prop := RefL xs ps fun r p => H r = some (.tup (tp p))
/-- what else a table has -/
def TblX (cT : Addr) (H : Hp) (t : Addr) (nm wy : Str) (ou : Addr) (zs : List Str) (dv : List V) : Prop := ∃ (dx na dl : Addr) (fs : List (Str × V)), H t = some (.ins cT dx fs) ∧ fs.lookup (Str.ofString "name") = some (.str nm) ∧ fs.lookup (Str.ofString "way") = some (.str wy) ∧ fs.lookup (Str.ofString "outcome") = some (.ref ou) ∧ fs.lookup (Str.ofString "names") = some (.ref na) ∧ fs.lookup (Str.ofString "domains") = some (.ref dl) ∧ H na = some (.lst (zs.map V.str)) ∧ H dl = some (.lst dv)
/-! columns of pairs -/
structure Col where
  prs : Prs
  w : Bool
  sd : Int
def ColN (N : Addr → Prop) (H : Hp) (l : Addr) (c : Col) : Prop := ∃ (pl : Addr) (ts : List V), N l ∧ N pl ∧ H l = some (.lst [.ref pl, .bl c.w, .int c.sd]) ∧ H pl = some (.lst ts) ∧ PL H ts c.prs
def ColsN (N : Addr → Prop) (H : Hp) (xs : List V) (cs : List Col) : Prop := RefL xs cs (ColN N H)
/-- pairs that follow on one another, up to at -/
structure Ch (ps : Prs) : Prop where
  le : ∀ (i : Nat) (p : Int × Int), ps[i]? = some p → p.1 ≤ p.2
  nxt : ∀ (i : Nat) (p q : Int × Int), ps[i]? = some p → ps[i + 1]? = some q → q.1 = p.2 + 1
structure ColOk (c : Col) : Prop where
  some_ : 1 ≤ c.prs.length
  few : c.prs.length ≤ 6
  ch : Ch c.prs
  w0 : c.w = true → ∀ p, c.prs[0]? = some p → p.1 = 0
  wl : c.w = true → ∀ (i : Nat) (p : Int × Int), c.prs[i]? = some p → p.2 < 40
def Col.lo (c : Col) : Int := (c.prs.headD (0, 0)).1
def Col.hi (c : Col) : Int := (c.prs.getLastD (0, 0)).2
def Col.b (c : Col) : Int × Int := (c.lo, c.hi)
/-- spans in order -/
structure Srt (ps : Prs) : Prop where
  le : ∀ (i : Nat) (p : Int × Int), ps[i]? = some p → p.1 ≤ p.2
  lt : ∀ (i j : Nat) (p q : Int × Int), i < j → ps[i]? = some p → ps[j]? = some q → p.2 < q.1
/-- spans that hold just the pairs at b's bits, ahead of n -/
structure SpOk (prs : Prs) (b n : Nat) (ps : Prs) : Prop where
  srt : Srt ps
  iff : ∀ x : Int, inP ps x = true ↔ ∃ (k : Nat) (p : Int × Int), k < n ∧ prs[k]? = some p ∧ b.testBit k = true ∧ p.1 ≤ x ∧ x ≤ p.2
/-- the spans of bits, as they are made -/
def mrg (prs : Prs) (b : Nat) : Nat → Prs
  | 0 => []
  | n + 1 => if b.testBit n then (if (decide (0 < n) && b.testBit (n - 1)) then (mrg prs b n).dropLast ++ [(((mrg prs b n).getLastD (0, 0)).1, (prs.getD n (0, 0)).2)] else mrg prs b n ++ [prs.getD n (0, 0)]) else mrg prs b n
abbrev BW := List Nat × Int
def vN (bs : List Nat) : List V := bs.map fun b : Nat => V.int (b : Int)
theorem vN_len (bs : List Nat) : (vN bs).length = bs.length := by unfold vN; rw [List.length_map]
theorem vN_at {bs : List Nat} {j b : Nat} (e : bs[j]? = some b) : (vN bs)[j]? = some (.int (b : Int)) := by unfold vN; rw [List.getElem?_map, e]; rfl
theorem vN_of {bs : List Nat} {j : Nat} {x : V} (e : (vN bs)[j]? = some x) : ∃ b : Nat, x = .int (b : Int) ∧ bs[j]? = some b := by
  unfold vN at e
  rw [List.getElem?_map] at e
  cases q : bs[j]? with
  | none => rw [q] at e; cases e
  | some b => rw [q] at e; cases e; exact ⟨b, rfl, rfl⟩
def BRowA (N : Addr → Prop) (H : Hp) (r : Addr) (w : BW) : Prop := ∃ bl, H r = some (.tup [.ref bl, .int w.2]) ∧ N bl ∧ H bl = some (.lst (vN w.1))
def BRL (N : Addr → Prop) (H : Hp) (xs : List V) (ws : List BW) : Prop := RefL xs ws (BRowA N H)
structure BitOk (cs : List Col) (o : Col) (w : BW) : Prop where
  len : w.1.length = cs.length
  lt : ∀ (j b : Nat) (c : Col), w.1[j]? = some b → cs[j]? = some c → b < 2 ^ c.prs.length
  lo : o.lo ≤ w.2
  hi : w.2 ≤ o.hi
/-- a row of spans that holds what a row of bits says -/
structure RwOf (cs : List Col) (w : BW) (x : Rw) : Prop where
  code : x.2 = w.2
  len : x.1.length = cs.length
  sp : ∀ (j : Nat) (ps : Prs) (c : Col) (b : Nat), x.1[j]? = some ps → cs[j]? = some c → w.1[j]? = some b → SpOk c.prs b c.prs.length ps
  is : ∀ (j : Nat) (ps : Prs) (c : Col) (b : Nat), x.1[j]? = some ps → cs[j]? = some c → w.1[j]? = some b → ps = mrg c.prs b c.prs.length
def RwsOf (cs : List Col) (ws : List BW) (rws : List Rw) : Prop := rws.length = ws.length ∧ ∀ (k : Nat) (w : BW) (x : Rw), ws[k]? = some w → rws[k]? = some x → RwOf cs w x
/-! points of the grid -/
def grow (pts : List (List Nat)) (n : Nat) : List (List Nat) := pts.flatMap fun p => (List.range n).map fun k => p ++ [k]
def prodP (ls : List Nat) : List (List Nat) := ls.foldl grow [[]]
/-- a point lies in the grid -/
def PtOk (ls : List Nat) (p : List Nat) : Prop := p.length = ls.length ∧ ∀ (j a m : Nat), p[j]? = some a → ls[j]? = some m → a < m
def PtL (N : Addr → Prop) (H : Hp) (xs : List V) (pts : List (List Nat)) : Prop := RefL xs pts fun r p => N r ∧ H r = some (.lst (vN p))
def lens (cs : List Col) : List Nat := cs.map fun c => c.prs.length
/-- codes that lie at the ends of the pairs of a point -/
def AtP (cs : List Col) (p : List Nat) (cd : List Int) : Prop := cd.length = cs.length ∧ ∀ (j : Nat) (x : Int) (c : Col) (a : Nat), cd[j]? = some x → cs[j]? = some c → p[j]? = some a → ∃ pr, c.prs[a]? = some pr ∧ (x = pr.1 ∨ x = pr.2)
def bfit (bs p : List Nat) : Bool := (List.range p.length).all fun j => (bs.getD j 0).testBit (p.getD j 0)
def bF (ws : List BW) (p : List Nat) (k : Nat) : Bool := bfit (ws.getD k ([], 0)).1 p
def cnt (ws : List BW) (p : List Nat) : List Nat := (List.range ws.length).filter (bF ws p)
/-- a domain of a column, whole -/
def DomX (cN cW : Addr) (H : Hp) (a : Addr) (c : Col) : Prop := (c.w = false ∧ ∃ dx fs, H a = some (.ins cN dx fs) ∧ fs.lookup (Str.ofString "low") = some (.int c.lo) ∧ fs.lookup (Str.ofString "high") = some (.int c.hi) ∧ fs.lookup (Str.ofString "has_code") = none) ∨
  (c.w = true ∧ ∃ dx fs l, H a = some (.ins cW dx fs) ∧ fs.lookup (Str.ofString "low") = some (.int c.lo) ∧ fs.lookup (Str.ofString "high") = some (.int c.hi) ∧ fs.lookup (Str.ofString "has_code") = none ∧ fs.lookup (Str.ofString "words") = some (.ref l) ∧ H l = some (.lst ((wds c.sd (c.hi + 1).toNat).map V.str)))
/-- a list in another order -/
def prm {α : Type} (os : List Nat) (xs : List α) : List α := os.filterMap (xs[·]?)
/-- an order of n places -/
structure Pm (os : List Nat) (n : Nat) : Prop where
  len : os.length = n
  lt : ∀ k ∈ os, k < n
  nd : os.Nodup
  all : ∀ k, k < n → k ∈ os
theorem prm_cons {α : Type} {o : Nat} {os : List Nat} {xs : List α} (h : o < xs.length) : prm (o :: os) xs = xs[o] :: prm os xs := by
  unfold prm
  rw [List.filterMap_cons, List.getElem?_eq_getElem h]
theorem prm_get {α : Type} : ∀ {os : List Nat} {xs : List α}, (∀ k ∈ os, k < xs.length) → (prm os xs).length = os.length ∧ ∀ (j k : Nat), os[j]? = some k → (prm os xs)[j]? = xs[k]?
  | [], xs, _ => ⟨rfl, fun j k e => by simp at e⟩
  | o :: os, xs, h => by
    obtain ⟨h1, h2⟩ := prm_get (os := os) (xs := xs) fun k hk => h k (List.mem_cons_of_mem _ hk)
    have ho := h o List.mem_cons_self
    rw [prm_cons ho]
    refine ⟨by rw [List.length_cons, List.length_cons, h1], fun j k f => ?_⟩
    match j, f with
    | 0, f =>
      have : o = k := by simpa using f
      subst this
      rw [List.getElem?_eq_getElem ho]; rfl
    | j + 1, f => exact h2 j k (by simpa using f)
theorem prm_snoc {α : Type} {os : List Nat} {k : Nat} {xs : List α} {x : α} (e : xs[k]? = some x) : prm (os ++ [k]) xs = prm os xs ++ [x] := by
  unfold prm
  rw [List.filterMap_append]
  simp [e]
theorem prm_map {α β : Type} (f : α → β) (os : List Nat) (xs : List α) : prm os (xs.map f) = (prm os xs).map f := by
  unfold prm
  rw [List.map_filterMap]
  congr 1
  funext k
  rw [List.getElem?_map]
theorem mem_prm {α : Type} {os : List Nat} {xs : List α} {x : α} (h : x ∈ prm os xs) : x ∈ xs := by
  unfold prm at h
  obtain ⟨k, _, e⟩ := List.mem_filterMap.mp h
  exact List.mem_of_getElem? e
theorem nd_ix {α : Type} {xs : List α} (h : xs.Nodup) {i j : Nat} {x : α} (e : xs[i]? = some x) (f : xs[j]? = some x) : i = j := by
  obtain ⟨hi, ei⟩ := List.getElem?_eq_some_iff.mp e
  obtain ⟨hj, ej⟩ := List.getElem?_eq_some_iff.mp f
  have p := List.pairwise_iff_getElem.mp (List.nodup_iff_pairwise_ne.mp h)
  rcases Nat.lt_trichotomy i j with q | q | q
  · exact absurd (ei.trans ej.symm) (p i j hi hj q)
  · exact q
  · exact absurd (ej.trans ei.symm) (p j i hj hi q)
theorem prm_nodup {α : Type} {os : List Nat} {xs : List α} (ho : os.Nodup) (hx : xs.Nodup) (hl : ∀ k ∈ os, k < xs.length) : (prm os xs).Nodup := by
  induction os with
  | nil => exact List.nodup_nil
  | cons o os ih =>
    rw [List.nodup_cons] at ho
    have hi := ih ho.2 fun k hk => hl k (List.mem_cons_of_mem _ hk)
    have h0 := hl o List.mem_cons_self
    rw [prm_cons h0, List.nodup_cons]
    refine ⟨fun hm => ?_, hi⟩
    unfold prm at hm
    obtain ⟨k, hk, f⟩ := List.mem_filterMap.mp hm
    have : k = o := nd_ix hx f (List.getElem?_eq_getElem h0)
    subst this
    exact ho.1 hk
/-- a table whole -/
def TF (cT : Addr) (H : Hp) (t : Addr) (nm wy : Str) (ou : Addr) (zs : List Str) (dv : List V) (rws : List Rw) : Prop := ∃ (rl dx na dl : Addr) (fs : List (Str × V)) (xs : List V), H t = some (.ins cT dx fs) ∧ fs.lookup (Str.ofString "rows") = some (.ref rl) ∧ fs.lookup (Str.ofString "name") = some (.str nm) ∧ fs.lookup (Str.ofString "way") = some (.str wy) ∧ fs.lookup (Str.ofString "outcome") = some (.ref ou) ∧ fs.lookup (Str.ofString "names") = some (.ref na) ∧ fs.lookup (Str.ofString "domains") = some (.ref dl) ∧ H na = some (.lst (zs.map V.str)) ∧ H dl = some (.lst dv) ∧ H rl = some (.lst xs) ∧ RL NT H xs rws ∧ xs.length ≤ 200
theorem TF.same {cT : Addr} {H H' : Hp} {t : Addr} {nm wy : Str} {ou : Addr} {zs : List Str} {dv : List V} {rws : List Rw} (h : TF cT H t nm wy ou zs dv rws) (s : Same H H') : TF cT H' t nm wy ou zs dv rws :=
  let ⟨rl, dx, na, dl, fs, xs, h1, h2, h3, h4, h5, h6, h7, h8, h9, h10, h11, r⟩ := h
  ⟨rl, dx, na, dl, fs, xs, s _ _ h1, h2, h3, h4, h5, h6, h7, s _ _ h8, s _ _ h9, s _ _ h10, h11.same s, r⟩
def trn (os : List Nat) (x : Rw) : Rw := (prm os x.1, x.2)
/-- what a table is made of -/
structure TOk (cN cW : Addr) (H : Hp) (nm wy : Str) (ou : Addr) (zs : List Str) (dv : List V) (rws : List Rw) (bs : Prs) (o : Int × Int) : Prop where
  words : ∀ z ∈ nm :: zs, isw z = true
  once : (nm :: zs).Nodup
  one : 1 ≤ zs.length
  four : zs.length ≤ 4
  way : wy ∈ six
  sum : wy = Str.ofString "sum" → ∃ dx fs, H ou = some (.ins cN dx fs)
  doms : RefL dv bs (Dom cN cW H)
  out : Dom cN cW H ou o
  len : bs.length = zs.length
  rows : ∀ w ∈ rws, RowOk bs o w
  few : rws.length ≤ 200
theorem hide_upd {H : Hp} {D : Addr} {o : HO} : hide (upd H D o) D = hide H D := by
  funext b
  unfold hide
  by_cases h : b = D
  · rw [if_pos h, if_pos h]
  · rw [if_neg h, if_neg h, upd_ne h]
theorem hide_mono {H H' : Hp} {D : Addr} (s : Same H H') : Same (hide H D) (hide H' D) := fun b o e => by
  unfold hide at e ⊢
  by_cases h : b = D
  · rw [if_pos h] at e; cases e
  · rw [if_neg h] at e ⊢; exact s b o e
theorem hide_le (H : Hp) (D : Addr) : Same (hide H D) H := fun b o e => by
  unfold hide at e
  by_cases h : b = D
  · rw [if_pos h] at e; cases e
  · rw [if_neg h] at e; exact e
def pc (ws : List BW) (p : List Nat) : List Int := (ws.filter fun w => bfit w.1 p).map (·.2)
def WrdD (C : Addr) (H : Hp) (a : Addr) (zs : List Str) : Prop := ∃ dx l, H a = some (.ins C dx [("low", .int 0), ("high", .int (hiW zs)), ("words", .ref l)]) ∧ H l = some (.lst (zs.map V.str))
def NumD (C : Addr) (H : Hp) (a : Addr) (lo hi : Int) : Prop := ∃ dx, H a = some (.ins C dx [("low", .int lo), ("high", .int hi)])
theorem WrdD.same {C : Addr} {H H' : Hp} {a : Addr} {zs : List Str} (h : WrdD C H a zs) (s : Same H H') : WrdD C H' a zs := let ⟨dx, l, e, f⟩ := h; ⟨dx, l, s _ _ e, s _ _ f⟩
theorem NumD.same {C : Addr} {H H' : Hp} {a : Addr} {lo hi : Int} (h : NumD C H a lo hi) (s : Same H H') : NumD C H' a lo hi := let ⟨dx, e⟩ := h; ⟨dx, s _ _ e⟩
def bnd (i : Int) : Prop := i.natAbs < 10 ^ 60
/-- the text of a code -/
def Shown (cN cW : Addr) (H : Hp) (d : Addr) (c : Int) (z : Str) : Prop :=
  (∃ lo hi, NumD cN H d lo hi ∧ lo ≤ c ∧ c ≤ hi ∧ bnd c ∧ z = toString c) ∨ ∃ zs, WrdD cW H d zs ∧ 0 ≤ c ∧ zs[c.toNat]? = some z
theorem isw_of {l : List Nat} (h1 : 1 ≤ l.length) (h2 : l.length ≤ 12) (h3 : ∀ x ∈ l, 97 ≤ x ∧ x ≤ 122) (h4 : l ≠ [110, 111, 116]) : isw ⟨l.toArray⟩ = true := by
  have ha : allIn ⟨l.toArray⟩ lets = true := by
    unfold allIn
    rw [List.all_eq_true]
    intro x hx
    exact sg_let (h3 x (by simpa using hx))
  have hn : ¬ (V.str ⟨l.toArray⟩ = V.str (Str.ofString "not")) := fun h => by
    injection h with h
    have e : Str.ofString "not" = ⟨[110, 111, 116].toArray⟩ := by decide +kernel
    rw [e] at h
    injection h with h
    exact h4 (by simpa using congrArg Array.toList h)
  have hl : (⟨l.toArray⟩ : Str).length = l.length := by simp [Str.length]
  unfold isw
  rw [ha, decide_eq_true (show (1 : Int) ≤ (((⟨l.toArray⟩ : Str).length : Nat) : Int) by omega), decide_eq_true (show (((⟨l.toArray⟩ : Str).length : Nat) : Int) ≤ 12 by omega)]
  show (true && (true && (!decide (V.str ⟨l.toArray⟩ = V.str (Str.ofString "not")) && true))) = true
  rw [decide_eq_false hn]; rfl
def pz (t : Int) : List Nat := [122, 117, 118].take t.toNat
def l2w (c k : Int) : List Nat := [97 + (k % 8).toNat, 97 + ((k / 8 + c / 80) % 8).toNat]
def w92 (c k : Int) : Str := ⟨(pz (c / 80 % 4) ++ l2w c k).toArray⟩
def ws92 (c : Int) (n : Nat) : List Str := (List.range n).map fun j : Nat => w92 c (0 + (j : Int))
theorem log_sm {i : Int} (h : bnd i) : i.natAbs.log2 < 1920 := by
  by_cases hz : i.natAbs = 0
  · rw [hz]; decide
  · refine (Nat.log2_lt hz).mpr ?_
    have k : (10 ^ 60 : Nat) ≤ 2 ^ 200 := by decide
    have k2 : (2 : Nat) ^ 200 ≤ 2 ^ 1920 := Nat.pow_le_pow_right (by decide) (by decide)
    unfold bnd at h
    exact Nat.lt_of_lt_of_le h (Nat.le_trans k k2)
theorem len_num {i : Int} (h : bnd i) : (Str.ofString (toString i)).length ≤ 61 := by
  have e : (Str.ofString (toString i)).length = (toString i).length := by
    rw [Str.ofString_eq_toList]
    show (List.map Char.toNat (toString i).toList).toArray.size = _
    rw [List.size_toArray, List.length_map]
    exact String.length_toList
  rw [e]
  exact int_text_length_le10 (by decide) h
theorem bnd40 {k : Int} (h0 : 0 ≤ k) (h1 : k < 40) : bnd k := by
  unfold bnd
  have e : (40 : Nat) ≤ 10 ^ 60 := by decide
  generalize (10 ^ 60 : Nat) = W at e ⊢
  omega
/-- a domain as it stands in the law: its words or none, its ends -/
abbrev Dk := Option (List Str) × Int × Int
def DomD (cN cW : Addr) (H : Hp) (d : Addr) (k : Dk) : Prop := match k.1 with
  | none => NumD cN H d k.2.1 k.2.2
  | some zs => WrdD cW H d zs ∧ k.2.1 = 0 ∧ k.2.2 = hiW zs ∧ Good zs
theorem DomD.same {cN cW : Addr} {H H' : Hp} {d : Addr} {k : Dk} (h : DomD cN cW H d k) (s : Same H H') : DomD cN cW H' d k := by
  obtain ⟨w, lo, hi⟩ := k
  cases w with
  | none => exact NumD.same h s
  | some zs => exact ⟨h.1.same s, h.2⟩
def cutS (zs : List Str) (lo hi : Option Int) : List Str := (zs.drop (HT.sIx zs.length 0 lo)).take (HT.sIx zs.length zs.length hi - HT.sIx zs.length 0 lo)
theorem cutS_map (zs : List Str) (lo hi : Option Int) : cutV (zs.map V.str) lo hi = (cutS zs lo hi).map V.str := by
  unfold cutV cutS
  rw [List.length_map, List.map_take, List.map_drop]
theorem cutS_len (zs : List Str) (lo hi : Option Int) : (cutS zs lo hi).length ≤ zs.length := by
  unfold cutS
  rw [List.length_take, List.length_drop]; omega
theorem cutS_mem {zs : List Str} {lo hi : Option Int} {z : Str} (h : z ∈ cutS zs lo hi) : z ∈ zs := List.mem_of_mem_drop (List.mem_of_mem_take h)
/-- how a pair of a domain is shown -/
def shT (k : Dk) (p : Pr) : Str :=
  if p = k.2 then Str.ofString "-" else match k.1 with
  | some zs => Txt.join (Str.ofString ", ") (cutS zs (some p.1) (some (p.2 + 1)))
  | none => if p.1 = p.2 then Str.ofString (toString p.1) else if p.1 = k.2.1 then Str.ofString ".." ++ Str.ofString (toString p.2) else if p.2 = k.2.2 then Str.ofString (toString p.1) ++ Str.ofString ".." else Str.ofString (toString p.1) ++ Str.ofString ".." ++ Str.ofString (toString p.2)
structure PrOk (k : Dk) (p : Pr) : Prop where
  lo : k.2.1 ≤ p.1
  le : p.1 ≤ p.2
  hi : p.2 ≤ k.2.2
  b1 : bnd p.1
  b2 : bnd p.2
def GdK (k : Dk) : Prop := match k.1 with
  | none => True
  | some zs => Good zs
def WvOk (H : Hp) (wv : V) (k : Dk) : Prop := match k.1 with
  | none => wv = .non
  | some zs => ∃ l, wv = .ref l ∧ H l = some (.lst (zs.map V.str)) ∧ Good zs
/-- as DomD; the list of its words is N -/
def DomN (N : Addr → Prop) (cN cW : Addr) (H : Hp) (d : Addr) (k : Dk) : Prop := match k.1 with
  | none => NumD cN H d k.2.1 k.2.2
  | some zs => (∃ dx l, N l ∧ H d = some (.ins cW dx [("low", .int 0), ("high", .int (hiW zs)), ("words", .ref l)]) ∧ H l = some (.lst (zs.map V.str))) ∧ k.2.1 = 0 ∧ k.2.2 = hiW zs ∧ Good zs
theorem DomN.dom {N : Addr → Prop} {cN cW : Addr} {H : Hp} {d : Addr} {k : Dk} (h : DomN N cN cW H d k) : DomD cN cW H d k := by
  obtain ⟨w, lo, hi⟩ := k
  cases w with
  | none => exact h
  | some zs => obtain ⟨⟨dx, l, _, e, f⟩, r⟩ := h; exact ⟨⟨dx, l, e, f⟩, r⟩
theorem DomN.same {N : Addr → Prop} {cN cW : Addr} {H H' : Hp} {d : Addr} {k : Dk} (h : DomN N cN cW H d k) (s : Same H H') : DomN N cN cW H' d k := by
  obtain ⟨w, lo, hi⟩ := k
  cases w with
  | none => exact NumD.same h s
  | some zs => obtain ⟨⟨dx, l, n, e, f⟩, r⟩ := h; exact ⟨⟨dx, l, n, s _ _ e, s _ _ f⟩, r⟩
theorem DomN.upd {N : Addr → Prop} {cN cW : Addr} {H : Hp} {d D : Addr} {k : Dk} {o : HO} {zs : List V} (h : DomN N cN cW H d k) (n : ¬ N D) (e : H D = some (.lst zs)) : DomN N cN cW (upd H D o) d k := by
  obtain ⟨w, lo, hi⟩ := k
  cases w with
  | none =>
    obtain ⟨dx, f⟩ := h
    exact ⟨dx, (upd_ne (ne_of f e (by intro z; cases z))).trans f⟩
  | some ws =>
    obtain ⟨⟨dx, l, m, f, g⟩, r⟩ := h
    exact ⟨⟨dx, l, m, (upd_ne (ne_of f e (by intro z; cases z))).trans f, (upd_ne (fun (z : l = D) => n (by rw [← z]; exact m))).trans g⟩, r⟩
def WvN (N : Addr → Prop) (H : Hp) (wv : V) (k : Dk) : Prop := match k.1 with
  | none => wv = .non
  | some zs => ∃ l, N l ∧ wv = .ref l ∧ H l = some (.lst (zs.map V.str)) ∧ Good zs
theorem isw_len {z : Str} (h : isw z = true) : z.length ≤ 12 := by
  unfold isw at h
  simp only [Bool.and_eq_true, decide_eq_true_eq] at h
  omega
theorem sum_le {zs : List Str} {m : Nat} (h : ∀ z ∈ zs, z.length ≤ m) : (zs.map (·.length)).sum ≤ zs.length * m := by
  induction zs with
  | nil => simp
  | cons z zs ih =>
    have h1 := h z (by simp)
    have h2 := ih fun y hy => h y (List.mem_cons_of_mem _ hy)
    rw [List.map_cons, List.sum_cons, List.length_cons, Nat.succ_mul]
    omega
theorem join_ok {zs : List Str} {m n : Nat} (h : ∀ z ∈ zs, z.length ≤ m) (hl : zs.length ≤ n) (hm : n * m + n * 64 ≤ 16777216) : (zs.map (·.length)).sum + zs.length * 64 ≤ 16777216 := by
  have h1 := sum_le h
  have h2 : zs.length * m ≤ n * m := Nat.mul_le_mul_right m hl
  have h3 : zs.length * 64 ≤ n * 64 := Nat.mul_le_mul_right 64 hl
  omega
def pairEq (p q : Pr) : Bool := eqV (.int p.1) (.int q.1) && eqV (.int p.2) (.int q.2)
theorem pairEq_dec (p q : Pr) : pairEq p q = decide (p = q) := by
  obtain ⟨a, b⟩ := p
  obtain ⟨c, d⟩ := q
  unfold pairEq eqV
  by_cases h1 : a = c
  · by_cases h2 : b = d
    · subst h1 h2; simp
    · simp [h1, h2]
  · simp [h1]
theorem eqL_pair {K : PySem.W.Frag} {H : Hp} {Q : VK} {a b t u : Addr} {p q : Pr} (ha : SqL K H a [.ref t]) (hb : SqL K H b [.ref u]) (ht : H t = some (.tup [.int p.1, .int p.2])) (hu : H u = some (.tup [.int q.1, .int q.2])) (h : Q (.bl (decide (p = q))) H) : rEqL K false (.ref a) (.ref b) H Q := by
  refine ⟨a, b, _, _, rfl, rfl, ha, hb, .inr ⟨rfl, fun _ => pairEq p q, fun j x y e1 e2 => ?_, ?_⟩⟩
  · match j, e1, e2 with
    | 0, e1, e2 =>
      cases e1; cases e2
      have := EqI.tup (K := K) (SqT.of ht) (SqT.of hu) rfl rfl
      have e : (decide (([V.int p.1, .int p.2] : List V).length = ([V.int q.1, .int q.2] : List V).length) && (List.zipWith eqV [V.int p.1, .int p.2] [V.int q.1, .int q.2]).all id) = pairEq p q := by
        unfold pairEq
        simp
      rw [e] at this
      exact this
    | j + 1, e1, e2 => simp at e1
  · show Q (.bl ((List.range 1).all fun _ => pairEq p q)) H
    have e : ((List.range 1).all fun _ => pairEq p q) = decide (p = q) := by rw [← pairEq_dec]; simp [List.range_succ]
    rw [e]
    exact h
def shN (lo hi : Int) (p : Pr) : Str := if p.1 = p.2 then Str.ofString (toString p.1) else if p.1 = lo then Str.ofString ".." ++ Str.ofString (toString p.2) else if p.2 = hi then Str.ofString (toString p.1) ++ Str.ofString ".." else Str.ofString (toString p.1) ++ Str.ofString ".." ++ Str.ofString (toString p.2)
theorem dots2 : (Str.ofString "..").length = 2 := by decide +kernel
theorem len_ap (a b : Str) : (a ++ b).length = a.length + b.length := by
  show (Str.append a b).length = _
  unfold Str.append Str.length
  simp
theorem shN_len {lo hi : Int} {p : Pr} (h1 : bnd p.1) (h2 : bnd p.2) : (shN lo hi p).length ≤ 200 := by
  have a := len_num h1
  have b := len_num h2
  unfold shN
  split
  · omega
  · split
    · rw [len_ap, dots2]; omega
    · split
      · rw [len_ap, dots2]; omega
      · rw [len_ap, len_ap, dots2]; omega
/-! words of the plan -/
def hcs (c : Int) : List Nat := (List.range (c % 6).toNat).map fun j : Nat => 97 + (c / (3 * (0 + (j : Int)) + 1) % 13).toNat
def tcs (c : Int) : List Nat := (List.range (c / 7 % 6).toNat).map fun j : Nat => 97 + (c / (5 * (0 + (j : Int)) + 2) % 13).toNat
def lwc (c k : Int) : List Nat := hcs c ++ ([97 + ((c / 11 + 3 * k) % 26).toNat] ++ tcs c)
def lw (c k : Int) : Str := ⟨(lwc c k).toArray⟩
def lws (c : Int) (n : Nat) : List Str := (List.range n).map fun j : Nat => lw c (0 + (j : Int))
theorem lws_succ (c : Int) (n : Nat) : lws c (n + 1) = lws c n ++ [lw c (0 + (n : Int))] := by unfold lws; rw [List.range_succ, List.map_append]; rfl
theorem lws_len (c : Int) (n : Nat) : (lws c n).length = n := by unfold lws; simp
theorem lwc_mem {c k : Int} {x : Nat} (h : x ∈ lwc c k) : (97 ≤ x ∧ x ≤ 109) ∨ x = 97 + ((c / 11 + 3 * k) % 26).toNat := by
  unfold lwc at h
  rcases List.mem_append.mp h with h | h
  · unfold hcs at h
    obtain ⟨j, _, rfl⟩ := List.mem_map.mp h
    have := Int.emod_lt_of_pos (c / (3 * (0 + (j : Int)) + 1)) (show (0 : Int) < 13 by decide)
    omega
  · rcases List.mem_append.mp h with h | h
    · exact .inr (by simpa using h)
    · unfold tcs at h
      obtain ⟨j, _, rfl⟩ := List.mem_map.mp h
      have := Int.emod_lt_of_pos (c / (5 * (0 + (j : Int)) + 2)) (show (0 : Int) < 13 by decide)
      omega
theorem hcs_len (c : Int) : (hcs c).length ≤ 5 := by
  unfold hcs
  rw [List.length_map, List.length_range]
  have := Int.emod_lt_of_pos c (show (0 : Int) < 6 by decide)
  omega
theorem tcs_len (c : Int) : (tcs c).length ≤ 5 := by
  unfold tcs
  rw [List.length_map, List.length_range]
  have := Int.emod_lt_of_pos (c / 7) (show (0 : Int) < 6 by decide)
  omega
theorem lw_isw (c k : Int) : isw (lw c k) = true := by
  have h1 := hcs_len c
  have h2 := tcs_len c
  have m1 := Int.emod_lt_of_pos (c / 11 + 3 * k) (show (0 : Int) < 26 by decide)
  refine isw_of (by unfold lwc; simp; omega) (by unfold lwc; simp; omega) (fun x hx => ?_) (fun h => ?_)
  · rcases lwc_mem hx with hx | hx <;> omega
  · have a : (110 : Nat) ∈ lwc c k := by rw [h]; simp
    have b : (111 : Nat) ∈ lwc c k := by rw [h]; simp
    rcases lwc_mem a with a | a
    · omega
    · rcases lwc_mem b with b | b <;> omega
theorem lw_inj {c k k' : Int} (h0 : 0 ≤ k) (h1 : k < 8) (h2 : 0 ≤ k') (h3 : k' < 8) (e : lw c k = lw c k') : k = k' := by
  unfold lw at e
  injection e with e
  have e : lwc c k = lwc c k' := by simpa using congrArg Array.toList e
  unfold lwc at e
  have e := List.append_cancel_left e
  injection e with e1 e2
  have := Int.emod_nonneg (c / 11 + 3 * k) (show (26 : Int) ≠ 0 by decide)
  have := Int.emod_nonneg (c / 11 + 3 * k') (show (26 : Int) ≠ 0 by decide)
  generalize c / 11 = d at *
  omega
theorem lws_nodup {c : Int} {n : Nat} (h : n ≤ 8) : (lws c n).Nodup := by
  unfold lws
  rw [List.nodup_iff_pairwise_ne, List.pairwise_map]
  refine List.Pairwise.imp_of_mem (R := fun a b => a ≠ b) (fun {a b} ha hb hab e => ?_) List.nodup_range
  have ha := List.mem_range.mp ha
  have hb := List.mem_range.mp hb
  have := lw_inj (by omega) (by omega) (by omega) (by omega) e
  omega
theorem lws_isw {c : Int} {n : Nat} {z : Str} (hz : z ∈ lws c n) : isw z = true := by
  unfold lws at hz
  obtain ⟨j, _, rfl⟩ := List.mem_map.mp hz
  exact lw_isw _ _
theorem lws_good {c : Int} {n : Nat} (h1 : 1 ≤ n) (h2 : n ≤ 8) : Good (lws c n) := ⟨by rw [lws_len]; exact h1, by rw [lws_len]; omega, fun z hz => lws_isw hz, lws_nodup h2⟩
/-- single letters joined -/
theorem join_chars : ∀ xs : List Nat, Txt.join (Str.ofString "") (xs.map fun x => (⟨#[x]⟩ : Str)) = ⟨xs.toArray⟩ := fun xs => by
  rw [show Txt.join (Str.ofString "") (xs.map fun x => (⟨#[x]⟩ : Str)) = (Str.ofString "").join (xs.map fun x => (⟨#[x]⟩ : Str)) from StrLaws.glued_eq_join _ _]
  have e0 : Str.ofString "" = Str.empty := by decide +kernel
  rw [e0]
  induction xs with
  | nil => rfl
  | cons x xs ih =>
    cases xs with
    | nil => rfl
    | cons y ys =>
      show (⟨#[x]⟩ : Str) ++ Str.empty ++ Str.join Str.empty ((y :: ys).map fun x => (⟨#[x]⟩ : Str)) = _
      rw [ih]
      show Str.append (Str.append _ _) _ = _
      unfold Str.append Str.empty
      simp
theorem chars_ok (xs : List Nat) (h : xs.length ≤ 5) : ((xs.map fun x => (⟨#[x]⟩ : Str)).map (·.length)).sum + (xs.map fun x => (⟨#[x]⟩ : Str)).length * 64 ≤ 16777216 :=
  join_ok (m := 1) (n := 5) (fun z hz => by obtain ⟨x, _, rfl⟩ := List.mem_map.mp hz; exact Nat.le_refl 1) (by rw [List.length_map]; exact h) (by decide)
/-! a domain of the plan -/
structure PD where
  lo : Int
  hi : Int
  ws : List Str
def PDA (N : Addr → Prop) (H : Hp) (r : Addr) (p : PD) : Prop := ∃ l : Addr, N r ∧ N l ∧ H r = some (.tup [.int p.lo, .int p.hi, .ref l]) ∧ H l = some (.lst (p.ws.map V.str))
theorem PDA.same {N : Addr → Prop} {H H' : Hp} {r : Addr} {p : PD} (h : PDA N H r p) (s : Same H H') : PDA N H' r p := let ⟨l, n, m, e, f⟩ := h; ⟨l, n, m, s _ _ e, s _ _ f⟩
theorem PDA.wk {N N' : Addr → Prop} {H : Hp} {r : Addr} {p : PD} (h : PDA N H r p) (w : ∀ x, N x → N' x) : PDA N' H r p := let ⟨l, n, m, e, f⟩ := h; ⟨l, w _ n, w _ m, e, f⟩
def PD.k (p : PD) : Dk := (if p.ws = [] then none else some p.ws, p.lo, p.hi)
structure PDok (p : PD) : Prop where
  le : p.lo ≤ p.hi
  wd : p.ws ≠ [] → Good p.ws ∧ p.lo = 0 ∧ p.hi = hiW p.ws
  bd : ∀ x : Int, p.lo ≤ x → x ≤ p.hi → bnd x
theorem p30 : (10 : Int) ^ (30 : Int).toNat = ((10 ^ 30 : Nat) : Int) := by decide
theorem p29 : (10 : Int) ^ (29 : Int).toNat = ((10 ^ 29 : Nat) : Int) := by decide
theorem bnd31 {x : Int} (h0 : -((10 ^ 31 : Nat) : Int) ≤ x) (h1 : x ≤ ((10 ^ 31 : Nat) : Int)) : bnd x := by
  unfold bnd
  have k : (10 ^ 31 : Nat) < 10 ^ 60 := by decide
  generalize (10 ^ 31 : Nat) = A at h0 h1 k
  generalize (10 ^ 60 : Nat) = W at k ⊢
  omega
theorem cdiv_small {i j : Int} (h : 0 < j) (h2 : j < 1000) : CDiv i j := ⟨h, by omega⟩
theorem pl1 {H : Hp} {t l : Addr} {a b : Int} (ht : H t = none) (hl : upd H t (.tup [.int a, .int b]) l = none) : Same H (upd (upd H t (.tup [.int a, .int b])) l (.lst [.ref t])) ∧ upd (upd H t (.tup [.int a, .int b])) l (.lst [.ref t]) l = some (.lst [.ref t]) ∧ PL (upd (upd H t (.tup [.int a, .int b])) l (.lst [.ref t])) [.ref t] [(a, b)] :=
  ⟨(same_new ht _).trans (same_new hl _), upd_same, .cons ⟨t, rfl, same_new hl _ _ _ upd_same⟩ .nil⟩
theorem pl2 {H : Hp} {t u l : Addr} {a b c d : Int} (ht : H t = none) (hu : upd H t (.tup [.int a, .int b]) u = none) (hl : upd (upd H t (.tup [.int a, .int b])) u (.tup [.int c, .int d]) l = none) : Same H (upd (upd (upd H t (.tup [.int a, .int b])) u (.tup [.int c, .int d])) l (.lst [.ref t, .ref u])) ∧ upd (upd (upd H t (.tup [.int a, .int b])) u (.tup [.int c, .int d])) l (.lst [.ref t, .ref u]) l = some (.lst [.ref t, .ref u]) ∧ PL (upd (upd (upd H t (.tup [.int a, .int b])) u (.tup [.int c, .int d])) l (.lst [.ref t, .ref u])) [.ref t, .ref u] [(a, b), (c, d)] :=
  ⟨((same_new ht _).trans (same_new hu _)).trans (same_new hl _), upd_same, .cons ⟨t, rfl, same_new hl _ _ _ (same_new hu _ _ _ upd_same)⟩ (.cons ⟨u, rfl, same_new hl _ _ _ upd_same⟩ .nil)⟩
def SPI (p : PD) (H H' : Hp) (pl : Addr) : Prop := Same H H' ∧ ∃ (ts : List V) (ps : Prs), H' pl = some (.lst ts) ∧ PL H' ts ps ∧ (∀ x ∈ ps, p.lo ≤ x.1 ∧ x.2 ≤ p.hi) ∧ ps.length ≤ 2
theorem SPI.one {p : PD} {H H1 H2 : Hp} {l t : Addr} {a b : Int} (s : Same H H1) (h : Same H1 H2 ∧ H2 l = some (.lst [.ref t]) ∧ PL H2 [.ref t] [(a, b)]) (h1 : p.lo ≤ a) (h2 : b ≤ p.hi) : SPI p H H2 l :=
  ⟨s.trans h.1, _, _, h.2.1, h.2.2, (fun x hx => by rw [show x = (a, b) by simpa using hx]; exact ⟨h1, h2⟩), by simp⟩
theorem SPI.two {p : PD} {H H1 H2 : Hp} {l t u : Addr} {a b c d : Int} (s : Same H H1) (h : Same H1 H2 ∧ H2 l = some (.lst [.ref t, .ref u]) ∧ PL H2 [.ref t, .ref u] [(a, b), (c, d)]) (h1 : p.lo ≤ a) (h2 : b ≤ p.hi) (h3 : p.lo ≤ c) (h4 : d ≤ p.hi) : SPI p H H2 l :=
  ⟨s.trans h.1, _, _, h.2.1, h.2.2, (fun x hx => by
    rcases List.mem_cons.mp hx with rfl | hx
    · exact ⟨h1, h2⟩
    · rw [show x = (c, d) by simpa using hx]; exact ⟨h3, h4⟩), by simp⟩
/-- a pool of numbers of a domain -/
def PoA (N : Addr → Prop) (H : Hp) (a : Addr) (p : PD) : Prop := N a ∧ ∃ xs : List Int, H a = some (.lst (xs.map V.int)) ∧ xs.length = 3 ∧ ∀ x ∈ xs, p.lo ≤ x ∧ x ≤ p.hi
theorem PoA.same {N : Addr → Prop} {H H' : Hp} {a : Addr} {p : PD} (h : PoA N H a p) (s : Same H H') : PoA N H' a p := let ⟨n, xs, e, r⟩ := h; ⟨n, xs, s _ _ e, r⟩
theorem PoA.pick {N : Addr → Prop} {H : Hp} {a : Addr} {p : PD} (h : PoA N H a p) {K : PySem.W.Frag} (m : Int) : ∃ xs x, SqL K H a xs ∧ atI xs (m % 3) = some (.int x) ∧ p.lo ≤ x ∧ x ≤ p.hi := by
  obtain ⟨_, xs, e, hl, hb⟩ := h
  have m0 := Int.emod_nonneg m (show (3 : Int) ≠ 0 by decide)
  have m1 := Int.emod_lt_of_pos m (show (0 : Int) < 3 by decide)
  obtain ⟨k, ek⟩ : ∃ k : Nat, m % 3 = (k : Int) := ⟨_, (Int.toNat_of_nonneg m0).symm⟩
  have hk : k < xs.length := by omega
  have ex := List.getElem?_eq_getElem hk
  refine ⟨_, xs[k], SqL.of e, ?_, hb _ (List.mem_of_getElem? ex)⟩
  rw [ek]
  exact atI_nat (by rw [List.getElem?_map, ex]; rfl)
structure RowFit (ds : List PD) (cols : List Nat) (ow : Nat) (w : Rw) : Prop where
  len : w.1.length = cols.length
  inn : ∀ (j k : Nat) (ps : Prs) (p : PD), w.1[j]? = some ps → cols[j]? = some k → ds[k]? = some p → ∀ x ∈ ps, p.lo ≤ x.1 ∧ x.1 ≤ x.2 ∧ x.2 ≤ p.hi
  few : ∀ ps ∈ w.1, ps.length ≤ 2
  code : ∀ p, ds[ow]? = some p → p.lo ≤ w.2 ∧ w.2 ≤ p.hi
theorem PDA.updN {N : Addr → Prop} {H : Hp} {r D : Addr} {p : PD} {zs : List V} {o : HO} (h : PDA N H r p) (n : ¬ N D) (e : H D = some (.lst zs)) : PDA N (upd H D o) r p :=
  let ⟨l, n1, n2, f, g⟩ := h
  ⟨l, n1, n2, (upd_ne (ne_of f e (by intro z; cases z))).trans f, (upd_ne (fun (z : l = D) => n (by rw [← z]; exact n2))).trans g⟩
theorem PoA.updN {N : Addr → Prop} {H : Hp} {r D : Addr} {p : PD} {o : HO} (h : PoA N H r p) (n : ¬ N D) : PoA N (upd H D o) r p :=
  let ⟨n1, xs, f, g⟩ := h
  ⟨n1, xs, (upd_ne (fun (z : r = D) => n (by rw [← z]; exact n1))).trans f, g⟩
theorem PoA.any {N : Addr → Prop} {H : Hp} {r : Addr} {p : PD} (h : PoA N H r p) : PoA NT H r p := ⟨trivial, h.2⟩
/-- the heap without the places of F -/
def hideL (H : Hp) (F : List Addr) : Hp := fun b => if b ∈ F then none else H b
theorem hideL_of {H : Hp} {F : List Addr} {b : Addr} {o : HO} (e : H b = some o) (n : b ∉ F) : hideL H F b = some o := by unfold hideL; rw [if_neg n]; exact e
theorem hideL_le (H : Hp) (F : List Addr) : Same (hideL H F) H := fun b o e => by
  unfold hideL at e
  by_cases h : b ∈ F
  · rw [if_pos h] at e; cases e
  · rw [if_neg h] at e; exact e
theorem hideL_mono {H H' : Hp} {F : List Addr} (s : Same H H') : Same (hideL H F) (hideL H' F) := fun b o e => by
  by_cases h : b ∈ F
  · unfold hideL at e; rw [if_pos h] at e; cases e
  · exact hideL_of (s b o (hideL_le H F b o e)) h
theorem hideL_upd {H : Hp} {F : List Addr} {D : Addr} {o : HO} (h : D ∈ F) : hideL (upd H D o) F = hideL H F := by
  funext b
  unfold hideL
  by_cases hb : b ∈ F
  · rw [if_pos hb, if_pos hb]
  · rw [if_neg hb, if_neg hb]
    exact upd_ne fun z => hb (by rw [z]; exact h)
theorem hideL_keep {H H' : Hp} {F : List Addr} (s : Same H H') (n : ∀ D ∈ F, H D = none) : Same H (hideL H' F) := fun b o e => hideL_of (s b o e) fun hb => by rw [n b hb] at e; cases e
theorem hideL_tups {H : Hp} {F : List Addr} (hF : ∀ D ∈ F, ∃ zs, H D = some (.lst zs)) : SameT H (hideL H F) := fun b t e => hideL_of e fun hb => by
  obtain ⟨zs, ez⟩ := hF b hb
  rw [ez] at e
  cases e
theorem RowA.hideL {H H2 : Hp} {F : List Addr} {r : Addr} {w : Rw} (h : RowA (fun a => H a = none) H2 r w) (hF : ∀ D ∈ F, ∃ zs, H D = some (.lst zs)) (s : Same H H2) : RowA NT (My.hideL H2 F) r w := by
  obtain ⟨ce, cs, e, n, f, c⟩ := h
  have hF2 : ∀ D ∈ F, ∃ zs, H2 D = some (.lst zs) := fun D hD => let ⟨zs, ez⟩ := hF D hD; ⟨zs, s _ _ ez⟩
  have out : ∀ x, H x = none → x ∉ F := fun x hx hm => by obtain ⟨zs, ez⟩ := hF x hm; rw [ez] at hx; cases hx
  refine ⟨ce, cs, hideL_tups hF2 _ _ e, trivial, hideL_of f (out _ n), RefL.mono c fun l ps h => ?_⟩
  obtain ⟨n1, ys, g, pl⟩ := h
  exact ⟨trivial, ys, hideL_of g (out _ n1), pl.mono (hideL_tups hF2)⟩
/-- a table of the plan, but for its rows -/
def TT (H : Hp) (r : Addr) (t : (List Nat × Str) × Addr) : Prop := ∃ cl : Addr, H r = some (.tup [.ref cl, .str t.1.2, .ref t.2]) ∧ H cl = some (.lst (vN t.1.1))
theorem TT.same {H H' : Hp} {r : Addr} {t : (List Nat × Str) × Addr} (h : TT H r t) (s : Same H H') : TT H' r t := let ⟨cl, e, f⟩ := h; ⟨cl, s _ _ e, s _ _ f⟩
structure TOk2 (fN : Nat) (ds : List PD) (j : Nat) (t : List Nat × Str) : Prop where
  some_ : 1 ≤ t.1.length
  few : t.1.length ≤ 3
  lt : ∀ k ∈ t.1, k < fN + j
  nd : t.1.Nodup
  way : t.2 ∈ six
  sum : t.2 = Str.ofString "sum" → ∀ p, ds[fN + j]? = some p → p.ws = []
def clm (c : Int) (ow : Nat) (m : Nat) : List Nat := (List.range m).map fun j : Nat => ((c / 3 + (0 + (j : Int))) % (ow : Int)).toNat
theorem clm_lt {c : Int} {ow m : Nat} (h : 1 ≤ ow) : ∀ k ∈ clm c ow m, k < ow := fun k hk => by
  unfold clm at hk
  obtain ⟨j, _, rfl⟩ := List.mem_map.mp hk
  have h1 := Int.emod_lt_of_pos (c / 3 + (0 + (j : Int))) (show (0 : Int) < (ow : Int) by omega)
  have h0 := Int.emod_nonneg (c / 3 + (0 + (j : Int))) (show (ow : Int) ≠ 0 by omega)
  omega
theorem emod_near {x i j n : Int} (h0 : 0 ≤ i) (h1 : i < n) (h2 : 0 ≤ j) (h3 : j < n) (e : (x + i) % n = (x + j) % n) : i = j := by
  have key : ∀ a b : Int, 0 ≤ a → a < n → 0 ≤ b → b < n → b ≤ a → (x + a) % n = (x + b) % n → a = b := fun a b a0 a1 b0 b1 hab e => by
    have h := Int.emod_eq_emod_iff_emod_sub_eq_zero.mp e
    rw [show x + a - (x + b) = a - b by omega, Int.emod_eq_of_lt (by omega) (by omega)] at h
    omega
  by_cases h : j ≤ i
  · exact key i j h0 h1 h2 h3 h e
  · exact (key j i h2 h3 h0 h1 (by omega) e.symm).symm
theorem clm_nd {c : Int} {ow m : Nat} (h : 1 ≤ ow) (hm : m ≤ ow) : (clm c ow m).Nodup := by
  unfold clm
  rw [List.nodup_iff_pairwise_ne, List.pairwise_map]
  refine List.Pairwise.imp_of_mem (R := fun a b => a ≠ b) (fun {a b} ha hb hab e => ?_) List.nodup_range
  have ha := List.mem_range.mp ha
  have hb := List.mem_range.mp hb
  have a0 := Int.emod_nonneg (c / 3 + (0 + (a : Int))) (show (ow : Int) ≠ 0 by omega)
  have b0 := Int.emod_nonneg (c / 3 + (0 + (b : Int))) (show (ow : Int) ≠ 0 by omega)
  have := emod_near (x := c / 3) (i := 0 + (a : Int)) (j := 0 + (b : Int)) (n := (ow : Int)) (by omega) (by omega) (by omega) (by omega) (by omega)
  omega
theorem clm_len (c : Int) (ow m : Nat) : (clm c ow m).length = m := by unfold clm; simp
theorem clm_succ (c : Int) (ow m : Nat) : vN (clm c ow (m + 1)) = vN (clm c ow m) ++ [.int ((((c / 3 + (0 + (m : Int))) % (ow : Int)).toNat : Nat) : Int)] := by
  unfold clm vN
  rw [List.range_succ, List.map_append, List.map_append]
  rfl
/-- tables, whole -/
structure PT where
  cols : List Nat
  way : Str
  rows : List Rw
def PTA (H : Hp) (r : Addr) (t : PT) : Prop := ∃ (cl rl : Addr) (zs : List V), H r = some (.tup [.ref cl, .str t.way, .ref rl]) ∧ H cl = some (.lst (vN t.cols)) ∧ H rl = some (.lst zs) ∧ RL NT H zs t.rows
theorem PTA.same {H H' : Hp} {r : Addr} {t : PT} (h : PTA H r t) (s : Same H H') : PTA H' r t := let ⟨cl, rl, zs, e, f, g, k⟩ := h; ⟨cl, rl, zs, s _ _ e, s _ _ f, s _ _ g, k.same s⟩
structure PTok (fN : Nat) (ds : List PD) (j : Nat) (t : PT) : Prop where
  ok : TOk2 fN ds j (t.cols, t.way)
  rows : ∀ w ∈ t.rows, RowFit ds t.cols (fN + j) w
  few : t.rows.length ≤ 200
def PlA (H : Hp) (r : Addr) (zs : List Str) (ds : List PD) (ts : List PT) : Prop := ∃ (nl dl tl_ : Addr) (dv tv : List V), H r = some (.tup [.ref nl, .ref dl, .ref tl_]) ∧ H nl = some (.lst (zs.map V.str)) ∧ H dl = some (.lst dv) ∧ RefL dv ds (PDA NT H) ∧ H tl_ = some (.lst tv) ∧ RefL tv ts (PTA H)
theorem PlA.same {H H' : Hp} {r : Addr} {zs : List Str} {ds : List PD} {ts : List PT} (h : PlA H r zs ds ts) (s : Same H H') : PlA H' r zs ds ts :=
  let ⟨nl, dl, tl_, dv, tv, e1, e2, e3, h1, e4, h2⟩ := h
  ⟨nl, dl, tl_, dv, tv, s _ _ e1, s _ _ e2, s _ _ e3, RefL.mono h1 (fun _ _ p => p.same s), s _ _ e4, RefL.mono h2 fun _ _ p => p.same s⟩
structure PlOk (zs : List Str) (ds : List PD) (ts : List PT) (fN : Nat) : Prop where
  words : ∀ z ∈ zs, isw z = true
  nd : zs.Nodup
  len : zs.length = ds.length
  n7 : ds.length ≤ 7
  tab : fN + ts.length = ds.length
  some_ : 1 ≤ ts.length
  doms : ∀ p ∈ ds, PDok p
  tabs : ∀ (j : Nat) (t : PT), ts[j]? = some t → PTok fN ds j t
theorem grow_hide {H H9 : Hp} {F F' : List Addr} (h : ∀ b o, b ∉ F → H b = some o → H9 b = some o ∧ b ∉ F') : Same (hideL H F) (hideL H9 F') := fun b o e => by
  by_cases hb : b ∈ F
  · unfold hideL at e; rw [if_pos hb] at e; cases e
  · obtain ⟨e9, n9⟩ := h b o hb (hideL_le H F b o e)
    exact hideL_of e9 n9
def rls (ts : List ((List Nat × Str) × Addr)) : List Addr := ts.map (·.2)
theorem rls_snoc (ts : List ((List Nat × Str) × Addr)) (t : (List Nat × Str) × Addr) : rls (ts ++ [t]) = rls ts ++ [t.2] := by unfold rls; rw [List.map_append]; rfl
theorem nat_min {c : Int} {ow : Nat} (h1 : 1 ≤ ow) : ∃ m : Nat, (if (ow : Int) < 1 + c % 3 then (ow : Int) else 1 + c % 3) = (m : Int) ∧ 1 ≤ m ∧ m ≤ 3 ∧ m ≤ ow := by
  have c0 := Int.emod_nonneg c (show (3 : Int) ≠ 0 by decide)
  have c1 := Int.emod_lt_of_pos c (show (0 : Int) < 3 by decide)
  refine ⟨(if (ow : Int) < 1 + c % 3 then (ow : Int) else 1 + c % 3).toNat, ?_, ?_, ?_, ?_⟩ <;> split <;> omega
theorem rls_get {ts : List ((List Nat × Str) × Addr)} {j : Nat} {t : (List Nat × Str) × Addr} (e : ts[j]? = some t) : (rls ts)[j]? = some t.2 := by unfold rls; rw [List.getElem?_map, e]; rfl
theorem rls_mem {ts : List ((List Nat × Str) × Addr)} {j : Nat} {t : (List Nat × Str) × Addr} (e : ts[j]? = some t) : t.2 ∈ rls ts := List.mem_of_getElem? (rls_get e)
def mkT (t : (List Nat × Str) × Addr) (rs : List Rw) : PT := ⟨t.1.1, t.1.2, rs⟩
/-- the rows of the tables, as they grow -/
def RwI (H : Hp) (F : List Addr) (fN : Nat) (ds : List PD) (ts : List ((List Nat × Str) × Addr)) (rss : List (List Rw)) (n : Nat) : Prop := rss.length = ts.length ∧ ∀ (j : Nat) (t : (List Nat × Str) × Addr) (rs : List Rw), ts[j]? = some t → rss[j]? = some rs → (∃ zs, H t.2 = some (.lst zs) ∧ RL NT (hideL H F) zs rs) ∧ (∀ w ∈ rs, RowFit ds t.1.1 (fN + j) w) ∧ rs.length ≤ n
theorem RwI.grow {H H2 : Hp} {fN n jj : Nat} {ds : List PD} {ts : List ((List Nat × Str) × Addr)} {rss : List (List Rw)} {t : (List Nat × Str) × Addr} {rs : List Rw} {zs : List V} {r : Addr} {w : Rw} (h : RwI H (rls ts) fN ds ts rss n) (hnd : (rls ts).Nodup) (s : Same H H2) (et : ts[jj]? = some t) (er : rss[jj]? = some rs) (ez : H t.2 = some (.lst zs)) (hz : RL NT (hideL H (rls ts)) zs rs) (hw : RowA NT (hideL H2 (rls ts)) r w) (hf : RowFit ds t.1.1 (fN + jj) w) : RwI (upd H2 t.2 (.lst (zs ++ [.ref r]))) (rls ts) fN ds ts (rss.set jj (rs ++ [w])) (n + 1) := by
  refine ⟨by rw [List.length_set]; exact h.1, fun j t' rs' e1 e2 => ?_⟩
  have hh : hideL (upd H2 t.2 (.lst (zs ++ [.ref r]))) (rls ts) = hideL H2 (rls ts) := hideL_upd (rls_mem et)
  rw [hh]
  by_cases hj : jj = j
  · subst hj
    rw [et] at e1
    cases e1
    rw [List.getElem?_set_self (List.getElem?_eq_some_iff.mp er).1] at e2
    cases e2
    obtain ⟨_, h2, h3⟩ := h.2 jj t rs et er
    refine ⟨⟨_, upd_same, RefL.snoc (hz.same (hideL_mono s)) hw⟩, fun w' hw' => ?_, by rw [List.length_append, List.length_singleton]; omega⟩
    rcases List.mem_append.mp hw' with hw' | hw'
    · exact h2 w' hw'
    · rw [show w' = w by simpa using hw']; exact hf
  · rw [List.getElem?_set_ne hj] at e2
    obtain ⟨⟨zs', f1, f2⟩, h2, h3⟩ := h.2 j t' rs' e1 e2
    refine ⟨⟨zs', (upd_ne fun z => ?_).trans (s _ _ f1), f2.same (hideL_mono s)⟩, h2, by omega⟩
    have a1 := rls_get e1
    have a2 := rls_get et
    rw [z] at a1
    exact hj (nd_ix hnd a2 a1)
abbrev ofS := Str.ofString
theorem ap_assoc (a b c : Str) : a ++ b ++ c = a ++ (b ++ c) := by
  show Str.append (Str.append a b) c = Str.append a (Str.append b c)
  unfold Str.append
  simp [Array.append_assoc]
theorem jn_append {sep : Str} : ∀ {A B : List Str}, A ≠ [] → B ≠ [] → Str.join sep (A ++ B) = Str.join sep A ++ sep ++ Str.join sep B
  | [], _, h, _ => absurd rfl h
  | [x], b :: B, _, _ => rfl
  | [_], [], _, h => absurd rfl h
  | x :: y :: A, B, _, hB => by
    have ih := jn_append (sep := sep) (A := y :: A) (B := B) (by simp) hB
    show x ++ sep ++ Str.join sep ((y :: A) ++ B) = (x ++ sep ++ Str.join sep (y :: A)) ++ sep ++ Str.join sep B
    rw [ih]
    simp only [ap_assoc]
theorem jn_flat {sep : Str} : ∀ {L : List (List Str)}, (∀ l ∈ L, l ≠ []) → Str.join sep L.flatten = Str.join sep (L.map (Str.join sep))
  | [], _ => rfl
  | [l], h => by rw [List.flatten_cons, List.flatten_nil, List.append_nil]; rfl
  | l :: m :: L, h => by
    have ih := jn_flat (sep := sep) (L := m :: L) fun x hx => h x (List.mem_cons_of_mem _ hx)
    have hne : (m :: L).flatten ≠ [] := fun e => by
      have h1 := h m (by simp)
      rw [List.flatten_cons] at e
      exact h1 (List.append_eq_nil_iff.mp e).1
    rw [List.flatten_cons, jn_append (h l (by simp)) hne, ih]
    rfl
theorem join_is2 (sep : Str) (zs : List Str) : Txt.join sep zs = Str.join sep zs := StrLaws.glued_eq_join _ _
theorem cutS_ne {zs : List Str} {p : Pr} (h0 : 0 ≤ p.1) (h1 : p.1 ≤ p.2) (h2 : p.2 ≤ hiW zs) : cutS zs (some p.1) (some (p.2 + 1)) ≠ [] := fun e => by
  have hl := congrArg List.length e
  unfold cutS hiW at *
  obtain ⟨a, ea⟩ : ∃ a : Nat, p.1 = (a : Int) := ⟨p.1.toNat, by omega⟩
  obtain ⟨b, eb⟩ : ∃ b : Nat, p.2 = (b : Int) := ⟨p.2.toNat, by omega⟩
  rw [ea, eb, show (b : Int) + 1 = ((b + 1 : Nat) : Int) by omega, HT.sIx_nat, HT.sIx_nat, List.length_take, List.length_drop] at hl
  simp at hl
  omega
def cutW (zs : List Str) (p : Pr) : List Str := cutS zs (some p.1) (some (p.2 + 1))
/-- a part of a cell -/
def partT (k : Dk) (p : Pr) : Str := match k.1 with
  | some zs => Txt.join (ofS ", ") (cutW zs p)
  | none => shN k.2.1 k.2.2 p
def fieldT (k : Dk) (ps : Prs) : Str := if ps = [] then ofS "not -" else if ps = [k.2] then ofS "-" else Txt.join (ofS ", ") (ps.map (partT k))
def writT (k : Dk) : Str := match k.1 with
  | some zs => Txt.join (ofS ", ") zs
  | none => Str.ofString (toString k.2.1) ++ ofS ".." ++ Str.ofString (toString k.2.2)
structure CellOk (k : Dk) (ps : Prs) : Prop where
  few : ps.length ≤ 2
  inn : ∀ p ∈ ps, PrOk k p
  gd : GdK k
  w0 : ∀ zs, k.1 = some zs → k.2 = (0, hiW zs)
theorem field_words {zs : List Str} {b : Pr} {ps : Prs} (ok : CellOk (some zs, b) ps) : Txt.join (ofS ", ") (ps.map (partT (some zs, b))) = Txt.join (ofS ", ") (ps.map (cutW zs)).flatten := by
  have e := ok.w0 zs rfl
  rw [join_is2, join_is2, jn_flat, List.map_map]
  · congr 1
    apply List.map_congr_left
    intro p _
    exact join_is2 _ _
  · intro l hl
    obtain ⟨p, hp, rfl⟩ := List.mem_map.mp hl
    have h := ok.inn p hp
    have e1 : b = (0, hiW zs) := e
    exact cutS_ne (by have := h.lo; rw [e1] at this; exact this) h.le (by have := h.hi; rw [e1] at this; exact this)
theorem cutW_mem {zs : List Str} {ps : Prs} {z : Str} (h : z ∈ (ps.map (cutW zs)).flatten) : z ∈ zs := by
  obtain ⟨l, hl, hz⟩ := List.mem_flatten.mp h
  obtain ⟨p, _, rfl⟩ := List.mem_map.mp hl
  exact cutS_mem hz
theorem cutW_len (zs : List Str) : ∀ ps : Prs, ((ps.map (cutW zs)).flatten).length ≤ ps.length * zs.length
  | [] => by simp
  | p :: ps => by
    have h1 := cutS_len zs (some p.1) (some (p.2 + 1))
    have h2 := cutW_len zs ps
    rw [List.map_cons, List.flatten_cons, List.length_append, List.length_cons, Nat.succ_mul]
    unfold cutW at h2 ⊢
    omega
theorem jn_len {sep : Str} {zs : List Str} {m n : Nat} (hs : sep.length ≤ 3) (h : ∀ z ∈ zs, z.length ≤ m) (hn : zs.length ≤ n) : (Txt.join sep zs).length ≤ n * (m + 3) := by
  have h1 := StrLaws.join_length_le sep zs
  rw [join_is2]
  have h2 := sum_le h
  have h3 : zs.length * sep.length ≤ zs.length * 3 := Nat.mul_le_mul_left _ hs
  have h4 : zs.length * (m + 3) ≤ n * (m + 3) := Nat.mul_le_mul_right _ hn
  rw [Nat.mul_add] at h4
  omega
theorem partT_len {k : Dk} {p : Pr} (ok : PrOk k p) (hg : GdK k) : (partT k p).length ≤ 600 := by
  obtain ⟨w, lo, hi⟩ := k
  cases w with
  | none => exact Nat.le_trans (shN_len ok.b1 ok.b2) (by decide)
  | some zs =>
    have hg : Good zs := hg
    have := jn_len (sep := ofS ", ") (zs := cutW zs p) (m := 12) (n := 40) (by decide +kernel) (fun z hz => isw_len (hg.words z (cutS_mem hz))) (Nat.le_trans (cutS_len ..) hg.few)
    exact this
theorem fieldT_len {k : Dk} {ps : Prs} (ok : CellOk k ps) : (fieldT k ps).length ≤ 1206 := by
  unfold fieldT
  split
  · exact Nat.le_trans (show (ofS "not -").length ≤ 5 by decide +kernel) (by decide)
  · split
    · exact Nat.le_trans (show (ofS "-").length ≤ 5 by decide +kernel) (by decide)
    · exact jn_len (m := 600) (n := 2) (by decide +kernel) (fun z hz => by
        obtain ⟨p, hp, rfl⟩ := List.mem_map.mp hz
        exact partT_len (ok.inn p hp) ok.gd) (by rw [List.length_map]; exact ok.few)
theorem writT_len {k : Dk} (hg : GdK k) (b1 : bnd k.2.1) (b2 : bnd k.2.2) : (writT k).length ≤ 600 := by
  obtain ⟨w, lo, hi⟩ := k
  cases w with
  | none =>
    have a := len_num b1
    have b := len_num b2
    show (Str.ofString (toString lo) ++ ofS ".." ++ Str.ofString (toString hi)).length ≤ 600
    rw [len_ap, len_ap, dots2]
    have a : (Str.ofString (toString lo)).length ≤ 61 := a
    have b : (Str.ofString (toString hi)).length ≤ 61 := b
    omega
  | some zs =>
    have hg : Good zs := hg
    exact jn_len (m := 12) (n := 40) (by decide +kernel) (fun z hz => isw_len (hg.words z hz)) hg.few
theorem eqL_whole {K : PySem.W.Frag} {H : Hp} {Q : VK} {a b u : Addr} {ts : List V} {ps : Prs} {q : Pr} (ha : SqL K H a ts) (hP : PL H ts ps) (hb : SqL K H b [.ref u]) (hu : H u = some (.tup [.int q.1, .int q.2])) (h : Q (.bl (decide (ps = [q]))) H) : rEqL K false (.ref a) (.ref b) H Q := by
  have hl := hP.length
  by_cases h1 : ps.length = 1
  · match ps, h1, hP, h with
    | [p], _, hP, h =>
      obtain ⟨x, ex⟩ : ∃ x, ts[0]? = some x := ⟨_, List.getElem?_eq_getElem (by rw [hl]; exact Nat.one_pos)⟩
      obtain ⟨p', t, e1, rfl, et⟩ := hP.get ex
      cases e1
      have ets : ts = [.ref t] := by
        match ts, hl, ex with
        | [y], _, ex => cases ex; rfl
      rw [ets] at ha
      refine eqL_pair ha hb et hu ?_
      have e : decide (p = q) = decide ([p] = [q]) := by
        rw [Bool.eq_iff_iff, decide_eq_true_iff, decide_eq_true_iff]
        constructor
        · intro z; rw [z]
        · intro z; injection z
      rw [e]
      exact h
  · have e : decide (ps = [q]) = false := decide_eq_false fun z => h1 (by rw [z]; rfl)
    rw [e] at h
    exact ⟨a, b, _, _, rfl, rfl, ha, hb, .inl ⟨by rw [hl]; exact h1, h⟩⟩
theorem eqL_nil {K : PySem.W.Frag} {H : Hp} {Q : VK} {a b : Addr} {ts : List V} (ha : SqL K H a ts) (hb : SqL K H b []) (h : Q (.bl (decide (ts = []))) H) : rEqL K false (.ref a) (.ref b) H Q := by
  by_cases h1 : ts = []
  · subst h1
    exact ⟨a, b, _, _, rfl, rfl, ha, hb, .inr ⟨rfl, fun _ => true, (fun j x y e => by simp at e), h⟩⟩
  · rw [decide_eq_false h1] at h
    exact ⟨a, b, _, _, rfl, rfl, ha, hb, .inl ⟨fun z => h1 (List.length_eq_zero_iff.mp z), h⟩⟩
/-! plan's domains -/
theorem PDok.gd {p : PD} (ok : PDok p) : GdK p.k := by
  unfold PD.k
  by_cases h : p.ws = []
  · rw [if_pos h]; trivial
  · rw [if_neg h]; exact (ok.wd h).1
theorem PDok.b1 {p : PD} (ok : PDok p) : bnd p.k.2.1 := ok.bd _ (Int.le_refl _) ok.le
theorem PDok.b2 {p : PD} (ok : PDok p) : bnd p.k.2.2 := ok.bd _ ok.le (Int.le_refl _)
theorem PDok.cell {p : PD} (ok : PDok p) {ps : Prs} (hl : ps.length ≤ 2) (hb : ∀ x ∈ ps, p.lo ≤ x.1 ∧ x.1 ≤ x.2 ∧ x.2 ≤ p.hi) : CellOk p.k ps := by
  refine ⟨hl, fun x hx => ?_, ok.gd, fun zs e => ?_⟩
  · obtain ⟨h1, h2, h3⟩ := hb x hx
    exact ⟨h1, h2, h3, ok.bd _ h1 (by omega), ok.bd _ (by omega) h3⟩
  · unfold PD.k at e ⊢
    by_cases h : p.ws = []
    · rw [if_pos h] at e; cases e
    · rw [if_neg h] at e
      cases e
      obtain ⟨_, a, b⟩ := ok.wd h
      show (p.lo, p.hi) = (0, hiW p.ws)
      rw [a, b]
theorem PD.k_none {p : PD} (h : p.ws = []) : p.k = (none, p.lo, p.hi) := by unfold PD.k; rw [if_pos h]
theorem PD.k_some {p : PD} (h : p.ws ≠ []) : p.k = (some p.ws, p.lo, p.hi) := by unfold PD.k; rw [if_neg h]
theorem DomD.dom {cN cW : Addr} {H : Hp} {d : Addr} {k : Dk} (h : DomD cN cW H d k) : Dom cN cW H d k.2 := by
  obtain ⟨w, lo, hi⟩ := k
  cases w with
  | none => obtain ⟨dx, e⟩ := h; exact ⟨cN, .inl rfl, dx, _, e, rfl, rfl, rfl⟩
  | some zs =>
    obtain ⟨⟨dx, l, e, _⟩, h0, h1, _⟩ := h
    have h0 : lo = 0 := h0
    have h1 : hi = hiW zs := h1
    subst h0 h1
    exact ⟨cW, .inr rfl, dx, _, e, rfl, rfl, rfl⟩
theorem fieldT_nil (k : Dk) : fieldT k [] = ofS "not -" := by unfold fieldT; rw [if_pos rfl]
theorem fieldT_all {k : Dk} {ps : Prs} (h : ps = [k.2]) : fieldT k ps = ofS "-" := by unfold fieldT; rw [if_neg (by rw [h]; simp), if_pos h]
theorem fieldT_parts {k : Dk} {ps : Prs} (h0 : ps ≠ []) (h : ps ≠ [k.2]) : fieldT k ps = Txt.join (ofS ", ") (ps.map (partT k)) := by unfold fieldT; rw [if_neg h0, if_neg h]
theorem not_all : Str.ofString "not " ++ Str.ofString "-" = ofS "not -" := by decide +kernel
theorem pl_nil {H : Hp} {ts : List V} {ps : Prs} (h : PL H ts ps) : ts = [] ↔ ps = [] := by
  have := h.length
  constructor
  · intro z; subst z; exact List.length_eq_zero_iff.mp this.symm
  · intro z; subst z; exact List.length_eq_zero_iff.mp this
def valT (k : Dk) (c : Int) : Str := match k.1 with
  | some zs => zs.getD c.toNat Str.empty
  | none => Str.ofString (toString c)
theorem valT_shown {cN cW : Addr} {H : Hp} {d : Addr} {k : Dk} {c : Int} (h : DomD cN cW H d k) (h1 : k.2.1 ≤ c) (h2 : c ≤ k.2.2) (hb : bnd c) : Shown cN cW H d c (valT k c) := by
  obtain ⟨w, lo, hi⟩ := k
  cases w with
  | none => exact .inl ⟨lo, hi, h, h1, h2, hb, rfl⟩
  | some zs =>
    obtain ⟨hW, e0, e1, hg⟩ := h
    have e0 : lo = 0 := e0
    have e1 : hi = hiW zs := e1
    have h1 : lo ≤ c := h1
    have h2 : c ≤ hi := h2
    unfold hiW at e1
    have hk : c.toNat < zs.length := by omega
    refine .inr ⟨zs, hW, by omega, ?_⟩
    show zs[c.toNat]? = some (zs.getD c.toNat Str.empty)
    rw [List.getD_eq_getElem?_getD, List.getElem?_eq_getElem hk]
    rfl
theorem valT_len {p : PD} {c : Int} (ok : PDok p) (h1 : p.lo ≤ c) (h2 : c ≤ p.hi) : (valT p.k c).length ≤ 61 := by
  by_cases he : p.ws = []
  · rw [PD.k_none he]
    exact len_num (ok.bd c h1 h2)
  · rw [PD.k_some he]
    obtain ⟨hg, e0, e1⟩ := ok.wd he
    unfold hiW at e1
    have hk : c.toNat < p.ws.length := by omega
    show (p.ws.getD c.toNat Str.empty).length ≤ 61
    rw [List.getD_eq_getElem?_getD, List.getElem?_eq_getElem hk]
    exact Nat.le_trans (isw_len (hg.words _ (List.getElem_mem hk))) (by decide)
def headT (nm : Str) (zs : List Str) (k : Dk) (wy : Str) : Str := ofS "table " ++ nm ++ ofS ": " ++ Txt.join (ofS ", ") zs ++ ofS " -> " ++ writT k ++ ofS " by " ++ wy
def rowT (ks : List Dk) (w : Rw) (ko : Dk) : Str := ofS "when " ++ Txt.join (ofS " | ") (List.zipWith fieldT ks w.1) ++ ofS " -> " ++ valT ko w.2
theorem l_table : (Str.ofString "table ").length = 6 := by decide +kernel
theorem l_named : (Str.ofString ": ").length = 2 := by decide +kernel
theorem l_to : (Str.ofString " -> ").length = 4 := by decide +kernel
theorem l_by : (Str.ofString " by ").length = 4 := by decide +kernel
theorem l_when : (Str.ofString "when ").length = 5 := by decide +kernel
theorem big4 {n : Nat} (h : n ≤ 100000) : n ≤ sizeLine := by rw [sizeLine_eq]; exact Nat.le_trans h (by decide)
theorem zf_len {ks : List Dk} {pss : List Prs} (h6 : pss.length ≤ 6) (ok : ∀ (j : Nat) (k : Dk) (ps : Prs), ks[j]? = some k → pss[j]? = some ps → CellOk k ps) : (Txt.join (ofS " | ") (List.zipWith fieldT ks pss)).length ≤ 7254 := by
  refine jn_len (m := 1206) (n := 6) (by decide +kernel) (fun z hz => ?_) (by rw [List.length_zipWith]; omega)
  obtain ⟨j, hj⟩ := List.getElem?_of_mem hz
  rw [List.getElem?_zipWith] at hj
  cases e3 : ks[j]? with
  | none => rw [e3] at hj; cases hj
  | some k =>
    cases e4 : pss[j]? with
    | none => rw [e3, e4] at hj; cases hj
    | some p =>
      rw [e3, e4] at hj
      have hj : some (fieldT k p) = some z := hj
      cases hj
      exact fieldT_len (ok j k p e3 e4)
theorem PlOk.own {zs : List Str} {ds : List PD} {ts : List PT} {fN : Nat} (h : PlOk zs ds ts fN) {k : Nat} {t : PT} (e : ts[k]? = some t) : fN + k < ds.length := by
  have := (List.getElem?_eq_some_iff.mp e).1
  have := h.tab
  omega
theorem PlOk.lt {zs : List Str} {ds : List PD} {ts : List PT} {fN : Nat} (h : PlOk zs ds ts fN) {k : Nat} {t : PT} (e : ts[k]? = some t) : ∀ j ∈ t.cols, j < ds.length := fun j hj => by
  have h1 := (h.tabs k t e).ok.lt j hj
  have h2 := h.own e
  omega
theorem PlOk.rows {zs : List Str} {ds : List PD} {ts : List PT} {fN : Nat} (h : PlOk zs ds ts fN) {k : Nat} {t : PT} (e : ts[k]? = some t) {po : PD} (eo : ds[fN + k]? = some po) : ∀ w ∈ t.rows, RowOk (prm t.cols (ds.map fun p => (p.lo, p.hi))) (po.lo, po.hi) w := fun w hw => by
  have f := (h.tabs k t e).rows w hw
  have lt := h.lt e
  have lt2 : ∀ j ∈ t.cols, j < (ds.map fun p => (p.lo, p.hi)).length := fun j hj => by rw [List.length_map]; exact lt j hj
  have g := prm_get (os := t.cols) (xs := ds.map fun p => (p.lo, p.hi)) lt2
  have c := f.code po eo
  refine ⟨by rw [f.len, g.1], fun j ps b e1 e2 p hp => ?_, c.1, c.2⟩
  have hj : j < t.cols.length := by rw [← f.len]; exact (List.getElem?_eq_some_iff.mp e1).1
  have ec := List.getElem?_eq_getElem hj
  rw [g.2 j _ ec, List.getElem?_map] at e2
  have ed := List.getElem?_eq_getElem (lt _ (List.mem_of_getElem? ec))
  rw [ed] at e2
  cases e2
  have := f.inn j _ ps _ e1 ec ed p hp
  exact ⟨this.1, this.2.2⟩
theorem PlOk.cells {zs : List Str} {ds : List PD} {ts : List PT} {fN : Nat} (h : PlOk zs ds ts fN) {k : Nat} {t : PT} (e : ts[k]? = some t) {w : Rw} (hw : w ∈ t.rows) : ∀ (j : Nat) (kk : Dk) (ps : Prs), (prm t.cols (ds.map PD.k))[j]? = some kk → w.1[j]? = some ps → CellOk kk ps := fun j kk ps e1 e2 => by
  have f := (h.tabs k t e).rows w hw
  have lt := h.lt e
  have lt2 : ∀ j ∈ t.cols, j < (ds.map PD.k).length := fun j hj => by rw [List.length_map]; exact lt j hj
  have g := prm_get (os := t.cols) (xs := ds.map PD.k) lt2
  have hj : j < t.cols.length := by rw [← f.len]; exact (List.getElem?_eq_some_iff.mp e2).1
  have ec := List.getElem?_eq_getElem hj
  have ed := List.getElem?_eq_getElem (lt _ (List.mem_of_getElem? ec))
  rw [g.2 j _ ec, List.getElem?_map, ed] at e1
  cases e1
  exact (h.doms _ (List.mem_of_getElem? ed)).cell (f.few ps (List.mem_of_getElem? e2)) (f.inn j _ ps _ e2 ec ed)
theorem hide_tups {H : Hp} {D : Addr} {zs : List V} (e : H D = some (.lst zs)) : SameT H (hide H D) := fun b t f => hide_of f (ne_of f e (by intro z; cases z))
theorem prm_snoc2 {α : Type} {os : List Nat} {o : Nat} {xs : List α} {x : α} (e : xs[o]? = some x) : prm (os ++ [o]) xs = prm os xs ++ [x] := by
  unfold prm
  rw [List.filterMap_append]
  simp [e]
theorem DomN.wk {N N' : Addr → Prop} {cN cW : Addr} {H : Hp} {d : Addr} {k : Dk} (h : DomN N cN cW H d k) (w : ∀ x, N x → N' x) : DomN N' cN cW H d k := by
  obtain ⟨w_, lo, hi⟩ := k
  cases w_ with
  | none => exact h
  | some zs => obtain ⟨⟨dx, l, n, e, f⟩, r⟩ := h; exact ⟨⟨dx, l, w _ n, e, f⟩, r⟩
theorem headT_law (nm : Str) (zs : List Str) (k : Dk) (wy : Str) : Str.ofString "table " ++ nm ++ Str.ofString ": " ++ Txt.join (Str.ofString ", ") zs ++ (Str.ofString " -> " ++ writT k ++ Str.ofString " by " ++ wy) = headT nm zs k wy := by
  unfold headT
  simp only [ap_assoc]
theorem PlOk.nm12 {zs : List Str} {ds : List PD} {ts : List PT} {fN : Nat} (h : PlOk zs ds ts fN) {z : Str} (hz : z ∈ zs) : z.length ≤ 12 := isw_len (h.words z hz)
theorem six12 {z : Str} (h : z ∈ six) : z.length ≤ 12 := by
  unfold six at h
  simp only [List.mem_cons, List.not_mem_nil, or_false] at h
  rcases h with rfl | rfl | rfl | rfl | rfl | rfl <;> decide +kernel
def sp_all_among (K : PySem.W.Frag) (cWay cFirst cOnly cLike cLow cHigh cSum cDomain cNumbers cWords cTable : Addr) : Sp := fun vs H Q _ => ∃ (z g : Str), vs = [.str z, .str g] ∧ Q (.bl (allIn z g)) H
def sp_number_text (K : PySem.W.Frag) (cWay cFirst cOnly cLike cLow cHigh cSum cDomain cNumbers cWords cTable : Addr) : Sp := fun vs H Q _ => ∃ c : Int, vs = [.int c] ∧ bnd c ∧ Q (.str (toString c)) H
def sp_is_whole (K : PySem.W.Frag) (cWay cFirst cOnly cLike cLow cHigh cSum cDomain cNumbers cWords cTable : Addr) : Sp := fun vs H Q _ => ∃ i : Int, vs = [.int i] ∧ Q (.bl true) H
def sp_words_of (K : PySem.W.Frag) (cWay cFirst cOnly cLike cLow cHigh cSum cDomain cNumbers cWords cTable : Addr) : Sp := fun vs H Q _ => ∃ (d l : Addr) (zs : List Str) (ts : List V) (ps : Prs), vs = [.ref d, .ref l] ∧ WrdD cWords H d zs ∧ zs.length ≤ 40 ∧ H l = some (.lst ts) ∧ PL H ts ps ∧ ps.length ≤ 2 ∧ ∀ (w : Addr) (H' : Hp), Same H H' → H' w = some (.lst ((ps.map (cutW zs)).flatten.map V.str)) → Q (.ref w) H'
def sp_refuse_counts (K : PySem.W.Frag) (cWay cFirst cOnly cLike cLow cHigh cSum cDomain cNumbers cWords cTable : Addr) : Sp := fun vs H Q _ => ∃ (p r : Addr) (xs ys : List V), vs = [.ref p, .ref r] ∧ SqL K H p xs ∧ SqL K H r ys ∧ 1 ≤ xs.length ∧ xs.length ≤ 4 ∧ ys.length ≤ 200 ∧ Q .non H
def sp_own_row (K : PySem.W.Frag) (cWay cFirst cOnly cLike cLow cHigh cSum cDomain cNumbers cWords cTable : Addr) : Sp := fun vs H Q _ => ∃ (cl : Addr) (xs : List V) (w : Rw), vs = [.ref cl, .int w.2] ∧ H cl = some (.lst xs) ∧ CL NT H xs w.1 ∧ w.1.length ≤ 100 ∧ ∀ (r : Addr) (H' : Hp), Same H H' → H r = none → RowA (fun a => H a = none) H' r w → Q (.ref r) H'
def sp_law_at (K : PySem.W.Frag) (cWay cFirst cOnly cLike cLow cHigh cSum cDomain cNumbers cWords cTable : Addr) : Sp := fun vs H Q _ => ∃ (a : Addr) (ns : List Int) (k : Int), vs = [.ref a, .int k] ∧ SqL K H a (ns.map V.int) ∧ 0 ≤ k ∧ ∀ r : Int, Q (.int r) H
def sp_law_words (K : PySem.W.Frag) (cWay cFirst cOnly cLike cLow cHigh cSum cDomain cNumbers cWords cTable : Addr) : Sp := fun vs H Q _ => ∃ (c : Int) (n : Nat), vs = [.int c, .int (n : Int)] ∧ n ≤ 40 ∧ ∀ (l : Addr) (H' : Hp), Same H H' → H l = none → H' l = some (.lst ((lws c n).map V.str)) → Q (.ref l) H'
def sp_law_pool (K : PySem.W.Frag) (cWay cFirst cOnly cLike cLow cHigh cSum cDomain cNumbers cWords cTable : Addr) : Sp := fun vs H Q _ => ∃ (r : Addr) (p : PD) (c : Int), vs = [.ref r, .int c] ∧ PDA NT H r p ∧ PDok p ∧ ∀ (l : Addr) (xs : List Int) (H' : Hp), Same H H' → H l = none → H' l = some (.lst (xs.map V.int)) → xs.length = 3 → (∀ x ∈ xs, p.lo ≤ x ∧ x ≤ p.hi) → Q (.ref l) H'
def sp_law_spans (K : PySem.W.Frag) (cWay cFirst cOnly cLike cLow cHigh cSum cDomain cNumbers cWords cTable : Addr) : Sp := fun vs H Q _ => ∃ (kd one two : Int) (r : Addr) (p : PD), vs = [.int kd, .int one, .int two, .ref r] ∧ PDA NT H r p ∧ p.lo ≤ one ∧ one ≤ two ∧ two ≤ p.hi ∧ ∀ (l : Addr) (ps : Prs) (H' : Hp), Same H H' → SpA (fun a => H a = none) H' l ps → (∀ x ∈ ps, p.lo ≤ x.1 ∧ x.1 ≤ x.2 ∧ x.2 ≤ p.hi) → ps.length ≤ 2 → Q (.ref l) H'
def sp_law_domain_text (K : PySem.W.Frag) (cWay cFirst cOnly cLike cLow cHigh cSum cDomain cNumbers cWords cTable : Addr) : Sp := fun vs H Q _ => ∃ (r : Addr) (p : PD), vs = [.ref r] ∧ PDA NT H r p ∧ PDok p ∧ Q (.str (writT p.k)) H
def sp_law_part_text (K : PySem.W.Frag) (cWay cFirst cOnly cLike cLow cHigh cSum cDomain cNumbers cWords cTable : Addr) : Sp := fun vs H Q _ => ∃ (r t : Addr) (p : PD) (x : Pr), vs = [.ref r, .ref t] ∧ PDA NT H r p ∧ PDok p ∧ H t = some (.tup [.int x.1, .int x.2]) ∧ PrOk p.k x ∧ ∀ H', Same H H' → Q (.str (partT p.k x)) H'
def sp_law_value (K : PySem.W.Frag) (cWay cFirst cOnly cLike cLow cHigh cSum cDomain cNumbers cWords cTable : Addr) : Sp := fun vs H Q _ => ∃ (r : Addr) (p : PD) (c : Int), vs = [.ref r, .int c] ∧ PDA NT H r p ∧ PDok p ∧ p.lo ≤ c ∧ c ≤ p.hi ∧ Q (.str (valT p.k c)) H
def sp_Way___init___First (K : PySem.W.Frag) (cWay cFirst cOnly cLike cLow cHigh cSum cDomain cNumbers cWords cTable : Addr) : Sp := fun vs H Q _ => ∃ (x dx : Addr) (z : Str), vs = [.ref x, .str z] ∧ H x = some (.ins cFirst dx []) ∧ Q .non (upd H x (.ins cFirst dx [("called", .str z)]))
def sp_Way___init___Only (K : PySem.W.Frag) (cWay cFirst cOnly cLike cLow cHigh cSum cDomain cNumbers cWords cTable : Addr) : Sp := fun vs H Q _ => ∃ (x dx : Addr) (z : Str), vs = [.ref x, .str z] ∧ H x = some (.ins cOnly dx []) ∧ Q .non (upd H x (.ins cOnly dx [("called", .str z)]))
def sp_Way___init___Like (K : PySem.W.Frag) (cWay cFirst cOnly cLike cLow cHigh cSum cDomain cNumbers cWords cTable : Addr) : Sp := fun vs H Q _ => ∃ (x dx : Addr) (z : Str), vs = [.ref x, .str z] ∧ H x = some (.ins cLike dx []) ∧ Q .non (upd H x (.ins cLike dx [("called", .str z)]))
def sp_Way___init___Low (K : PySem.W.Frag) (cWay cFirst cOnly cLike cLow cHigh cSum cDomain cNumbers cWords cTable : Addr) : Sp := fun vs H Q _ => ∃ (x dx : Addr) (z : Str), vs = [.ref x, .str z] ∧ H x = some (.ins cLow dx []) ∧ Q .non (upd H x (.ins cLow dx [("called", .str z)]))
def sp_Way___init___High (K : PySem.W.Frag) (cWay cFirst cOnly cLike cLow cHigh cSum cDomain cNumbers cWords cTable : Addr) : Sp := fun vs H Q _ => ∃ (x dx : Addr) (z : Str), vs = [.ref x, .str z] ∧ H x = some (.ins cHigh dx []) ∧ Q .non (upd H x (.ins cHigh dx [("called", .str z)]))
def sp_Way___init___Sum (K : PySem.W.Frag) (cWay cFirst cOnly cLike cLow cHigh cSum cDomain cNumbers cWords cTable : Addr) : Sp := fun vs H Q _ => ∃ (x dx : Addr) (z : Str), vs = [.ref x, .str z] ∧ H x = some (.ins cSum dx []) ∧ Q .non (upd H x (.ins cSum dx [("called", .str z)]))
def sp_Domain___init___Numbers (K : PySem.W.Frag) (cWay cFirst cOnly cLike cLow cHigh cSum cDomain cNumbers cWords cTable : Addr) : Sp := fun vs H Q _ => ∃ (x dx : Addr) (lo hi : Int), vs = [.ref x, .int lo, .int hi] ∧ H x = some (.ins cNumbers dx []) ∧ Q .non (mkd cNumbers H x dx lo hi)
def sp_Domain___init___Words (K : PySem.W.Frag) (cWay cFirst cOnly cLike cLow cHigh cSum cDomain cNumbers cWords cTable : Addr) : Sp := fun vs H Q _ => ∃ (x dx : Addr) (lo hi : Int), vs = [.ref x, .int lo, .int hi] ∧ H x = some (.ins cWords dx []) ∧ Q .non (mkd cWords H x dx lo hi)
def sp_Words_written_Words (K : PySem.W.Frag) (cWay cFirst cOnly cLike cLow cHigh cSum cDomain cNumbers cWords cTable : Addr) : Sp := fun vs H Q _ => ∃ (a : Addr) (zs : List Str) (b : Pr), vs = [.ref a] ∧ WrdD cWords H a zs ∧ Good zs ∧ Q (.str (writT (some zs, b))) H
def sp_Numbers_value_at_Numbers (K : PySem.W.Frag) (cWay cFirst cOnly cLike cLow cHigh cSum cDomain cNumbers cWords cTable : Addr) : Sp := fun vs H Q _ => ∃ (a : Addr) (c : Int), vs = [.ref a, .int c] ∧ Q (.int c) H
def sp_Words_value_at_Words (K : PySem.W.Frag) (cWay cFirst cOnly cLike cLow cHigh cSum cDomain cNumbers cWords cTable : Addr) : Sp := fun vs H Q _ => ∃ (a : Addr) (zs : List Str) (c : Int) (z : Str), vs = [.ref a, .int c] ∧ WrdD cWords H a zs ∧ 0 ≤ c ∧ zs[c.toNat]? = some z ∧ Q (.str z) H
def sp_Domain_whole_Numbers (K : PySem.W.Frag) (cWay cFirst cOnly cLike cLow cHigh cSum cDomain cNumbers cWords cTable : Addr) : Sp := fun vs H Q _ => ∃ (a : Addr) (lo hi : Int), vs = [.ref a] ∧ NumD cNumbers H a lo hi ∧ ∀ (l t : Addr) (H' : Hp), Same H H' → H' l = some (.lst [.ref t]) → H' t = some (.tup [.int lo, .int hi]) → Q (.ref l) H'
def sp_Domain_whole_Words (K : PySem.W.Frag) (cWay cFirst cOnly cLike cLow cHigh cSum cDomain cNumbers cWords cTable : Addr) : Sp := fun vs H Q _ => ∃ (a : Addr) (zs : List Str), vs = [.ref a] ∧ WrdD cWords H a zs ∧ ∀ (l t : Addr) (H' : Hp), Same H H' → H' l = some (.lst [.ref t]) → H' t = some (.tup [.int 0, .int (hiW zs)]) → Q (.ref l) H'
def sp_is_word (K : PySem.W.Frag) (cWay cFirst cOnly cLike cLow cHigh cSum cDomain cNumbers cWords cTable : Addr) : Sp := fun vs H Q _ => ∃ (z : Str), vs = [.str z] ∧ z.length ≤ 1000 ∧ Q (.bl (isw z)) H
def sp_show_range (K : PySem.W.Frag) (cWay cFirst cOnly cLike cLow cHigh cSum cDomain cNumbers cWords cTable : Addr) : Sp := fun vs H Q _ => ∃ (d : Addr) (lo hi : Int) (p : Pr), vs = [.ref d, .int p.1, .int p.2] ∧ NumD cNumbers H d lo hi ∧ bnd p.1 ∧ bnd p.2 ∧ Q (.str (shN lo hi p)) H
def sp_law_domain (K : PySem.W.Frag) (cWay cFirst cOnly cLike cLow cHigh cSum cDomain cNumbers cWords cTable : Addr) : Sp := fun vs H Q _ => ∃ c : Int, vs = [.int c] ∧ ∀ (r : Addr) (p : PD) (H' : Hp), Same H H' → PDA (fun a => H a = none) H' r p → PDok p → Q (.ref r) H'
def sp_law_row (K : PySem.W.Frag) (cWay cFirst cOnly cLike cLow cHigh cSum cDomain cNumbers cWords cTable : Addr) : Sp := fun vs H Q _ => ∃ (cl dl pl : Addr) (ow : Nat) (c : Int) (cols : List Nat) (dv pvs : List V) (ds : List PD), vs = [.ref cl, .ref dl, .ref pl, .int (ow : Int), .int c] ∧ H cl = some (.lst (vN cols)) ∧ H dl = some (.lst dv) ∧ RefL dv ds (PDA NT H) ∧ H pl = some (.lst pvs) ∧ RefL pvs ds (PoA NT H) ∧ (∀ k ∈ cols, k < ds.length) ∧ ow < ds.length ∧ cols.length ≤ 10 ∧ ∀ (r : Addr) (w : Rw) (H' : Hp), Same H H' → RowA (fun a => H a = none) H' r w → RowFit ds cols ow w → Q (.ref r) H'
def sp_law_field (K : PySem.W.Frag) (cWay cFirst cOnly cLike cLow cHigh cSum cDomain cNumbers cWords cTable : Addr) : Sp := fun vs H Q _ => ∃ (r l : Addr) (p : PD) (ts : List V) (ps : Prs), vs = [.ref r, .ref l] ∧ PDA NT H r p ∧ PDok p ∧ H l = some (.lst ts) ∧ PL H ts ps ∧ CellOk p.k ps ∧ ∀ H', Same H H' → Q (.str (fieldT p.k ps)) H'
def sp_law_head (K : PySem.W.Frag) (cWay cFirst cOnly cLike cLow cHigh cSum cDomain cNumbers cWords cTable : Addr) : Sp := fun vs H Q _ => ∃ (r : Addr) (k : Nat) (zs : List Str) (ds : List PD) (ts : List PT) (fN : Nat) (t : PT) (nm : Str) (po : PD), vs = [.ref r, .int (k : Int)] ∧ PlA H r zs ds ts ∧ PlOk zs ds ts fN ∧ ts[k]? = some t ∧ zs[fN + k]? = some nm ∧ ds[fN + k]? = some po ∧ ∀ H', Same H H' → Q (.str (headT nm (prm t.cols zs) po.k t.way)) H'
def sp_First___init___First (K : PySem.W.Frag) (cWay cFirst cOnly cLike cLow cHigh cSum cDomain cNumbers cWords cTable : Addr) : Sp := fnew cFirst (Str.ofString "first")
def sp_Only___init___Only (K : PySem.W.Frag) (cWay cFirst cOnly cLike cLow cHigh cSum cDomain cNumbers cWords cTable : Addr) : Sp := fnew cOnly (Str.ofString "only")
def sp_Like___init___Like (K : PySem.W.Frag) (cWay cFirst cOnly cLike cLow cHigh cSum cDomain cNumbers cWords cTable : Addr) : Sp := fnew cLike (Str.ofString "like")
def sp_Low___init___Low (K : PySem.W.Frag) (cWay cFirst cOnly cLike cLow cHigh cSum cDomain cNumbers cWords cTable : Addr) : Sp := fnew cLow (Str.ofString "low")
def sp_High___init___High (K : PySem.W.Frag) (cWay cFirst cOnly cLike cLow cHigh cSum cDomain cNumbers cWords cTable : Addr) : Sp := fnew cHigh (Str.ofString "high")
def sp_Sum___init___Sum (K : PySem.W.Frag) (cWay cFirst cOnly cLike cLow cHigh cSum cDomain cNumbers cWords cTable : Addr) : Sp := fnew cSum (Str.ofString "sum")
def sp_Domain_has_code_Numbers (K : PySem.W.Frag) (cWay cFirst cOnly cLike cLow cHigh cSum cDomain cNumbers cWords cTable : Addr) : Sp := fun vs H Q _ => ∃ (a : Addr) (b : Int × Int) (i : Int), vs = [.ref a, .int i] ∧ DomC cNumbers H a b.1 b.2 ∧ b.1 ≤ i ∧ i ≤ b.2 ∧ Q (.bl true) H
def sp_Domain_has_code_Words (K : PySem.W.Frag) (cWay cFirst cOnly cLike cLow cHigh cSum cDomain cNumbers cWords cTable : Addr) : Sp := fun vs H Q _ => ∃ (a : Addr) (b : Int × Int) (i : Int), vs = [.ref a, .int i] ∧ DomC cWords H a b.1 b.2 ∧ b.1 ≤ i ∧ i ≤ b.2 ∧ Q (.bl true) H
def sp_Numbers___init___Numbers (K : PySem.W.Frag) (cWay cFirst cOnly cLike cLow cHigh cSum cDomain cNumbers cWords cTable : Addr) : Sp := fun vs H Q _ => ∃ (x dx : Addr) (lo hi : Int), vs = [.ref x, .int lo, .int hi] ∧ H x = some (.ins cNumbers dx []) ∧ lo ≤ hi ∧ Q .non (mkd cNumbers H x dx lo hi)
def sp_Numbers_written_Numbers (K : PySem.W.Frag) (cWay cFirst cOnly cLike cLow cHigh cSum cDomain cNumbers cWords cTable : Addr) : Sp := fun vs H Q _ => ∃ (a : Addr) (lo hi : Int), vs = [.ref a] ∧ NumD cNumbers H a lo hi ∧ bnd lo ∧ bnd hi ∧ Q (.str (writT (none, lo, hi))) H
def sp_show_cell (K : PySem.W.Frag) (cWay cFirst cOnly cLike cLow cHigh cSum cDomain cNumbers cWords cTable : Addr) : Sp := fun vs H Q _ => ∃ (d l : Addr) (k : Dk) (ts : List V) (ps : Prs), vs = [.ref d, .ref l] ∧ DomD cNumbers cWords H d k ∧ H l = some (.lst ts) ∧ PL H ts ps ∧ CellOk k ps ∧ ∀ H', Same H H' → Q (.str (fieldT k ps)) H'
def sp_refuse_names (K : PySem.W.Frag) (cWay cFirst cOnly cLike cLow cHigh cSum cDomain cNumbers cWords cTable : Addr) : Sp := fun vs H Q _ => ∃ (p : Addr) (zs : List Str), vs = [.ref p] ∧ SqL K H p (zs.map V.str) ∧ (∀ z ∈ zs, isw z = true) ∧ zs.Nodup ∧ zs.length ≤ 100 ∧ ∀ H', Same H H' → Q .non H'
def sp_refuse_row (K : PySem.W.Frag) (cWay cFirst cOnly cLike cLow cHigh cSum cDomain cNumbers cWords cTable : Addr) : Sp := fun vs H Q _ => ∃ (dl ou cl : Addr) (dv xs : List V) (bs : Prs) (o : Int × Int) (w : Rw), vs = [.ref dl, .ref ou, .ref cl, .int w.2] ∧ SqL K H dl dv ∧ RefL dv bs (Dom cNumbers cWords H) ∧ Dom cNumbers cWords H ou o ∧ H cl = some (.lst xs) ∧ CL NT H xs w.1 ∧ RowOk bs o w ∧ ∀ H', Same H H' → Q .non H'
def sp_head_text (K : PySem.W.Frag) (cWay cFirst cOnly cLike cLow cHigh cSum cDomain cNumbers cWords cTable : Addr) : Sp := fun vs H Q _ => ∃ (t ou : Addr) (nm wy : Str) (zs : List Str) (dv : List V) (rws : List Rw) (p : PD), vs = [.ref t] ∧ TF cTable H t nm wy ou zs dv rws ∧ DomD cNumbers cWords H ou p.k ∧ PDok p ∧ nm.length ≤ 12 ∧ wy.length ≤ 12 ∧ (∀ z ∈ zs, z.length ≤ 12) ∧ zs.length ≤ 4 ∧ Q (.str (headT nm zs p.k wy)) H
def sp_law_book (K : PySem.W.Frag) (cWay cFirst cOnly cLike cLow cHigh cSum cDomain cNumbers cWords cTable : Addr) : Sp := fun vs H Q _ => ∃ (a : Addr) (ns : List Int), vs = [.ref a] ∧ SqL K H a (ns.map V.int) ∧ ∀ (r : Addr) (zs : List Str) (ds : List PD) (ts : List PT) (fN : Nat) (H' : Hp), Same H H' → PlA H' r zs ds ts → PlOk zs ds ts fN → Q (.ref r) H'
def sp_law_when (K : PySem.W.Frag) (cWay cFirst cOnly cLike cLow cHigh cSum cDomain cNumbers cWords cTable : Addr) : Sp := fun vs H Q _ => ∃ (r ro : Addr) (k : Nat) (zs : List Str) (ds : List PD) (ts : List PT) (fN : Nat) (t : PT) (po : PD) (w : Rw), vs = [.ref r, .int (k : Int), .ref ro] ∧ PlA H r zs ds ts ∧ PlOk zs ds ts fN ∧ ts[k]? = some t ∧ ds[fN + k]? = some po ∧ RowA NT H ro w ∧ w ∈ t.rows ∧ ∀ H', Same H H' → Q (.str (rowT (prm t.cols (ds.map PD.k)) w po.k)) H'
def sp_Words___init___Words (K : PySem.W.Frag) (cWay cFirst cOnly cLike cLow cHigh cSum cDomain cNumbers cWords cTable : Addr) : Sp := fun vs H Q _ => ∃ (x dx p : Addr) (zs : List Str), vs = [.ref x, .ref p] ∧ H x = some (.ins cWords dx []) ∧ H p = some (.lst (zs.map V.str)) ∧ Good zs ∧
  ∀ (H' : Hp) (l : Addr), (∀ b o, b ≠ x → H b = some o → H' b = some o) → H' x = some (.ins cWords dx [("low", .int 0), ("high", .int (hiW zs)), ("words", .ref l)]) → H' l = some (.lst (zs.map V.str)) → H l = none → Q .non H'
def sp_Domain_worth_Numbers (K : PySem.W.Frag) (cWay cFirst cOnly cLike cLow cHigh cSum cDomain cNumbers cWords cTable : Addr) : Sp := fun vs H Q _ => ∃ (a : Addr) (lo hi c : Int), vs = [.ref a, .int c] ∧ NumD cNumbers H a lo hi ∧ lo ≤ c ∧ c ≤ hi ∧ Q (.int c) H
def sp_Domain_worth_Words (K : PySem.W.Frag) (cWay cFirst cOnly cLike cLow cHigh cSum cDomain cNumbers cWords cTable : Addr) : Sp := fun vs H Q _ => ∃ (a : Addr) (zs : List Str) (c : Int) (z : Str), vs = [.ref a, .int c] ∧ WrdD cWords H a zs ∧ 0 ≤ c ∧ zs[c.toNat]? = some z ∧ Q (.str z) H
def sp_show_value (K : PySem.W.Frag) (cWay cFirst cOnly cLike cLow cHigh cSum cDomain cNumbers cWords cTable : Addr) : Sp := fun vs H Q _ => ∃ (d : Addr) (c : Int) (z : Str), vs = [.ref d, .int c] ∧ Shown cNumbers cWords H d c z ∧ Q (.str z) H
def sp_way_by (K : PySem.W.Frag) (cWay cFirst cOnly cLike cLow cHigh cSum cDomain cNumbers cWords cTable : Addr) : Sp := fun vs H Q _ => ∃ z : Str, vs = [.str z] ∧ z ∈ six ∧ (∀ i : Nat, six[i]? = some z → ∀ (x C : Addr) (H' : Hp), Same H H' → (cl6 cFirst cOnly cLike cLow cHigh cSum)[i]? = some C → WyN C H' x z → Q (.ref x) H')
def sp_fields_text (K : PySem.W.Frag) (cWay cFirst cOnly cLike cLow cHigh cSum cDomain cNumbers cWords cTable : Addr) : Sp := fun vs H Q _ => ∃ (dl cl : Addr) (dv cv : List V) (ks : List Dk) (pss : List Prs), vs = [.ref dl, .ref cl] ∧ H dl = some (.lst dv) ∧ RefL dv ks (DomD cNumbers cWords H) ∧ H cl = some (.lst cv) ∧ CL NT H cv pss ∧ ks.length = pss.length ∧ pss.length ≤ 6 ∧ (∀ (j : Nat) (k : Dk) (ps : Prs), ks[j]? = some k → pss[j]? = some ps → CellOk k ps) ∧ ∀ H', Same H H' → Q (.str (Txt.join (ofS " | ") (List.zipWith fieldT ks pss))) H'
def sp_refuse_way (K : PySem.W.Frag) (cWay cFirst cOnly cLike cLow cHigh cSum cDomain cNumbers cWords cTable : Addr) : Sp := fun vs H Q _ => ∃ (z : Str) (ou : Addr), vs = [.str z, .ref ou] ∧ z ∈ six ∧ (z = Str.ofString "sum" → ∃ dx fs, H ou = some (.ins cNumbers dx fs)) ∧ ∀ H', Same H H' → Q .non H'
def sp_row_text (K : PySem.W.Frag) (cWay cFirst cOnly cLike cLow cHigh cSum cDomain cNumbers cWords cTable : Addr) : Sp := fun vs H Q _ => ∃ (t ou : Addr) (j : Nat) (nm wy : Str) (zs : List Str) (dv : List V) (rws : List Rw) (w : Rw) (ks : List Dk) (p : PD), vs = [.ref t, .int (j : Int)] ∧ TF cTable H t nm wy ou zs dv rws ∧ rws[j]? = some w ∧ RefL dv ks (DomD cNumbers cWords H) ∧ DomD cNumbers cWords H ou p.k ∧ PDok p ∧ p.lo ≤ w.2 ∧ w.2 ≤ p.hi ∧ ks.length = w.1.length ∧ w.1.length ≤ 6 ∧ (∀ (j : Nat) (k : Dk) (ps : Prs), ks[j]? = some k → w.1[j]? = some ps → CellOk k ps) ∧ ∀ H', Same H H' → Q (.str (rowT ks w p.k)) H'
def sp_law_made (K : PySem.W.Frag) (cWay cFirst cOnly cLike cLow cHigh cSum cDomain cNumbers cWords cTable : Addr) : Sp := fun vs H Q _ => ∃ (r : Addr) (p : PD), vs = [.ref r] ∧ PDA NT H r p ∧ PDok p ∧ ∀ (a : Addr) (H' : Hp), Same H H' → DomN (fun x => H x = none) cNumbers cWords H' a p.k → Q (.ref a) H'
def sp_Table___init___Table (K : PySem.W.Frag) (cWay cFirst cOnly cLike cLow cHigh cSum cDomain cNumbers cWords cTable : Addr) : Sp := fun vs H Q _ => ∃ (x dx na dl ou rl : Addr) (nm wy : Str) (zs : List Str) (dv rx : List V) (bs : Prs) (o : Int × Int) (rws : List Rw), vs = [.ref x, .str nm, .ref na, .ref dl, .ref ou, .str wy, .ref rl] ∧ H x = some (.ins cTable dx []) ∧ H na = some (.lst (zs.map V.str)) ∧ (∀ z ∈ nm :: zs, isw z = true) ∧ (nm :: zs).Nodup ∧ 1 ≤ zs.length ∧ zs.length ≤ 4 ∧ wy ∈ six ∧ (wy = Str.ofString "sum" → ∃ dx fs, H ou = some (.ins cNumbers dx fs)) ∧ H dl = some (.lst dv) ∧ RefL dv bs (Dom cNumbers cWords H) ∧ Dom cNumbers cWords H ou o ∧ H rl = some (.lst rx) ∧ RL NT H rx rws ∧ rx.length ≤ 200 ∧ bs.length ≤ 4 ∧ (∀ w ∈ rws, RowOk bs o w) ∧
  ∀ (H' : Hp) (fs : List (Str × V)) (rl' : Addr) (xs' : List V), (∀ b o, b ≠ x → H b = some o → H' b = some o) → H' x = some (.ins cTable dx fs) → fs.lookup (Str.ofString "rows") = some (.ref rl') → fs.lookup (Str.ofString "way") = some (.str wy) → fs.lookup (Str.ofString "outcome") = some (.ref ou) → fs.lookup (Str.ofString "name") = some (.str nm) → (∃ na' dl' : Addr, fs.lookup (Str.ofString "names") = some (.ref na') ∧ fs.lookup (Str.ofString "domains") = some (.ref dl') ∧ H' na' = some (.lst (zs.map V.str)) ∧ H' dl' = some (.lst dv)) → H' rl' = some (.lst xs') → RL NT H' xs' rws → Q .non H'
def sp_law_table (K : PySem.W.Frag) (cWay cFirst cOnly cLike cLow cHigh cSum cDomain cNumbers cWords cTable : Addr) : Sp := fun vs H Q _ => ∃ (r : Addr) (k : Nat) (zs : List Str) (ds : List PD) (ts : List PT) (fN : Nat) (t : PT) (nm : Str) (po : PD), vs = [.ref r, .int (k : Int)] ∧ PlA H r zs ds ts ∧ PlOk zs ds ts fN ∧ ts[k]? = some t ∧ zs[fN + k]? = some nm ∧ ds[fN + k]? = some po ∧ ∀ (x ou : Addr) (dv : List V) (H' : Hp), Same H H' → TF cTable H' x nm t.way ou (prm t.cols zs) dv t.rows → RefL dv (prm t.cols (ds.map PD.k)) (DomD cNumbers cWords H') → DomD cNumbers cWords H' ou po.k → Q (.ref x) H'
def sp_law (K : PySem.W.Frag) : Sp := fun vs H Q _ => ∃ (a : Addr) (ns : List Int), vs = [.ref a] ∧ SqL K H a (ns.map V.int) ∧ ns.length ≤ 63 ∧ ∀ H', Q (.bl true) H'
section
variable {P : Program} {w : World} {K : PySem.W.Frag} {mg : Str → Option Value} {base : Heap} {f : Addr} {fd : FuncData} {cWay cFirst cOnly cLike cLow cHigh cSum cDomain cNumbers cWords cTable : Addr}
theorem ok_all_among (F : Fun K "all_among" "all_among" s_all_among f fd) (bl : Bl K mg cWay cFirst cOnly cLike cLow cHigh cSum cDomain cNumbers cWords cTable)  : FnOk P w K mg base CX0 1 f fd ["text", "signs"] (sp_all_among K cWay cFirst cOnly cLike cLow cHigh cSum cDomain cNumbers cWords cTable) := by
  refine F.ok sc_all_among (fun vs H Q E h => ?_) (fun cdv A outer s H vs Q E hr h => ?_)
  · obtain ⟨z, g, rfl, q⟩ := h
    rfl
  obtain ⟨z, g, rfl, q⟩ := h
  refine ⟨_, (pss_cons (ps_for PassesOwn.never rfl (pi_str (pv 0)) (pg_name (i := 2) sc_all_among.nd rfl (Or.inl rfl))
     (pss_one (ps_if (pt_cmpR op_notin_str (pv 2) (pv 1) (by with_unfolding_all rfl))
     (pss_one (ps_ret pe_bl))
     pss_nil)))
     (pss_one (ps_ret pe_bl))), ?_⟩
  refine ⟨_, rfl, z, rfl, for_str (fun i σ H' => (∃ c2 : Option V, σ = [some (.str z), some (.str g), c2]) ∧ H' = H ∧ (z.cps.toList.take i).all (sg g) = true) ⟨⟨_, rfl⟩, rfl, rfl⟩ (fun i c σ H' e h => ?_) (fun σ H' h => ?_)⟩
  · obtain ⟨⟨c2, rfl⟩, e0, ha⟩ := h
    rw [e0]
    refine ⟨_, rfl, _, rfl, _, _, rfl, rfl, _, rfl, ?_⟩
    refine ite2 (fun d => ?_) (fun d => ?_)
    · have z2 : allIn z g = false := all_no e (not_sg d)
      rw [z2] at q; exact q
    · exact ⟨⟨_, rfl⟩, rfl, all_succ e (is_sg d) ha⟩
  · obtain ⟨⟨c2, rfl⟩, e0, ha⟩ := h
    rw [e0]
    rw [all_done ha] at q; exact q
theorem ok_number_text (F : Fun K "number_text" "number_text" s_number_text f fd) (bl : Bl K mg cWay cFirst cOnly cLike cLow cHigh cSum cDomain cNumbers cWords cTable)  : FnOk P w K mg base CX0 1 f fd ["number"] (sp_number_text K cWay cFirst cOnly cLike cLow cHigh cSum cDomain cNumbers cWords cTable) := by
  refine F.ok sc_number_text (fun vs H Q E h => ?_) (fun cdv A outer s H vs Q E hr h => ?_)
  · obtain ⟨c, rfl, hc, q⟩ := h
    rfl
  obtain ⟨c, rfl, hc, q⟩ := h
  refine ⟨_, (pss_one (ps_ret (pe_callTy call_str_int rfl bl.str_ PyProof.Rows.boot_str (pa_cons (pv 0) pa_nil)))), ?_⟩
  exact ⟨_, rfl, c, rfl, log_sm hc, q⟩
theorem ok_is_whole (F : Fun K "is_whole" "is_whole" s_is_whole f fd) (bl : Bl K mg cWay cFirst cOnly cLike cLow cHigh cSum cDomain cNumbers cWords cTable)  : FnOk P w K mg base CX0 1 f fd ["value"] (sp_is_whole K cWay cFirst cOnly cLike cLow cHigh cSum cDomain cNumbers cWords cTable) := by
  refine F.ok sc_is_whole (fun vs H Q E h => ?_) (fun cdv A outer s H vs Q E hr h => ?_)
  · obtain ⟨i, rfl, q⟩ := h
    rfl
  obtain ⟨i, rfl, q⟩ := h
  refine ⟨_, (pss_one (ps_ret (pe_and (pe_callB call_isiG rfl bl.isinstance_ PyProof.Rows.boot_isinstance (pa_cons (pv 0) (pa_cons (pe_bltn (v := .ty "int") rfl bl.int_ PyProof.Rows.boot_int rfl) pa_nil))) (pe_one (pe_not (pe_callB call_isiG rfl bl.isinstance_ PyProof.Rows.boot_isinstance (pa_cons (pv 0) (pa_cons (pe_bltn (v := .ty "bool") rfl bl.bool_ PyProof.Rows.boot_bool rfl) pa_nil)))))))), ?_⟩
  exact ⟨_, rfl, _, _, _, _, true, rfl, .ty _, .inl (.int _), (by first | rfl | with_unfolding_all rfl | decide +kernel), _, rfl, iteT ⟨_, rfl, _, _, _, _, false, rfl, .ty _, .inl (.int _), (by first | rfl | with_unfolding_all rfl | decide +kernel), _, rfl, q⟩⟩
theorem ok_words_of (F : Fun K "words_of" "words_of" s_words_of f fd) (bl : Bl K mg cWay cFirst cOnly cLike cLow cHigh cSum cDomain cNumbers cWords cTable)  : FnOk P w K mg base CX0 1 f fd ["domain", "spans"] (sp_words_of K cWay cFirst cOnly cLike cLow cHigh cSum cDomain cNumbers cWords cTable) := by
  refine F.ok sc_words_of (fun vs H Q E h => ?_) (fun cdv A outer s H vs Q E hr h => ?_)
  · obtain ⟨d, l, zs, ts, ps, rfl, ⟨dx, wl, ha, hwl⟩, h40, el, hP, h2, q⟩ := h
    rfl
  obtain ⟨d, l, zs, ts, ps, rfl, ⟨dx, wl, ha, hwl⟩, h40, el, hP, h2, q⟩ := h
  refine ⟨_, (pss_cons (ps_set (i := 2) sc_words_of.nd rfl (Or.inl rfl) (pe_lst pa_nil))
     (pss_cons (ps_for PassesOwn.never rfl (pi_list (pv 1)) (pg_tup rfl (pgs_cons (pg_name (i := 3) sc_words_of.nd rfl (Or.inl rfl)) (pgs_cons (pg_name (i := 4) sc_words_of.nd rfl (Or.inl rfl)) pgs_nil)))
     (pss_one (ps_expr (pe_bm PySem.F.plainAttrs_list PySem.F.slot_list_extend PySem.F.type_list_extend mt_extend (pv 2) (pa_cons (pe_slice sl_list (pe_fld (pv 0) rfl) (po_some (pv 3)) (po_some (pe_op op_add (pv 4) pe_int))) pa_nil)))))
     (pss_one (ps_ret (pv 2))))), ?_⟩
  have htl := hP.length
  refine ⟨(by show 0 ≤ sizeLine; decide), fun w hw => ?_⟩
  have s0 : Same H (upd H w (.lst [])) := same_new hw _
  have e0 : upd H w (.lst []) w = some (.lst []) := upd_same
  generalize upd H w (.lst []) = H0 at s0 e0 ⊢
  refine ⟨_, rfl, l, rfl, ⟨_, SqL.of (s0 _ _ el)⟩, for_list (xs := ts) (fun i σ H' => Same H H' ∧ ∃ c3 c4 : Option V, H' w = some (.lst (((ps.take i).map (cutW zs)).flatten.map V.str)) ∧ σ = [some (.ref d), some (.ref l), some (.ref w), c3, c4]) ⟨s0, _, _, e0, rfl⟩ (fun i σ H' _ h => SqL.of (h.1 _ _ el)) (fun i y σ H' e h => ?_) (fun σ H' h => ?_)⟩
  · obtain ⟨sm, c3, c4, ew, rfl⟩ := h
    obtain ⟨p, t, ep, rfl, et⟩ := hP.get e
    have hi : i < ps.length := (List.getElem?_eq_some_iff.mp ep).1
    have hcl := cutS_len zs (some p.1) (some (p.2 + 1))
    have hfl := cutW_len zs (ps.take i)
    rw [List.length_take] at hfl
    have hfl2 : (((ps.take i).map (cutW zs)).flatten).length ≤ 80 := Nat.le_trans hfl (Nat.le_trans (Nat.mul_le_mul (show min i ps.length ≤ 2 by omega) h40) (by decide))
    refine ⟨t, _, rfl, SqT.of (sm _ _ et), rfl, _, _, rfl, _, _, rfl, rfl, ?_⟩
    refine ⟨_, rfl, .inl ⟨rfl, _, SqL.of ew⟩, _, rfl, d, _, _, _, _, rfl, sm _ _ ha, bl.k_Words, bl.na_Words_words, rfl, _, rfl, _, rfl, _, rfl, _, _, rfl, rfl, _, rfl, wl, _, rfl, SqL.of (sm _ _ hwl), fun c hc => ?_⟩
    rw [cutS_map]
    have ec : upd H' c (.lst ((cutS zs (some p.1) (some (p.2 + 1))).map V.str)) c = some (.lst ((cutS zs (some p.1) (some (p.2 + 1))).map V.str)) := upd_same
    refine ⟨w, c, _, _, rfl, rfl, ret_r1 ew hc, ec, (by rw [List.length_map, List.length_map]; exact Nat.le_of_lt (small1000 (by omega))), (sm.trans (same_new hc _)).upd hw, _, _, ?_, rfl⟩
    rw [upd_same, take_snoc ep, List.map_append, List.flatten_append, List.map_append]
    simp [cutW]
  · obtain ⟨sm, c3, c4, ew, rfl⟩ := h
    rw [htl, List.take_length] at ew
    exact ⟨_, rfl, q w H' sm ew⟩
theorem ok_refuse_counts (F : Fun K "refuse_counts" "refuse_counts" s_refuse_counts f fd) (bl : Bl K mg cWay cFirst cOnly cLike cLow cHigh cSum cDomain cNumbers cWords cTable)  : FnOk P w K mg base CX0 1 f fd ["names", "rows"] (sp_refuse_counts K cWay cFirst cOnly cLike cLow cHigh cSum cDomain cNumbers cWords cTable) := by
  refine F.ok sc_refuse_counts (fun vs H Q E h => ?_) (fun cdv A outer s H vs Q E hr h => ?_)
  · obtain ⟨p, r, xs, ys, rfl, hP, hR, h1, h4, h200, q⟩ := h
    rfl
  obtain ⟨p, r, xs, ys, rfl, hP, hR, h1, h4, h200, q⟩ := h
  refine ⟨_, (pss_cons (ps_if (pt_not (pt_chain op_le op_le pe_int (pe_callB call_len_seq rfl bl.len_ PySem.boot_len (pa_cons (pv 0) pa_nil)) (pe_gl rfl bl.MOST_COLUMNS_)))
     (pss_one ps_never)
     pss_nil)
     (pss_one (ps_if (pt_cmpR op_gt (pe_callB call_len_seq rfl bl.len_ PySem.boot_len (pa_cons (pv 1) pa_nil)) (pe_gl rfl bl.MOST_ROWS_) (nomark _))
     (pss_one ps_never)
     pss_nil))), ?_⟩
  refine ⟨_, rfl, p, _, rfl, .inl (hP), _, _, rfl, rfl, _, rfl, iteTS (by omega) ?_⟩
  refine ⟨_, _, rfl, rfl, _, rfl, ?_⟩
  rw [decide_eq_true (show ((xs.length : Nat) : Int) ≤ 4 by omega)]
  refine iteF ?_
  exact ⟨_, rfl, r, _, rfl, .inl (hR), _, _, rfl, rfl, _, rfl, iteFS (by omega) q⟩
theorem ok_own_row (F : Fun K "own_row" "own_row" s_own_row f fd) (bl : Bl K mg cWay cFirst cOnly cLike cLow cHigh cSum cDomain cNumbers cWords cTable)  : FnOk P w K mg base CX0 1 f fd ["cells", "code"] (sp_own_row K cWay cFirst cOnly cLike cLow cHigh cSum cDomain cNumbers cWords cTable) := by
  refine F.ok sc_own_row (fun vs H Q E h => ?_) (fun cdv A outer s H vs Q E hr h => ?_)
  · obtain ⟨cl, xs, w_, rfl, hC, hcl, h100, q⟩ := h
    rfl
  obtain ⟨cl, xs, w_, rfl, hC, hcl, h100, q⟩ := h
  refine ⟨_, (pss_one (ps_ret (pe_tup (pa_cons (pe_comp (pi_list (pv 0)) (cmpOk_plain rfl (by decide +kernel) (by decide +kernel) (by decide +kernel) rfl) rfl (fun _ _ _ _ => pif_nil) (fun _ _ _ _ => (pe_callTy (call_list_ofK (K := K) rfl) rfl bl.list_ PyProof.Rows.boot_list (pa_cons (pv 0) pa_nil)))) (pa_cons (pv 1) pa_nil))))), ?_⟩
  refine ⟨_, rfl, cl, rfl, ⟨_, SqL.of hC⟩, comp_list (xs := xs) (fun D i zs H' => Same H H' ∧ H' D = some (.lst zs) ∧ CL (Fr H D) H' zs (w_.1.take i))
    (fun D hD => ⟨same_new hD _, upd_same, RefL.nil⟩) (fun D i zs H' hD _ h => SqL.of (h.1 _ _ hC)) (fun D i x zs H' hD e h => ?_) (fun D zs H' hD h => ?_)⟩
  · obtain ⟨sm, eD, hz⟩ := h
    obtain ⟨l, ps, rfl, ep, hl⟩ := RefL.get hcl e
    obtain ⟨_, ys, el, hp⟩ := hl.same sm
    have hi : i < xs.length := (List.getElem?_eq_some_iff.mp e).1
    have hlz : zs.length < sizeLine := by
      have h1 := hz.1
      rw [List.length_take] at h1
      exact small1000 (by omega)
    refine ⟨_, rfl, l, _, rfl, .inl (SqL.of el), fun l2 hl2 => ?_⟩
    have s2 := same_new hl2 (.lst ys)
    have e2 : upd H' l2 (.lst ys) l2 = some (.lst ys) := upd_same
    have eD2 := s2 _ _ eD
    generalize upd H' l2 (.lst ys) = H2 at s2 e2 eD2 ⊢
    have n2 : H l2 = none := sm.free hl2
    have nD : l2 ≠ D := fun z => by rw [z, eD] at hl2; cases hl2
    refine CYes.mk hi eD2 hlz ⟨(sm.trans s2).upd hD, upd_same, ?_⟩
    rw [take_snoc ep]
    exact CL.updN (RefL.snoc (hz.same s2) ⟨⟨n2, nD⟩, ys, e2, hp.mono s2.tups⟩) Fr.out eD2
  · obtain ⟨sm, eD, hz⟩ := h
    rw [hcl.1, List.take_length] at hz
    refine ⟨_, rfl, small2, fun r hr' => q r _ (sm.trans (same_new hr' _)) (sm.free hr') ⟨D, zs, upd_same, hD, same_new hr' _ _ _ eD, ?_⟩⟩
    exact (hz.same (same_new hr' _)).wk fun a h => h.1
theorem ok_law_at (F : Fun K "_law_at" "_law_at" s_law_at f fd) (bl : Bl K mg cWay cFirst cOnly cLike cLow cHigh cSum cDomain cNumbers cWords cTable)  : FnOk P w K mg base CX0 1 f fd ["script", "k"] (sp_law_at K cWay cFirst cOnly cLike cLow cHigh cSum cDomain cNumbers cWords cTable) := by
  refine F.ok sc_law_at (fun vs H Q E h => ?_) (fun cdv A outer s H vs Q E hr h => ?_)
  · obtain ⟨a, ns, k, rfl, hS, h0, q⟩ := h
    rfl
  obtain ⟨a, ns, k, rfl, hS, h0, q⟩ := h
  refine ⟨_, (pss_cons (ps_if (pt_cmpR op_lt (pv 1) (pe_callB call_len_seq rfl bl.len_ PySem.boot_len (pa_cons (pv 0) pa_nil)) (nomark _))
     (pss_one (ps_ret (pe_ix ix_list (pv 0) (pv 1) (fun _ _ => rfl))))
     pss_nil)
     (pss_one (ps_ret pe_int))), ?_⟩
  refine ⟨_, rfl, _, rfl, a, _, rfl, .inl hS, _, _, rfl, rfl, _, rfl, ?_⟩
  refine ite2 (fun c => ?_) (fun c => ?_)
  · have c' : k < (((ns.map V.int).length : Nat) : Int) := dec_t c
    rw [List.length_map] at c'
    have hk : k.toNat < ns.length := by omega
    have hv : atI (ns.map V.int) k = some (.int ns[k.toNat]) := by
      have z : atI (ns.map V.int) ((k.toNat : Nat) : Int) = some (.int ns[k.toNat]) := atI_nat (by rw [List.getElem?_map, List.getElem?_eq_getElem hk]; rfl)
      rw [show ((k.toNat : Nat) : Int) = k by omega] at z
      exact z
    exact ⟨_, rfl, _, rfl, a, _, _, _, rfl, rfl, hS, hv, q _⟩
  · exact q 0
theorem ok_law_words (F : Fun K "_law_words" "_law_words" s_law_words f fd) (bl : Bl K mg cWay cFirst cOnly cLike cLow cHigh cSum cDomain cNumbers cWords cTable)  : FnOk P w K mg base CX0 1 f fd ["cell", "count"] (sp_law_words K cWay cFirst cOnly cLike cLow cHigh cSum cDomain cNumbers cWords cTable) := by
  refine F.ok sc_law_words (fun vs H Q E h => ?_) (fun cdv A outer s H vs Q E hr h => ?_)
  · obtain ⟨c, n, rfl, h40, q⟩ := h
    rfl
  obtain ⟨c, n, rfl, h40, q⟩ := h
  refine ⟨_, (pss_cons (ps_set (i := 2) sc_law_words.nd rfl (Or.inr rfl) pe_str)
     (pss_cut (ps_set (i := 3) sc_law_words.nd rfl (Or.inr rfl) (pe_bm PySem.F.plainAttrs_str PySem.F.slot_str_join PySem.F.type_str_join mt_join pe_str (pa_cons (pe_comp (pi_range1 rfl bl.range_ (pa_cons (pe_op op_mod (pv 0) pe_int) pa_nil)) (cmpOk_free (N := ["j", "cell", "letters"]) (fr := [0, 2]) (cl := [("letters", s.heap.objs.size + 1 + 1), ("cell", s.heap.objs.size + 1)]) rfl rfl (by decide +kernel) (by decide +kernel) rfl (by decide +kernel) rfl rfl rfl (List.forall_mem_cons.mpr ⟨rfl, List.forall_mem_cons.mpr ⟨rfl, List.forall_mem_nil _⟩⟩) rfl) rfl (fun _ _ _ _ => pif_nil) (fun _ _ _ _ => (pe_ix ix_str (pv 2) (pe_op op_mod (pe_op op_fdiv (pv 1) (pe_op op_add (pe_op op_mul pe_int (pv 0)) pe_int)) pe_int) (fun _ _ => rfl)))) pa_nil)))
     (pss_cut (ps_set (i := 4) sc_law_words.nd rfl (Or.inr rfl) (pe_bm PySem.F.plainAttrs_str PySem.F.slot_str_join PySem.F.type_str_join mt_join pe_str (pa_cons (pe_comp (pi_range1 rfl bl.range_ (pa_cons (pe_op op_mod (pe_op op_fdiv (pv 0) pe_int) pe_int) pa_nil)) (cmpOk_free (N := ["j", "cell", "letters"]) (fr := [0, 2]) (cl := [("letters", s.heap.objs.size + 1 + 1), ("cell", s.heap.objs.size + 1)]) rfl rfl (by decide +kernel) (by decide +kernel) rfl (by decide +kernel) rfl rfl rfl (List.forall_mem_cons.mpr ⟨rfl, List.forall_mem_cons.mpr ⟨rfl, List.forall_mem_nil _⟩⟩) rfl) rfl (fun _ _ _ _ => pif_nil) (fun _ _ _ _ => (pe_ix ix_str (pv 2) (pe_op op_mod (pe_op op_fdiv (pv 1) (pe_op op_add (pe_op op_mul pe_int (pv 0)) pe_int)) pe_int) (fun _ _ => rfl)))) pa_nil)))
     (pss_one (ps_ret (pe_comp (pi_range1 rfl bl.range_ (pa_cons (pv 1) pa_nil)) (cmpOk_free (N := ["k", "cell", "letters", "head", "tail"]) (fr := [0, 2, 3, 4]) (cl := [("tail", s.heap.objs.size + 1 + 1 + 1 + 1), ("letters", s.heap.objs.size + 1 + 1), ("head", s.heap.objs.size + 1 + 1 + 1), ("cell", s.heap.objs.size + 1)]) rfl rfl (by decide +kernel) (by decide +kernel) rfl (by decide +kernel) rfl rfl rfl (List.forall_mem_cons.mpr ⟨rfl, List.forall_mem_cons.mpr ⟨rfl, List.forall_mem_cons.mpr ⟨rfl, List.forall_mem_cons.mpr ⟨rfl, List.forall_mem_nil _⟩⟩⟩⟩) rfl) rfl (fun _ _ _ _ => pif_nil) (fun _ _ _ _ => (pe_op op_add_str (pe_op op_add_str (pv 3) (pe_ix ix_str (pv 2) (pe_op op_mod (pe_op op_add (pe_op op_fdiv (pv 1) pe_int) (pe_op op_mul pe_int (pv 0))) pe_int) (fun _ _ => rfl))) (pv 4))))))))), ?_⟩
  have c0 := Int.emod_nonneg c (show (6 : Int) ≠ 0 by decide)
  have c1 := Int.emod_lt_of_pos c (show (0 : Int) < 6 by decide)
  have d0 := Int.emod_nonneg (c / 7) (show (6 : Int) ≠ 0 by decide)
  have d1 := Int.emod_lt_of_pos (c / 7) (show (0 : Int) < 6 by decide)
  refine ⟨fun σ' H' => Same H H' ∧ σ' = [some (.int c), some (.int (n : Int)), some (.str (Str.ofString "abcdefghijklmnopqrstuvwxyz")), some (.str ⟨(hcs c).toArray⟩), none], ?_, ?_⟩
  · refine ⟨rfl, _, rfl, _, _, rfl, rfl, (by show (0 : Int) < 6; decide), _, rfl, (by show -(2 ^ 62) ≤ c % 6; omega), (by show c % 6 < 2 ^ 62; omega), comp_range (fun D i zs H' => Same H H' ∧ H' D = some (.lst zs) ∧ zs = (((List.range i).map fun j : Nat => 97 + (c / (3 * (0 + (j : Int)) + 1) % 13).toNat).map fun x => (⟨#[x]⟩ : Str)).map V.str) (fun D hD => ⟨same_new hD _, upd_same, rfl⟩) (fun D i zs H' hD hi h => ?_) (fun D zs H' hD h => ?_)⟩
    · obtain ⟨sm, eD, rfl⟩ := h
      have a0 := Int.emod_nonneg (c / (3 * (0 + (i : Int)) + 1)) (show (13 : Int) ≠ 0 by decide)
      have a1 := Int.emod_lt_of_pos (c / (3 * (0 + (i : Int)) + 1)) (show (0 : Int) < 13 by decide)
      refine ⟨_, rfl, _, rfl, _, rfl, _, _, rfl, rfl, .inl ⟨by decide, by decide⟩, _, _, rfl, rfl, _, _, rfl, rfl, cdiv_small (by omega) (by omega), _, _, rfl, rfl, (by show (0 : Int) < 13; decide), _, _, _, rfl, rfl, (by decide), lets_at abc26 a0 (by omega), CYes.mk hi eD (small1000 (by simp; omega)) ⟨sm.upd hD, upd_same, ?_⟩⟩
      rw [List.range_succ, List.map_append, List.map_append, List.map_append]
      rfl
    · obtain ⟨sm, eD, rfl⟩ := h
      have el := hcs_len c
      have ec : ((List.range (c % 6).toNat).map fun j : Nat => 97 + (c / (3 * (0 + (j : Int)) + 1) % 13).toNat) = hcs c := rfl
      rw [ec] at eD
      refine ⟨_, D, _, rfl, rfl, SqL.of eD, (by decide +kernel), chars_ok _ el, sm, ?_⟩
      rw [join_chars]
      rfl
  rintro σ1 H1 ⟨s1, rfl⟩
  refine ⟨fun σ' H' => Same H1 H' ∧ σ' = [some (.int c), some (.int (n : Int)), some (.str (Str.ofString "abcdefghijklmnopqrstuvwxyz")), some (.str ⟨(hcs c).toArray⟩), some (.str ⟨(tcs c).toArray⟩)], ?_, ?_⟩
  · refine ⟨rfl, _, rfl, _, _, rfl, rfl, ⟨by decide, by decide⟩, _, _, rfl, rfl, (by show (0 : Int) < 6; decide), _, rfl, (by show -(2 ^ 62) ≤ c / 7 % 6; omega), (by show c / 7 % 6 < 2 ^ 62; omega), comp_range (fun D i zs H' => Same H1 H' ∧ H' D = some (.lst zs) ∧ zs = (((List.range i).map fun j : Nat => 97 + (c / (5 * (0 + (j : Int)) + 2) % 13).toNat).map fun x => (⟨#[x]⟩ : Str)).map V.str) (fun D hD => ⟨same_new hD _, upd_same, rfl⟩) (fun D i zs H' hD hi h => ?_) (fun D zs H' hD h => ?_)⟩
    · obtain ⟨sm, eD, rfl⟩ := h
      have a0 := Int.emod_nonneg (c / (5 * (0 + (i : Int)) + 2)) (show (13 : Int) ≠ 0 by decide)
      have a1 := Int.emod_lt_of_pos (c / (5 * (0 + (i : Int)) + 2)) (show (0 : Int) < 13 by decide)
      refine ⟨_, rfl, _, rfl, _, rfl, _, _, rfl, rfl, .inl ⟨by decide, by decide⟩, _, _, rfl, rfl, _, _, rfl, rfl, cdiv_small (by omega) (by omega), _, _, rfl, rfl, (by show (0 : Int) < 13; decide), _, _, _, rfl, rfl, (by decide), lets_at abc26 a0 (by omega), CYes.mk hi eD (small1000 (by simp; omega)) ⟨sm.upd hD, upd_same, ?_⟩⟩
      rw [List.range_succ, List.map_append, List.map_append, List.map_append]
      rfl
    · obtain ⟨sm, eD, rfl⟩ := h
      have el := tcs_len c
      have ec : ((List.range (c / 7 % 6).toNat).map fun j : Nat => 97 + (c / (5 * (0 + (j : Int)) + 2) % 13).toNat) = tcs c := rfl
      rw [ec] at eD
      refine ⟨_, D, _, rfl, rfl, SqL.of eD, (by decide +kernel), chars_ok _ el, sm, ?_⟩
      rw [join_chars]
      rfl
  rintro σ2 H2 ⟨s2, rfl⟩
  have s12 := s1.trans s2
  have n1 : (⟨(hcs c).toArray⟩ : Str).length ≤ 5 := by have := hcs_len c; simpa [Str.length] using this
  have n2 : (⟨(tcs c).toArray⟩ : Str).length ≤ 5 := by have := tcs_len c; simpa [Str.length] using this
  have o1 : ∀ x : Nat, (⟨#[x]⟩ : Str).length = 1 := fun _ => rfl
  refine ⟨_, rfl, _, rfl, (by omega), (by omega), comp_range (fun D i zs H' => Same H2 H' ∧ H' D = some (.lst zs) ∧ zs = (lws c i).map V.str) (fun D hD => ⟨same_new hD _, upd_same, rfl⟩) (fun D i zs H' hD hi h => ?_) (fun D zs H' hD h => ?_)⟩
  · obtain ⟨sm, eD, rfl⟩ := h
    have a0 := Int.emod_nonneg (c / 11 + 3 * (0 + (i : Int))) (show (26 : Int) ≠ 0 by decide)
    have a1 := Int.emod_lt_of_pos (c / 11 + 3 * (0 + (i : Int))) (show (0 : Int) < 26 by decide)
    have ew : (⟨(hcs c).toArray⟩ : Str) ++ (⟨#[97 + ((c / 11 + 3 * (0 + (i : Int))) % 26).toNat]⟩ : Str) ++ (⟨(tcs c).toArray⟩ : Str) = lw c (0 + (i : Int)) := by
      show Str.append (Str.append _ _) _ = _
      unfold Str.append lw lwc
      simp
    refine ⟨_, rfl, _, rfl, _, rfl, _, _, rfl, rfl, ⟨by decide, by decide⟩, _, rfl, _, _, rfl, rfl, .inl ⟨by decide, by decide⟩, _, _, rfl, rfl, _, _, rfl, rfl, (by show (0 : Int) < 26; decide), _, _, _, rfl, rfl, (by decide), lets_at abc26 a0 a1, _, _, rfl, rfl, big (by rw [o1]; omega), _, rfl, _, _, rfl, rfl, big (by rw [len_ap, o1]; omega), ?_⟩
    rw [ew]
    refine CYes.mk hi eD (small1000 (by rw [List.length_map, lws_len]; omega)) ⟨sm.upd hD, upd_same, ?_⟩
    rw [lws_succ, List.map_append]
    rfl
  · obtain ⟨sm, eD, rfl⟩ := h
    rw [Int.toNat_natCast] at eD
    exact q D H' (s12.trans sm) (s12.free hD) eD
theorem ok_law_pool (F : Fun K "_law_pool" "_law_pool" s_law_pool f fd) (bl : Bl K mg cWay cFirst cOnly cLike cLow cHigh cSum cDomain cNumbers cWords cTable)  : FnOk P w K mg base CX0 1 f fd ["domain", "cell"] (sp_law_pool K cWay cFirst cOnly cLike cLow cHigh cSum cDomain cNumbers cWords cTable) := by
  refine F.ok sc_law_pool (fun vs H Q E h => ?_) (fun cdv A outer s H vs Q E hr h => ?_)
  · obtain ⟨r, p, c, rfl, ⟨wl, _, _, er, ewl⟩, ok, q⟩ := h
    rfl
  obtain ⟨r, p, c, rfl, ⟨wl, _, _, er, ewl⟩, ok, q⟩ := h
  refine ⟨_, (pss_cons (ps_set (i := 2) sc_law_pool.nd rfl (Or.inr rfl) (pe_op op_add (pe_op op_sub (pe_ix ix_tup (pv 0) pe_int (fun _ _ => rfl)) (pe_ix ix_tup (pv 0) pe_int (fun _ _ => rfl))) pe_int))
     (pss_one (ps_ret (pe_comp (pi_range1 rfl bl.range_ (pa_cons pe_int pa_nil)) (cmpOk_free (N := ["j", "domain", "cell", "width"]) (fr := [0, 1, 2]) (cl := [("width", s.heap.objs.size + 1 + 1 + 1), ("domain", s.heap.objs.size + 1), ("cell", s.heap.objs.size + 1 + 1)]) rfl rfl (by decide +kernel) (by decide +kernel) rfl (by decide +kernel) rfl rfl rfl (List.forall_mem_cons.mpr ⟨rfl, List.forall_mem_cons.mpr ⟨rfl, List.forall_mem_cons.mpr ⟨rfl, List.forall_mem_nil _⟩⟩⟩) rfl) rfl (fun _ _ _ _ => pif_nil) (fun _ _ _ _ => (pe_op op_add (pe_ix (ix_tupK (K := K) rfl) (pv 1) pe_int (fun _ _ => rfl)) (pe_op op_mod (pe_op op_add (pe_op op_fdiv (pv 2) (pe_op op_add (pe_op op_mul pe_int (pv 0)) pe_int)) (pe_op op_mul (pv 0) (pv 2))) (pv 3)))))))), ?_⟩
  have hle := ok.le
  refine ⟨_, rfl, r, _, _, _, rfl, rfl, SqT.of er, rfl, _, rfl, r, _, _, _, rfl, rfl, SqT.of er, rfl, _, _, rfl, rfl, _, _, rfl, rfl, ?_⟩
  have hw : 0 < p.hi - p.lo + 1 := by omega
  refine ⟨_, rfl, (by decide), (by decide), comp_range (fun D i zs H' => Same H H' ∧ H' D = some (.lst zs) ∧ ∃ xs : List Int, zs = xs.map V.int ∧ xs.length = i ∧ ∀ x ∈ xs, p.lo ≤ x ∧ x ≤ p.hi) (fun D hD => ⟨same_new hD _, upd_same, [], rfl, rfl, (fun x hx => by cases hx)⟩) (fun D i zs H' hD hi h => ?_) (fun D zs H' hD h => ?_)⟩
  · obtain ⟨sm, eD, xs, rfl, hl, hx⟩ := h
    have hi3 : i < 3 := hi
    have a0 := Int.emod_nonneg (c / (3 * (0 + (i : Int)) + 1) + (0 + (i : Int)) * c) (Int.ne_of_gt hw)
    have a1 := Int.emod_lt_of_pos (c / (3 * (0 + (i : Int)) + 1) + (0 + (i : Int)) * c) hw
    refine ⟨_, rfl, r, _, _, _, rfl, rfl, SqT.of (sm _ _ er), rfl, _, rfl, _, rfl, _, _, rfl, rfl, .inl ⟨by decide, by decide⟩, _, _, rfl, rfl, _, _, rfl, rfl, cdiv_small (by omega) (by omega), _, rfl, _, rfl, _, _, rfl, rfl, .inl ⟨by omega, by omega⟩, _, _, rfl, rfl, _, rfl, _, _, rfl, rfl, hw, _, _, rfl, rfl, CYes.mk hi eD (small1000 (by rw [List.length_map]; omega)) ⟨sm.upd hD, upd_same, xs ++ [_], by rw [List.map_append]; rfl, by rw [List.length_append, hl]; rfl, fun x hx' => ?_⟩⟩
    rcases List.mem_append.mp hx' with hx' | hx'
    · exact hx x hx'
    · have e : x = p.lo + (c / (3 * (0 + (i : Int)) + 1) + (0 + (i : Int)) * c) % (p.hi - p.lo + 1) := by simpa using hx'
      generalize (c / (3 * (0 + (i : Int)) + 1) + (0 + (i : Int)) * c) % (p.hi - p.lo + 1) = m at a0 a1 e
      omega
  · obtain ⟨sm, eD, xs, rfl, hl, hx⟩ := h
    exact q D xs H' sm hD eD hl hx
theorem ok_law_spans (F : Fun K "_law_spans" "_law_spans" s_law_spans f fd) (bl : Bl K mg cWay cFirst cOnly cLike cLow cHigh cSum cDomain cNumbers cWords cTable)  : FnOk P w K mg base CX0 1 f fd ["kind", "one", "two", "domain"] (sp_law_spans K cWay cFirst cOnly cLike cLow cHigh cSum cDomain cNumbers cWords cTable) := by
  refine F.ok sc_law_spans (fun vs H Q E h => ?_) (fun cdv A outer s H vs Q E hr h => ?_)
  · obtain ⟨kd, one, two, r, p, rfl, ⟨wl, _, _, er, ewl⟩, h1, h2, h3, q⟩ := h
    rfl
  obtain ⟨kd, one, two, r, p, rfl, ⟨wl, _, _, er, ewl⟩, h1, h2, h3, q⟩ := h
  refine ⟨_, (pss_cut (ps_set (i := 4) sc_law_spans.nd rfl (Or.inl rfl) (pe_lst (pa_cons (pe_tup (pa_cons (pe_ix ix_tup (pv 3) pe_int (fun _ _ => rfl)) (pa_cons (pe_ix ix_tup (pv 3) pe_int (fun _ _ => rfl)) pa_nil))) pa_nil)))
     (pss_cut (ps_if (pt_cmpR op_eq (pv 0) pe_int (nomark _))
     (pss_one (ps_set (i := 4) sc_law_spans.nd rfl (Or.inl rfl) (pe_lst (pa_cons (pe_tup (pa_cons (pv 1) (pa_cons (pv 2) pa_nil))) pa_nil))))
     pss_nil)
     (pss_cut (ps_if (pt_cmpR op_eq (pv 0) pe_int (nomark _))
     (pss_one (ps_set (i := 4) sc_law_spans.nd rfl (Or.inl rfl) (pe_lst (pa_cons (pe_tup (pa_cons (pv 1) (pa_cons (pv 1) pa_nil))) pa_nil))))
     pss_nil)
     (pss_cut (ps_if (pt_cmpR op_eq (pv 0) pe_int (nomark _))
     (pss_one (ps_set (i := 4) sc_law_spans.nd rfl (Or.inl rfl) (pe_lst (pa_cons (pe_tup (pa_cons (pe_ix ix_tup (pv 3) pe_int (fun _ _ => rfl)) (pa_cons (pe_op op_sub (pv 1) pe_int) pa_nil))) (pa_cons (pe_tup (pa_cons (pe_op op_add (pv 2) pe_int) (pa_cons (pe_ix ix_tup (pv 3) pe_int (fun _ _ => rfl)) pa_nil))) pa_nil)))))
     pss_nil)
     (pss_cut (ps_if (pt_cmpR op_eq (pv 0) pe_int (nomark _))
     (pss_one (ps_set (i := 4) sc_law_spans.nd rfl (Or.inl rfl) (pe_lst (pa_cons (pe_tup (pa_cons (pv 1) (pa_cons (pv 1) pa_nil))) (pa_cons (pe_tup (pa_cons (pv 2) (pa_cons (pv 2) pa_nil))) pa_nil)))))
     pss_nil)
     (pss_cut (ps_if (PW.pt (pw_and (pt_cmpR op_eq (pv 0) pe_int (nomark _)) (pw_and1 (pt_cmpR op_le (pv 2) (pe_op op_add (pv 1) pe_int) (nomark _)))))
     (pss_one (ps_set (i := 4) sc_law_spans.nd rfl (Or.inl rfl) (pe_lst (pa_cons (pe_tup (pa_cons (pv 1) (pa_cons (pv 2) pa_nil))) pa_nil))))
     pss_nil)
     (pss_cut (ps_if (pt_cmpR op_eq (pv 0) pe_int (nomark _))
     (pss_one (ps_set (i := 4) sc_law_spans.nd rfl (Or.inl rfl) (pe_lst pa_nil)))
     pss_nil)
     (pss_one (ps_ret (pe_comp (pi_list (pv 4)) (cmpOk_plain rfl (by decide +kernel) (by decide +kernel) (by decide +kernel) rfl) rfl (fun _ _ _ _ => (pif_one (pt_cmpR op_le (pe_ix (ix_tupK (K := K) rfl) (pv 0) pe_int (fun _ _ => rfl)) (pe_ix (ix_tupK (K := K) rfl) (pv 0) pe_int (fun _ _ => rfl)) (nomark _)))) (fun _ _ _ _ => (pv 0)))))))))))), ?_⟩
  refine ⟨fun σ' H' => ∃ pl, SPI p H H' pl ∧ σ' = [some (.int kd), some (.int one), some (.int two), some (.ref r), some (.ref pl)], ⟨_, rfl, r, _, _, _, rfl, rfl, SqT.of er, rfl, _, rfl, r, _, _, _, rfl, rfl, SqT.of er, rfl, small2, fun t ht => ⟨(by show 1 ≤ sizeLine; decide), fun l hl => ⟨l, SPI.one (Same.refl H) (pl1 ht hl) (Int.le_refl _) (Int.le_refl _), rfl⟩⟩⟩, ?_⟩
  rintro σ1 H1 ⟨pl, hs, rfl⟩
  refine ⟨fun σ' H' => ∃ pl, SPI p H H' pl ∧ σ' = [some (.int kd), some (.int one), some (.int two), some (.ref r), some (.ref pl)], ?_, ?_⟩
  · refine ⟨_, rfl, rfl, _, rfl, ite2 (fun _ => ?_) (fun _ => ⟨pl, hs, rfl⟩)⟩
    have s1 := hs.1
    exact ⟨_, rfl, _, rfl, small2, fun t ht => ⟨(by show 1 ≤ sizeLine; decide), fun l hl => ⟨l, SPI.one s1 (pl1 ht hl) (by omega) (by omega), rfl⟩⟩⟩
  clear hs pl
  rintro σ2 H2 ⟨pl, hs, rfl⟩
  refine ⟨fun σ' H' => ∃ pl, SPI p H H' pl ∧ σ' = [some (.int kd), some (.int one), some (.int two), some (.ref r), some (.ref pl)], ?_, ?_⟩
  · refine ⟨_, rfl, rfl, _, rfl, ite2 (fun _ => ?_) (fun _ => ⟨pl, hs, rfl⟩)⟩
    have s1 := hs.1
    exact ⟨_, rfl, _, rfl, small2, fun t ht => ⟨(by show 1 ≤ sizeLine; decide), fun l hl => ⟨l, SPI.one s1 (pl1 ht hl) (by omega) (by omega), rfl⟩⟩⟩
  clear hs pl
  rintro σ3 H3 ⟨pl, hs, rfl⟩
  refine ⟨fun σ' H' => ∃ pl, SPI p H H' pl ∧ σ' = [some (.int kd), some (.int one), some (.int two), some (.ref r), some (.ref pl)], ?_, ?_⟩
  · refine ⟨_, rfl, rfl, _, rfl, ite2 (fun _ => ?_) (fun _ => ⟨pl, hs, rfl⟩)⟩
    have s1 := hs.1
    refine ⟨_, rfl, r, _, _, _, rfl, rfl, SqT.of (s1 _ _ er), rfl, _, rfl, _, _, rfl, rfl, small2, fun t ht => ⟨_, rfl, _, _, rfl, rfl, _, rfl, r, _, _, _, rfl, rfl, SqT.of (((s1.trans (same_new ht _)) _ _ er)), rfl, small2, fun u hu => ⟨(by show 2 ≤ sizeLine; decide), fun l hl => ⟨l, SPI.two s1 (pl2 ht hu hl) (Int.le_refl _) (by omega) (by omega) (Int.le_refl _), rfl⟩⟩⟩⟩
  clear hs pl
  rintro σ4 H4 ⟨pl, hs, rfl⟩
  refine ⟨fun σ' H' => ∃ pl, SPI p H H' pl ∧ σ' = [some (.int kd), some (.int one), some (.int two), some (.ref r), some (.ref pl)], ?_, ?_⟩
  · refine ⟨_, rfl, rfl, _, rfl, ite2 (fun _ => ?_) (fun _ => ⟨pl, hs, rfl⟩)⟩
    have s1 := hs.1
    refine ⟨_, rfl, _, rfl, small2, fun t ht => ⟨_, rfl, _, rfl, small2, fun u hu => ⟨(by show 2 ≤ sizeLine; decide), fun l hl => ⟨l, SPI.two s1 (pl2 ht hu hl) h1 (by omega) (by omega) h3, rfl⟩⟩⟩⟩
  clear hs pl
  rintro σ5 H5 ⟨pl, hs, rfl⟩
  refine ⟨fun σ' H' => ∃ pl, SPI p H H' pl ∧ σ' = [some (.int kd), some (.int one), some (.int two), some (.ref r), some (.ref pl)], ?_, ?_⟩
  · refine ⟨_, rfl, rfl, _, rfl, ite2 (fun _ => ?_) (fun _ => ?_)⟩
    · refine ⟨_, rfl, _, rfl, _, _, rfl, rfl, _, _, rfl, rfl, _, rfl, ite2 (fun _ => ?_) (fun _ => ⟨pl, hs, rfl⟩)⟩
      have s1 := hs.1
      exact ⟨_, rfl, _, rfl, small2, fun t ht => ⟨(by show 1 ≤ sizeLine; decide), fun l hl => ⟨l, SPI.one s1 (pl1 ht hl) h1 h3, rfl⟩⟩⟩
    · exact ⟨pl, hs, rfl⟩
  clear hs pl
  rintro σ6 H6 ⟨pl, hs, rfl⟩
  refine ⟨fun σ' H' => ∃ pl, SPI p H H' pl ∧ σ' = [some (.int kd), some (.int one), some (.int two), some (.ref r), some (.ref pl)], ?_, ?_⟩
  · refine ⟨_, rfl, rfl, _, rfl, ite2 (fun _ => ?_) (fun _ => ⟨pl, hs, rfl⟩)⟩
    have s1 := hs.1
    exact ⟨(by show 0 ≤ sizeLine; decide), fun l hl => ⟨l, ⟨s1.trans (same_new hl _), [], [], upd_same, .nil, (fun x hx => by cases hx), by simp⟩, rfl⟩⟩
  clear hs pl
  rintro σ7 H7 ⟨pl, hs, rfl⟩
  obtain ⟨s7, ts, ps, epl, hP, hb, hl2⟩ := hs
  have htl := hP.length
  refine ⟨_, rfl, pl, rfl, ⟨_, SqL.of epl⟩, comp_list (xs := ts) (fun D i zs H' => Same H7 H' ∧ H' D = some (.lst zs) ∧ ∃ ps' : Prs, PL H' zs ps' ∧ (∀ x ∈ ps', p.lo ≤ x.1 ∧ x.1 ≤ x.2 ∧ x.2 ≤ p.hi) ∧ ps'.length ≤ i) (fun D hD => ⟨same_new hD _, upd_same, [], .nil, (fun x hx => by cases hx), Nat.zero_le _⟩) (fun D i zs H' hD _ h => SqL.of (h.1 _ _ epl)) (fun D i y zs H' hD e h => ?_) (fun D zs H' hD h => ?_)⟩
  · obtain ⟨sm, eD, ps', hP', hb', hl'⟩ := h
    obtain ⟨x, t, ex, rfl, et⟩ := hP.get e
    have hi : i < ts.length := (List.getElem?_eq_some_iff.mp e).1
    have et' := sm _ _ et
    refine ⟨_, rfl, t, _, _, _, rfl, rfl, SqT.of et', rfl, _, rfl, t, _, _, _, rfl, rfl, SqT.of et', rfl, _, _, rfl, rfl, _, rfl, ?_⟩
    refine ite2 (fun g => ?_) (fun g => ?_)
    · have g' : x.1 ≤ x.2 := dec_t g
      have st : SameT H' (upd H' D (.lst (zs ++ [.ref t]))) := sameT_lst eD
      refine ⟨_, rfl, CYes.mk hi eD (small1000 (by have := hP'.length; omega)) ⟨sm.upd hD, upd_same, ps' ++ [x], (hP'.mono st).snoc (st _ _ et'), fun y hy => ?_, by rw [List.length_append, List.length_singleton]; omega⟩⟩
      rcases List.mem_append.mp hy with hy | hy
      · exact hb' y hy
      · rw [show y = x by simpa using hy]
        have := hb x (List.mem_of_getElem? ex)
        omega
    · exact CNext.mk (zs := zs) hi ⟨sm, eD, ps', hP', hb', by omega⟩
  · obtain ⟨sm, eD, ps', hP', hb', hl'⟩ := h
    have s := s7.trans sm
    exact q D ps' H' s ⟨s7.free hD, zs, eD, hP'⟩ hb' (by omega)
theorem ok_law_domain_text (F : Fun K "_law_domain_text" "_law_domain_text" s_law_domain_text f fd) (bl : Bl K mg cWay cFirst cOnly cLike cLow cHigh cSum cDomain cNumbers cWords cTable)  : FnOk P w K mg base CX0 1 f fd ["domain"] (sp_law_domain_text K cWay cFirst cOnly cLike cLow cHigh cSum cDomain cNumbers cWords cTable) := by
  refine F.ok sc_law_domain_text (fun vs H Q E h => ?_) (fun cdv A outer s H vs Q E hr h => ?_)
  · obtain ⟨r, p, rfl, ⟨wl, _, _, er, ewl⟩, ok, q⟩ := h
    rfl
  obtain ⟨r, p, rfl, ⟨wl, _, _, er, ewl⟩, ok, q⟩ := h
  refine ⟨_, (pss_cons (ps_if (pt_cmpR op_gt (pe_callB call_len_seq rfl bl.len_ PySem.boot_len (pa_cons (pe_ix ix_tup (pv 0) pe_int (fun _ _ => rfl)) pa_nil)) pe_int (nomark _))
     (pss_one (ps_ret (pe_bm PySem.F.plainAttrs_str PySem.F.slot_str_join PySem.F.type_str_join mt_join pe_str (pa_cons (pe_ix ix_tup (pv 0) pe_int (fun _ _ => rfl)) pa_nil))))
     pss_nil)
     (pss_one (ps_ret (pe_op op_add_str (pe_op op_add_str (pe_callTy call_str_int rfl bl.str_ PyProof.Rows.boot_str (pa_cons (pe_ix ix_tup (pv 0) pe_int (fun _ _ => rfl)) pa_nil)) pe_str) (pe_callTy call_str_int rfl bl.str_ PyProof.Rows.boot_str (pa_cons (pe_ix ix_tup (pv 0) pe_int (fun _ _ => rfl)) pa_nil)))))), ?_⟩
  have hlm : (p.ws.map V.str).length = p.ws.length := List.length_map _
  refine ⟨_, rfl, r, _, _, _, rfl, rfl, SqT.of er, rfl, wl, _, rfl, .inl (SqL.of ewl), _, _, rfl, rfl, _, rfl, ?_⟩
  refine ite2 (fun g => ?_) (fun g => ?_)
  · have hne : p.ws ≠ [] := fun z => by
      have := of_decide_eq_true g
      rw [z] at this
      exact absurd this (by decide)
    obtain ⟨hg, h0, h1⟩ := ok.wd hne
    rw [PD.k_some hne] at q
    exact ⟨rfl, _, rfl, r, _, _, _, rfl, rfl, SqT.of er, rfl, _, wl, _, rfl, rfl, SqL.of ewl, (by decide +kernel), join_ok (m := 12) (n := 40) (fun z hz => isw_len (hg.words z hz)) hg.few (by decide), q⟩
  · have he : p.ws = [] := by
      have : ¬ ((0 : Int) < (((p.ws.map V.str).length : Nat) : Int)) := fun h => g (decide_eq_true h)
      rw [hlm] at this
      exact List.length_eq_zero_iff.mp (by omega)
    have b1 : bnd p.lo := ok.b1
    have b2 : bnd p.hi := ok.b2
    rw [PD.k_none he] at q
    have l1 := len_num b1
    have l2 := len_num b2
    exact ⟨_, rfl, r, _, _, _, rfl, rfl, SqT.of er, rfl, p.lo, rfl, log_sm b1, _, _, rfl, rfl, big (by rw [dots2]; omega), _, rfl, r, _, _, _, rfl, rfl, SqT.of er, rfl, p.hi, rfl, log_sm b2, _, _, rfl, rfl, big (by rw [len_ap, dots2]; omega), q⟩
theorem ok_law_part_text (F : Fun K "_law_part_text" "_law_part_text" s_law_part_text f fd) (bl : Bl K mg cWay cFirst cOnly cLike cLow cHigh cSum cDomain cNumbers cWords cTable)  : FnOk P w K mg base CX0 1 f fd ["domain", "pair"] (sp_law_part_text K cWay cFirst cOnly cLike cLow cHigh cSum cDomain cNumbers cWords cTable) := by
  refine F.ok sc_law_part_text (fun vs H Q E h => ?_) (fun cdv A outer s H vs Q E hr h => ?_)
  · obtain ⟨r, t, p, x, rfl, ⟨wl, _, _, er, ewl⟩, ok, et, okx, q⟩ := h
    rfl
  obtain ⟨r, t, p, x, rfl, ⟨wl, _, _, er, ewl⟩, ok, et, okx, q⟩ := h
  refine ⟨_, (pss_cons (ps_if (pt_cmpR op_gt (pe_callB call_len_seq rfl bl.len_ PySem.boot_len (pa_cons (pe_ix ix_tup (pv 0) pe_int (fun _ _ => rfl)) pa_nil)) pe_int (nomark _))
     (pss_one (ps_ret (pe_bm PySem.F.plainAttrs_str PySem.F.slot_str_join PySem.F.type_str_join mt_join pe_str (pa_cons (pe_slice sl_list (pe_ix ix_tup (pv 0) pe_int (fun _ _ => rfl)) (po_some (pe_ix ix_tup (pv 1) pe_int (fun _ _ => rfl))) (po_some (pe_op op_add (pe_ix ix_tup (pv 1) pe_int (fun _ _ => rfl)) pe_int))) pa_nil))))
     pss_nil)
     (pss_cons (ps_if (pt_cmpR op_eq (pe_ix ix_tup (pv 1) pe_int (fun _ _ => rfl)) (pe_ix ix_tup (pv 1) pe_int (fun _ _ => rfl)) (nomark _))
     (pss_one (ps_ret (pe_callTy call_str_int rfl bl.str_ PyProof.Rows.boot_str (pa_cons (pe_ix ix_tup (pv 1) pe_int (fun _ _ => rfl)) pa_nil))))
     pss_nil)
     (pss_cons (ps_if (pt_cmpR op_eq (pe_ix ix_tup (pv 1) pe_int (fun _ _ => rfl)) (pe_ix ix_tup (pv 0) pe_int (fun _ _ => rfl)) (nomark _))
     (pss_one (ps_ret (pe_op op_add_str pe_str (pe_callTy call_str_int rfl bl.str_ PyProof.Rows.boot_str (pa_cons (pe_ix ix_tup (pv 1) pe_int (fun _ _ => rfl)) pa_nil)))))
     pss_nil)
     (pss_cons (ps_if (pt_cmpR op_eq (pe_ix ix_tup (pv 1) pe_int (fun _ _ => rfl)) (pe_ix ix_tup (pv 0) pe_int (fun _ _ => rfl)) (nomark _))
     (pss_one (ps_ret (pe_op op_add_str (pe_callTy call_str_int rfl bl.str_ PyProof.Rows.boot_str (pa_cons (pe_ix ix_tup (pv 1) pe_int (fun _ _ => rfl)) pa_nil)) pe_str)))
     pss_nil)
     (pss_one (ps_ret (pe_op op_add_str (pe_op op_add_str (pe_callTy call_str_int rfl bl.str_ PyProof.Rows.boot_str (pa_cons (pe_ix ix_tup (pv 1) pe_int (fun _ _ => rfl)) pa_nil)) pe_str) (pe_callTy call_str_int rfl bl.str_ PyProof.Rows.boot_str (pa_cons (pe_ix ix_tup (pv 1) pe_int (fun _ _ => rfl)) pa_nil))))))))), ?_⟩
  have hlm : (p.ws.map V.str).length = p.ws.length := List.length_map _
  have l1 := len_num okx.b1
  have l2 := len_num okx.b2
  refine ⟨_, rfl, r, _, _, _, rfl, rfl, SqT.of er, rfl, wl, _, rfl, .inl (SqL.of ewl), _, _, rfl, rfl, _, rfl, ?_⟩
  refine ite2 (fun g => ?_) (fun g => ?_)
  · have hne : p.ws ≠ [] := fun z => by
      have := of_decide_eq_true g
      rw [z] at this
      exact absurd this (by decide)
    obtain ⟨hg, h0, h1⟩ := ok.wd hne
    refine ⟨rfl, _, rfl, r, _, _, _, rfl, rfl, SqT.of er, rfl, _, rfl, t, _, _, _, rfl, rfl, SqT.of et, rfl, _, rfl, _, rfl, t, _, _, _, rfl, rfl, SqT.of et, rfl, _, _, rfl, rfl, _, rfl, wl, _, rfl, SqL.of ewl, fun c hc => ?_⟩
    rw [cutS_map]
    have hcl := cutS_len p.ws (some x.1) (some (x.2 + 1))
    have := q _ (same_new hc (.lst ((cutS p.ws (some x.1) (some (x.2 + 1))).map V.str)))
    rw [PD.k_some hne] at this
    exact ⟨_, c, _, rfl, rfl, SqL.of upd_same, (by decide +kernel), join_ok (m := 12) (n := 40) (fun z hz => isw_len (hg.words z (cutS_mem hz))) (Nat.le_trans hcl hg.few) (by decide), this⟩
  · have he : p.ws = [] := by
      have : ¬ ((0 : Int) < (((p.ws.map V.str).length : Nat) : Int)) := fun h => g (decide_eq_true h)
      rw [hlm] at this
      exact List.length_eq_zero_iff.mp (by omega)
    have q := q H (Same.refl H)
    rw [PD.k_none he] at q
    have q : Q (.str (shN p.lo p.hi x)) H := q
    unfold shN at q
    refine ⟨_, rfl, t, _, _, _, rfl, rfl, SqT.of et, rfl, _, rfl, t, _, _, _, rfl, rfl, SqT.of et, rfl, rfl, _, rfl, ?_⟩
    refine ite2 (fun g => ?_) (fun g => ?_)
    · rw [if_pos (dec_int_t g)] at q
      exact ⟨_, rfl, t, _, _, _, rfl, rfl, SqT.of et, rfl, x.1, rfl, log_sm okx.b1, q⟩
    rw [if_neg (dec_int_f g)] at q
    refine ⟨_, rfl, t, _, _, _, rfl, rfl, SqT.of et, rfl, _, rfl, r, _, _, _, rfl, rfl, SqT.of er, rfl, rfl, _, rfl, ?_⟩
    refine ite2 (fun g => ?_) (fun g => ?_)
    · rw [if_pos (dec_int_t g)] at q
      exact ⟨_, rfl, t, _, _, _, rfl, rfl, SqT.of et, rfl, x.2, rfl, log_sm okx.b2, _, _, rfl, rfl, big (by rw [dots2]; omega), q⟩
    rw [if_neg (dec_int_f g)] at q
    refine ⟨_, rfl, t, _, _, _, rfl, rfl, SqT.of et, rfl, _, rfl, r, _, _, _, rfl, rfl, SqT.of er, rfl, rfl, _, rfl, ?_⟩
    refine ite2 (fun g => ?_) (fun g => ?_)
    · rw [if_pos (dec_int_t g)] at q
      exact ⟨_, rfl, t, _, _, _, rfl, rfl, SqT.of et, rfl, x.1, rfl, log_sm okx.b1, _, _, rfl, rfl, big (by rw [dots2]; omega), q⟩
    rw [if_neg (dec_int_f g)] at q
    exact ⟨_, rfl, t, _, _, _, rfl, rfl, SqT.of et, rfl, x.1, rfl, log_sm okx.b1, _, _, rfl, rfl, big (by rw [dots2]; omega), _, rfl, t, _, _, _, rfl, rfl, SqT.of et, rfl, x.2, rfl, log_sm okx.b2, _, _, rfl, rfl, big (by rw [len_ap, dots2]; omega), q⟩
theorem ok_law_value (F : Fun K "_law_value" "_law_value" s_law_value f fd) (bl : Bl K mg cWay cFirst cOnly cLike cLow cHigh cSum cDomain cNumbers cWords cTable)  : FnOk P w K mg base CX0 1 f fd ["domain", "code"] (sp_law_value K cWay cFirst cOnly cLike cLow cHigh cSum cDomain cNumbers cWords cTable) := by
  refine F.ok sc_law_value (fun vs H Q E h => ?_) (fun cdv A outer s H vs Q E hr h => ?_)
  · obtain ⟨r, p, c, rfl, ⟨wl, _, _, er, ewl⟩, ok, c1, c2, q⟩ := h
    rfl
  obtain ⟨r, p, c, rfl, ⟨wl, _, _, er, ewl⟩, ok, c1, c2, q⟩ := h
  refine ⟨_, (pss_cons (ps_if (pt_cmpR op_gt (pe_callB call_len_seq rfl bl.len_ PySem.boot_len (pa_cons (pe_ix ix_tup (pv 0) pe_int (fun _ _ => rfl)) pa_nil)) pe_int (nomark _))
     (pss_one (ps_ret (pe_ix ix_list (pe_ix ix_tup (pv 0) pe_int (fun _ _ => rfl)) (pv 1) (fun _ _ => rfl))))
     pss_nil)
     (pss_one (ps_ret (pe_callTy call_str_int rfl bl.str_ PyProof.Rows.boot_str (pa_cons (pv 1) pa_nil))))), ?_⟩
  have hlm : (p.ws.map V.str).length = p.ws.length := List.length_map _
  refine ⟨_, rfl, r, _, _, _, rfl, rfl, SqT.of er, rfl, wl, _, rfl, .inl (SqL.of ewl), _, _, rfl, rfl, _, rfl, ?_⟩
  refine ite2 (fun g => ?_) (fun g => ?_)
  · have hne : p.ws ≠ [] := fun z => by
      have := of_decide_eq_true g
      rw [z] at this
      exact absurd this (by decide)
    obtain ⟨hg, h0, h1⟩ := ok.wd hne
    unfold hiW at h1
    have hk : c.toNat < p.ws.length := by omega
    rw [PD.k_some hne] at q
    have q : Q (.str (p.ws.getD c.toNat Str.empty)) H := q
    rw [List.getD_eq_getElem?_getD, List.getElem?_eq_getElem hk] at q
    have ix : atI (p.ws.map V.str) c = some (.str p.ws[c.toNat]) := by
      have z : atI (p.ws.map V.str) ((c.toNat : Nat) : Int) = some (.str p.ws[c.toNat]) := atI_nat (by rw [List.getElem?_map, List.getElem?_eq_getElem hk]; rfl)
      rw [show ((c.toNat : Nat) : Int) = c by omega] at z
      exact z
    exact ⟨_, rfl, r, _, _, _, rfl, rfl, SqT.of er, rfl, _, rfl, wl, _, _, _, rfl, rfl, SqL.of ewl, ix, q⟩
  · have he : p.ws = [] := by
      have : ¬ ((0 : Int) < (((p.ws.map V.str).length : Nat) : Int)) := fun h => g (decide_eq_true h)
      rw [hlm] at this
      exact List.length_eq_zero_iff.mp (by omega)
    rw [PD.k_none he] at q
    exact ⟨_, rfl, c, rfl, log_sm (ok.bd c c1 c2), q⟩
theorem ok_Way___init___First (F : Fun K "__init__" "Way.__init__" s_Way___init___First f fd) (bl : Bl K mg cWay cFirst cOnly cLike cLow cHigh cSum cDomain cNumbers cWords cTable)  : FnOk P w K mg base CX0 1 f fd ["self", "called"] (sp_Way___init___First K cWay cFirst cOnly cLike cLow cHigh cSum cDomain cNumbers cWords cTable) := by
  refine F.ok sc_Way___init___First (fun vs H Q E h => ?_) (fun cdv A outer s H vs Q E hr h => ?_)
  · obtain ⟨x, dx, z, rfl, hx, q⟩ := h
    rfl
  obtain ⟨x, dx, z, rfl, hx, q⟩ := h
  refine ⟨_, (pss_one (ps_fld (pv 0) (pv 1) rfl)), ?_⟩
  exact ⟨_, rfl, _, rfl, x, _, dx, _, rfl, hx, bl.k_First, bl.na_First_called, (by show 0 < 1000; decide), q⟩
theorem ok_Way___init___Only (F : Fun K "__init__" "Way.__init__" s_Way___init___Only f fd) (bl : Bl K mg cWay cFirst cOnly cLike cLow cHigh cSum cDomain cNumbers cWords cTable)  : FnOk P w K mg base CX0 1 f fd ["self", "called"] (sp_Way___init___Only K cWay cFirst cOnly cLike cLow cHigh cSum cDomain cNumbers cWords cTable) := by
  refine F.ok sc_Way___init___Only (fun vs H Q E h => ?_) (fun cdv A outer s H vs Q E hr h => ?_)
  · obtain ⟨x, dx, z, rfl, hx, q⟩ := h
    rfl
  obtain ⟨x, dx, z, rfl, hx, q⟩ := h
  refine ⟨_, (pss_one (ps_fld (pv 0) (pv 1) rfl)), ?_⟩
  exact ⟨_, rfl, _, rfl, x, _, dx, _, rfl, hx, bl.k_Only, bl.na_Only_called, (by show 0 < 1000; decide), q⟩
theorem ok_Way___init___Like (F : Fun K "__init__" "Way.__init__" s_Way___init___Like f fd) (bl : Bl K mg cWay cFirst cOnly cLike cLow cHigh cSum cDomain cNumbers cWords cTable)  : FnOk P w K mg base CX0 1 f fd ["self", "called"] (sp_Way___init___Like K cWay cFirst cOnly cLike cLow cHigh cSum cDomain cNumbers cWords cTable) := by
  refine F.ok sc_Way___init___Like (fun vs H Q E h => ?_) (fun cdv A outer s H vs Q E hr h => ?_)
  · obtain ⟨x, dx, z, rfl, hx, q⟩ := h
    rfl
  obtain ⟨x, dx, z, rfl, hx, q⟩ := h
  refine ⟨_, (pss_one (ps_fld (pv 0) (pv 1) rfl)), ?_⟩
  exact ⟨_, rfl, _, rfl, x, _, dx, _, rfl, hx, bl.k_Like, bl.na_Like_called, (by show 0 < 1000; decide), q⟩
theorem ok_Way___init___Low (F : Fun K "__init__" "Way.__init__" s_Way___init___Low f fd) (bl : Bl K mg cWay cFirst cOnly cLike cLow cHigh cSum cDomain cNumbers cWords cTable)  : FnOk P w K mg base CX0 1 f fd ["self", "called"] (sp_Way___init___Low K cWay cFirst cOnly cLike cLow cHigh cSum cDomain cNumbers cWords cTable) := by
  refine F.ok sc_Way___init___Low (fun vs H Q E h => ?_) (fun cdv A outer s H vs Q E hr h => ?_)
  · obtain ⟨x, dx, z, rfl, hx, q⟩ := h
    rfl
  obtain ⟨x, dx, z, rfl, hx, q⟩ := h
  refine ⟨_, (pss_one (ps_fld (pv 0) (pv 1) rfl)), ?_⟩
  exact ⟨_, rfl, _, rfl, x, _, dx, _, rfl, hx, bl.k_Low, bl.na_Low_called, (by show 0 < 1000; decide), q⟩
theorem ok_Way___init___High (F : Fun K "__init__" "Way.__init__" s_Way___init___High f fd) (bl : Bl K mg cWay cFirst cOnly cLike cLow cHigh cSum cDomain cNumbers cWords cTable)  : FnOk P w K mg base CX0 1 f fd ["self", "called"] (sp_Way___init___High K cWay cFirst cOnly cLike cLow cHigh cSum cDomain cNumbers cWords cTable) := by
  refine F.ok sc_Way___init___High (fun vs H Q E h => ?_) (fun cdv A outer s H vs Q E hr h => ?_)
  · obtain ⟨x, dx, z, rfl, hx, q⟩ := h
    rfl
  obtain ⟨x, dx, z, rfl, hx, q⟩ := h
  refine ⟨_, (pss_one (ps_fld (pv 0) (pv 1) rfl)), ?_⟩
  exact ⟨_, rfl, _, rfl, x, _, dx, _, rfl, hx, bl.k_High, bl.na_High_called, (by show 0 < 1000; decide), q⟩
theorem ok_Way___init___Sum (F : Fun K "__init__" "Way.__init__" s_Way___init___Sum f fd) (bl : Bl K mg cWay cFirst cOnly cLike cLow cHigh cSum cDomain cNumbers cWords cTable)  : FnOk P w K mg base CX0 1 f fd ["self", "called"] (sp_Way___init___Sum K cWay cFirst cOnly cLike cLow cHigh cSum cDomain cNumbers cWords cTable) := by
  refine F.ok sc_Way___init___Sum (fun vs H Q E h => ?_) (fun cdv A outer s H vs Q E hr h => ?_)
  · obtain ⟨x, dx, z, rfl, hx, q⟩ := h
    rfl
  obtain ⟨x, dx, z, rfl, hx, q⟩ := h
  refine ⟨_, (pss_one (ps_fld (pv 0) (pv 1) rfl)), ?_⟩
  exact ⟨_, rfl, _, rfl, x, _, dx, _, rfl, hx, bl.k_Sum, bl.na_Sum_called, (by show 0 < 1000; decide), q⟩
theorem ok_Domain___init___Numbers (F : Fun K "__init__" "Domain.__init__" s_Domain___init___Numbers f fd) (bl : Bl K mg cWay cFirst cOnly cLike cLow cHigh cSum cDomain cNumbers cWords cTable)  : FnOk P w K mg base CX0 1 f fd ["self", "low", "high"] (sp_Domain___init___Numbers K cWay cFirst cOnly cLike cLow cHigh cSum cDomain cNumbers cWords cTable) := by
  refine F.ok sc_Domain___init___Numbers (fun vs H Q E h => ?_) (fun cdv A outer s H vs Q E hr h => ?_)
  · obtain ⟨x, dx, lo, hi, rfl, hx, q⟩ := h
    rfl
  obtain ⟨x, dx, lo, hi, rfl, hx, q⟩ := h
  refine ⟨_, (pss_cons (ps_fld (pv 0) (pv 1) rfl)
     (pss_one (ps_fld (pv 0) (pv 2) rfl))), ?_⟩
  refine ⟨_, rfl, _, rfl, x, _, dx, _, rfl, hx, bl.k_Numbers, bl.na_Numbers_low, (by show 0 < 1000; decide), _, rfl, _, rfl, x, _, dx, _, rfl, upd_same, bl.k_Numbers, bl.na_Numbers_high, (by show 1 < 1000; decide), ?_⟩
  show Q .non (upd (upd H x (.ins cNumbers dx [("low", .int lo)])) x (.ins cNumbers dx (putF "high" (.int hi) [("low", .int lo)])))
  rw [put2]
  exact q
theorem ok_Domain___init___Words (F : Fun K "__init__" "Domain.__init__" s_Domain___init___Words f fd) (bl : Bl K mg cWay cFirst cOnly cLike cLow cHigh cSum cDomain cNumbers cWords cTable)  : FnOk P w K mg base CX0 1 f fd ["self", "low", "high"] (sp_Domain___init___Words K cWay cFirst cOnly cLike cLow cHigh cSum cDomain cNumbers cWords cTable) := by
  refine F.ok sc_Domain___init___Words (fun vs H Q E h => ?_) (fun cdv A outer s H vs Q E hr h => ?_)
  · obtain ⟨x, dx, lo, hi, rfl, hx, q⟩ := h
    rfl
  obtain ⟨x, dx, lo, hi, rfl, hx, q⟩ := h
  refine ⟨_, (pss_cons (ps_fld (pv 0) (pv 1) rfl)
     (pss_one (ps_fld (pv 0) (pv 2) rfl))), ?_⟩
  refine ⟨_, rfl, _, rfl, x, _, dx, _, rfl, hx, bl.k_Words, bl.na_Words_low, (by show 0 < 1000; decide), _, rfl, _, rfl, x, _, dx, _, rfl, upd_same, bl.k_Words, bl.na_Words_high, (by show 1 < 1000; decide), ?_⟩
  show Q .non (upd (upd H x (.ins cWords dx [("low", .int lo)])) x (.ins cWords dx (putF "high" (.int hi) [("low", .int lo)])))
  rw [put2]
  exact q
theorem ok_Words_written_Words (F : Fun K "written" "Words.written" s_Words_written_Words f fd) (bl : Bl K mg cWay cFirst cOnly cLike cLow cHigh cSum cDomain cNumbers cWords cTable)  : FnOk P w K mg base CX0 1 f fd ["self"] (sp_Words_written_Words K cWay cFirst cOnly cLike cLow cHigh cSum cDomain cNumbers cWords cTable) := by
  refine F.ok sc_Words_written_Words (fun vs H Q E h => ?_) (fun cdv A outer s H vs Q E hr h => ?_)
  · obtain ⟨a, zs, b, rfl, ⟨dx, wl, ha, hwl⟩, hg, q⟩ := h
    rfl
  obtain ⟨a, zs, b, rfl, ⟨dx, wl, ha, hwl⟩, hg, q⟩ := h
  refine ⟨_, (pss_one (ps_ret (pe_bm PySem.F.plainAttrs_str PySem.F.slot_str_join PySem.F.type_str_join mt_join pe_str (pa_cons (pe_fld (pv 0) rfl) pa_nil)))), ?_⟩
  exact ⟨rfl, _, rfl, a, _, _, _, _, rfl, ha, bl.k_Words, bl.na_Words_words, rfl, _, wl, _, rfl, rfl, SqL.of hwl, (by decide +kernel), join_ok (m := 12) (n := 40) (fun z hz => isw_len (hg.words z hz)) hg.few (by decide), q⟩
theorem ok_Numbers_value_at_Numbers (F : Fun K "value_at" "Numbers.value_at" s_Numbers_value_at_Numbers f fd) (bl : Bl K mg cWay cFirst cOnly cLike cLow cHigh cSum cDomain cNumbers cWords cTable)  : FnOk P w K mg base CX0 1 f fd ["self", "code"] (sp_Numbers_value_at_Numbers K cWay cFirst cOnly cLike cLow cHigh cSum cDomain cNumbers cWords cTable) := by
  refine F.ok sc_Numbers_value_at_Numbers (fun vs H Q E h => ?_) (fun cdv A outer s H vs Q E hr h => ?_)
  · obtain ⟨a, c, rfl, q⟩ := h
    rfl
  obtain ⟨a, c, rfl, q⟩ := h
  refine ⟨_, (pss_one (ps_ret (pv 1))), ?_⟩
  exact ⟨_, rfl, q⟩
theorem ok_Words_value_at_Words (F : Fun K "value_at" "Words.value_at" s_Words_value_at_Words f fd) (bl : Bl K mg cWay cFirst cOnly cLike cLow cHigh cSum cDomain cNumbers cWords cTable)  : FnOk P w K mg base CX0 1 f fd ["self", "code"] (sp_Words_value_at_Words K cWay cFirst cOnly cLike cLow cHigh cSum cDomain cNumbers cWords cTable) := by
  refine F.ok sc_Words_value_at_Words (fun vs H Q E h => ?_) (fun cdv A outer s H vs Q E hr h => ?_)
  · obtain ⟨a, zs, c, z, rfl, ⟨dx, l, ha, hl⟩, h0, hz, q⟩ := h
    rfl
  obtain ⟨a, zs, c, z, rfl, ⟨dx, l, ha, hl⟩, h0, hz, q⟩ := h
  refine ⟨_, (pss_one (ps_ret (pe_ix ix_list (pe_fld (pv 0) rfl) (pv 1) (fun _ _ => rfl)))), ?_⟩
  have e : atI (zs.map V.str) c = some (.str z) := by
    have q : atI (zs.map V.str) ((c.toNat : Nat) : Int) = some (.str z) := atI_nat (by rw [List.getElem?_map, hz]; rfl)
    rw [show ((c.toNat : Nat) : Int) = c by omega] at q
    exact q
  exact ⟨_, rfl, a, _, _, _, _, rfl, ha, bl.k_Words, bl.na_Words_words, rfl, _, rfl, l, _, _, _, rfl, rfl, SqL.of hl, e, q⟩
theorem ok_Domain_whole_Numbers (F : Fun K "whole" "Domain.whole" s_Domain_whole_Numbers f fd) (bl : Bl K mg cWay cFirst cOnly cLike cLow cHigh cSum cDomain cNumbers cWords cTable)  : FnOk P w K mg base CX0 1 f fd ["self"] (sp_Domain_whole_Numbers K cWay cFirst cOnly cLike cLow cHigh cSum cDomain cNumbers cWords cTable) := by
  refine F.ok sc_Domain_whole_Numbers (fun vs H Q E h => ?_) (fun cdv A outer s H vs Q E hr h => ?_)
  · obtain ⟨a, lo, hi, rfl, ⟨dx, ha⟩, q⟩ := h
    rfl
  obtain ⟨a, lo, hi, rfl, ⟨dx, ha⟩, q⟩ := h
  refine ⟨_, (pss_one (ps_ret (pe_lst (pa_cons (pe_tup (pa_cons (pe_fld (pv 0) rfl) (pa_cons (pe_fld (pv 0) rfl) pa_nil))) pa_nil)))), ?_⟩
  refine ⟨_, rfl, a, _, _, _, _, rfl, ha, bl.k_Numbers, bl.na_Numbers_low, rfl, _, rfl, a, _, _, _, _, rfl, ha, bl.k_Numbers, bl.na_Numbers_high, rfl, (by show 2 ≤ sizeLine; decide), fun t ht => ⟨(by show 1 ≤ sizeLine; decide), fun l hl => ?_⟩⟩
  exact q l t _ ((same_new ht _).trans (same_new hl _)) upd_same ((upd_ne (ne_of_none upd_same hl)).trans upd_same)
theorem ok_Domain_whole_Words (F : Fun K "whole" "Domain.whole" s_Domain_whole_Words f fd) (bl : Bl K mg cWay cFirst cOnly cLike cLow cHigh cSum cDomain cNumbers cWords cTable)  : FnOk P w K mg base CX0 1 f fd ["self"] (sp_Domain_whole_Words K cWay cFirst cOnly cLike cLow cHigh cSum cDomain cNumbers cWords cTable) := by
  refine F.ok sc_Domain_whole_Words (fun vs H Q E h => ?_) (fun cdv A outer s H vs Q E hr h => ?_)
  · obtain ⟨a, zs, rfl, ⟨dx, wl, ha, _⟩, q⟩ := h
    rfl
  obtain ⟨a, zs, rfl, ⟨dx, wl, ha, _⟩, q⟩ := h
  refine ⟨_, (pss_one (ps_ret (pe_lst (pa_cons (pe_tup (pa_cons (pe_fld (pv 0) rfl) (pa_cons (pe_fld (pv 0) rfl) pa_nil))) pa_nil)))), ?_⟩
  refine ⟨_, rfl, a, _, _, _, _, rfl, ha, bl.k_Words, bl.na_Words_low, rfl, _, rfl, a, _, _, _, _, rfl, ha, bl.k_Words, bl.na_Words_high, rfl, (by show 2 ≤ sizeLine; decide), fun t ht => ⟨(by show 1 ≤ sizeLine; decide), fun l hl => ?_⟩⟩
  exact q l t _ ((same_new ht _).trans (same_new hl _)) upd_same ((upd_ne (ne_of_none upd_same hl)).trans upd_same)
theorem ok_is_word (F : Fun K "is_word" "is_word" s_is_word f fd) (bl : Bl K mg cWay cFirst cOnly cLike cLow cHigh cSum cDomain cNumbers cWords cTable) (c_all_among : Callee P w K mg base 1 "all_among" ["text", "signs"] (sp_all_among K cWay cFirst cOnly cLike cLow cHigh cSum cDomain cNumbers cWords cTable)) : FnOk P w K mg base CX0 2 f fd ["text"] (sp_is_word K cWay cFirst cOnly cLike cLow cHigh cSum cDomain cNumbers cWords cTable) := by
  refine F.ok sc_is_word (fun vs H Q E h => ?_) (fun cdv A outer s H vs Q E hr h => ?_)
  · obtain ⟨z, rfl, hz, q⟩ := h
    rfl
  obtain ⟨z, rfl, hz, q⟩ := h
  refine ⟨_, (pss_one (ps_ret (pe_and (pe_chain op_le op_le pe_int (pe_callB call_len_str rfl bl.len_ PySem.boot_len (pa_cons (pv 0) pa_nil)) (pe_gl rfl bl.MOST_SIGNS_)) (pe_and (pe_cmpR op_ne (pv 0) pe_str (nomark _)) (pe_one (pe_fn c_all_among hr rfl (pa_cons (pv 0) (pa_cons (pe_gl rfl bl.SMALL_LETTERS_) pa_nil)))))))), ?_⟩
  refine ⟨_, rfl, _, rfl, big hz, _, _, rfl, rfl, _, rfl, ?_⟩
  refine ite2 (fun g1 => ?_) (fun g1 => ?_)
  · refine ⟨_, _, rfl, rfl, _, rfl, ?_⟩
    refine ite2 (fun g2 => ?_) (fun g2 => ?_)
    · refine ⟨_, rfl, rfl, _, rfl, ?_⟩
      refine ite2 (fun g3 => ?_) (fun g3 => ?_)
      · refine ⟨_, rfl, z, lets, rfl, ?_⟩
        have e : isw z = allIn z lets := by unfold isw; rw [g1, g2, g3]; rfl
        rw [e] at q; exact q
      · have e : isw z = false := by unfold isw; rw [Bool.eq_false_iff.mpr g3, Bool.false_and, Bool.and_false, Bool.and_false]
        rw [e] at q; exact q
    · have e : isw z = false := by unfold isw; rw [Bool.eq_false_iff.mpr g2, Bool.false_and, Bool.and_false]
      rw [e] at q; exact q
  · have e : isw z = false := by unfold isw; rw [Bool.eq_false_iff.mpr g1, Bool.false_and]
    rw [e] at q; exact ⟨_, rfl, iteF q⟩
theorem ok_show_range (F : Fun K "show_range" "show_range" s_show_range f fd) (bl : Bl K mg cWay cFirst cOnly cLike cLow cHigh cSum cDomain cNumbers cWords cTable) (c_number_text : Callee P w K mg base 1 "number_text" ["number"] (sp_number_text K cWay cFirst cOnly cLike cLow cHigh cSum cDomain cNumbers cWords cTable)) : FnOk P w K mg base CX0 2 f fd ["domain", "low", "high"] (sp_show_range K cWay cFirst cOnly cLike cLow cHigh cSum cDomain cNumbers cWords cTable) := by
  refine F.ok sc_show_range (fun vs H Q E h => ?_) (fun cdv A outer s H vs Q E hr h => ?_)
  · obtain ⟨d, lo, hi, p, rfl, ⟨dx, ha⟩, b1, b2, q⟩ := h
    rfl
  obtain ⟨d, lo, hi, p, rfl, ⟨dx, ha⟩, b1, b2, q⟩ := h
  refine ⟨_, (pss_cons (ps_if (pt_cmpR op_eq (pv 1) (pv 2) (nomark _))
     (pss_one (ps_ret (pe_fn c_number_text hr rfl (pa_cons (pv 1) pa_nil))))
     pss_nil)
     (pss_cons (ps_if (pt_cmpR op_eq (pv 1) (pe_fld (pv 0) rfl) (nomark _))
     (pss_one (ps_ret (pe_op op_add_str (pe_gl rfl bl.UP_TO_) (pe_fn c_number_text hr rfl (pa_cons (pv 2) pa_nil)))))
     pss_nil)
     (pss_cons (ps_if (pt_cmpR op_eq (pv 2) (pe_fld (pv 0) rfl) (nomark _))
     (pss_one (ps_ret (pe_op op_add_str (pe_fn c_number_text hr rfl (pa_cons (pv 1) pa_nil)) (pe_gl rfl bl.UP_TO_))))
     pss_nil)
     (pss_one (ps_ret (pe_op op_add_str (pe_op op_add_str (pe_fn c_number_text hr rfl (pa_cons (pv 1) pa_nil)) (pe_gl rfl bl.UP_TO_)) (pe_fn c_number_text hr rfl (pa_cons (pv 2) pa_nil)))))))), ?_⟩
  have l1 := len_num b1
  have l2 := len_num b2
  unfold shN at q
  refine ⟨_, rfl, _, rfl, rfl, _, rfl, ?_⟩
  refine ite2 (fun g => ?_) (fun g => ?_)
  · rw [if_pos (dec_int_t g)] at q
    exact ⟨_, rfl, p.1, rfl, b1, q⟩
  rw [if_neg (dec_int_f g)] at q
  refine ⟨_, rfl, _, rfl, d, _, _, _, _, rfl, ha, bl.k_Numbers, bl.na_Numbers_low, rfl, rfl, _, rfl, ?_⟩
  refine ite2 (fun g => ?_) (fun g => ?_)
  · rw [if_pos (dec_int_t g)] at q
    exact ⟨_, rfl, p.2, rfl, b2, _, _, rfl, rfl, big (by rw [dots2]; omega), q⟩
  rw [if_neg (dec_int_f g)] at q
  refine ⟨_, rfl, _, rfl, d, _, _, _, _, rfl, ha, bl.k_Numbers, bl.na_Numbers_high, rfl, rfl, _, rfl, ?_⟩
  refine ite2 (fun g => ?_) (fun g => ?_)
  · rw [if_pos (dec_int_t g)] at q
    exact ⟨_, rfl, p.1, rfl, b1, _, _, rfl, rfl, big (by rw [dots2]; omega), q⟩
  rw [if_neg (dec_int_f g)] at q
  exact ⟨_, rfl, p.1, rfl, b1, _, _, rfl, rfl, big (by rw [dots2]; omega), _, rfl, p.2, rfl, b2, _, _, rfl, rfl, big (by rw [len_ap, dots2]; omega), q⟩
theorem ok_law_domain (F : Fun K "_law_domain" "_law_domain" s_law_domain f fd) (bl : Bl K mg cWay cFirst cOnly cLike cLow cHigh cSum cDomain cNumbers cWords cTable) (c__law_words : Callee P w K mg base 1 "_law_words" ["cell", "count"] (sp_law_words K cWay cFirst cOnly cLike cLow cHigh cSum cDomain cNumbers cWords cTable)) : FnOk P w K mg base CX0 2 f fd ["cell"] (sp_law_domain K cWay cFirst cOnly cLike cLow cHigh cSum cDomain cNumbers cWords cTable) := by
  refine F.ok sc_law_domain (fun vs H Q E h => ?_) (fun cdv A outer s H vs Q E hr h => ?_)
  · obtain ⟨c, rfl, q⟩ := h
    rfl
  obtain ⟨c, rfl, q⟩ := h
  refine ⟨_, (pss_cut (ps_set (i := 1) sc_law_domain.nd rfl (Or.inl rfl) (pe_op op_sub (pe_op op_mod (pe_op op_fdiv (pv 0) pe_int) (pe_op op_pow pe_int pe_int)) (pe_op op_mul pe_int (pe_op op_pow pe_int pe_int))))
     (pss_cut (ps_set (i := 2) sc_law_domain.nd rfl (Or.inl rfl) (pe_op op_mod (pe_op op_fdiv (pv 0) pe_int) (pe_op op_pow pe_int pe_int)))
     (pss_cons (ps_if (pt_cmpR op_eq (pe_op op_mod (pv 0) pe_int) pe_int (nomark _))
     (pss_cons (ps_set (i := 3) sc_law_domain.nd rfl (Or.inl rfl) (pe_fn c__law_words hr rfl (pa_cons (pe_op op_fdiv (pv 0) pe_int) (pa_cons (pe_op op_add pe_int (pe_op op_mod (pe_op op_fdiv (pv 0) pe_int) pe_int)) pa_nil))))
     (pss_one (ps_ret (pe_tup (pa_cons pe_int (pa_cons (pe_op op_sub (pe_callB call_len_seq rfl bl.len_ PySem.boot_len (pa_cons (pv 3) pa_nil)) pe_int) (pa_cons (pv 3) pa_nil)))))))
     pss_nil)
     (pss_cut (ps_if (pt_cmpR op_eq (pe_op op_mod (pv 0) pe_int) pe_int (nomark _))
     (pss_one (ps_set (i := 2) sc_law_domain.nd rfl (Or.inl rfl) (pe_op op_mod (pe_op op_fdiv (pv 0) pe_int) pe_int)))
     pss_nil)
     (pss_one (ps_ret (pe_tup (pa_cons (pv 1) (pa_cons (pe_op op_add (pv 1) (pv 2)) (pa_cons (pe_lst pa_nil) pa_nil)))))))))), ?_⟩
  have k1 : (10 ^ 30 : Nat) * 10 = 10 ^ 31 := by decide
  have k2 : (10 ^ 29 : Nat) * 100 = 10 ^ 31 := by decide
  have k3 : (1000 : Nat) ≤ 10 ^ 31 := by decide
  refine ⟨fun σ' H' => H' = H ∧ ∃ lo : Int, -(5 * ((10 ^ 29 : Nat) : Int)) ≤ lo ∧ lo < ((10 ^ 30 : Nat) : Int) ∧ σ' = [some (.int c), some (.int lo), none, none], ?_, ?_⟩
  · have x0 := Int.emod_nonneg (c / 3) (Int.ne_of_gt (p10 (30 : Int).toNat))
    have x1 := Int.emod_lt_of_pos (c / 3) (p10 (30 : Int).toNat)
    refine ⟨_, rfl, _, _, rfl, rfl, ⟨by decide, by decide⟩, _, _, rfl, rfl, ⟨by decide, by decide, by decide⟩, _, _, rfl, rfl, p10 _, _, _, rfl, rfl, ⟨by decide, by decide, by decide⟩, _, _, rfl, rfl, .inl ⟨by decide, by decide⟩, _, _, rfl, rfl, rfl, _, ?_, ?_, rfl⟩
    · rw [p30] at x0 x1 ⊢
      rw [p29]
      generalize ((10 ^ 30 : Nat) : Int) = A at x0 x1 ⊢
      generalize ((10 ^ 29 : Nat) : Int) = B at *
      omega
    · rw [p30] at x0 x1 ⊢
      rw [p29]
      have : (0 : Int) ≤ ((10 ^ 29 : Nat) : Int) := Int.natCast_nonneg _
      generalize ((10 ^ 30 : Nat) : Int) = A at x0 x1 ⊢
      generalize ((10 ^ 29 : Nat) : Int) = B at *
      omega
  rintro σ1 H1 ⟨rfl, lo, g0, g1, rfl⟩
  refine ⟨fun σ' H' => H' = H1 ∧ ∃ w : Int, 0 ≤ w ∧ w < ((10 ^ 30 : Nat) : Int) ∧ σ' = [some (.int c), some (.int lo), some (.int w), none], ?_, ?_⟩
  · have x0 := Int.emod_nonneg (c / 7) (Int.ne_of_gt (p10 (30 : Int).toNat))
    have x1 := Int.emod_lt_of_pos (c / 7) (p10 (30 : Int).toNat)
    refine ⟨_, rfl, _, _, rfl, rfl, ⟨by decide, by decide⟩, _, _, rfl, rfl, ⟨by decide, by decide, by decide⟩, _, _, rfl, rfl, p10 _, rfl, _, x0, ?_, rfl⟩
    rw [p30] at x1 ⊢
    exact x1
  rintro σ2 H2 ⟨rfl, w, w0, w1, rfl⟩
  refine ⟨_, rfl, _, _, rfl, rfl, (by show (0 : Int) < 3; decide), rfl, _, rfl, ?_⟩
  refine ite2 (fun _ => ?_) (fun _ => ?_)
  · have y0 := Int.emod_nonneg (c / 3) (show (6 : Int) ≠ 0 by decide)
    have y1 := Int.emod_lt_of_pos (c / 3) (show (0 : Int) < 6 by decide)
    obtain ⟨n, en⟩ : ∃ n : Nat, 1 + c / 3 % 6 = (n : Int) := ⟨_, (Int.toNat_of_nonneg (by omega)).symm⟩
    refine ⟨_, rfl, _, _, rfl, rfl, ⟨by decide, by decide⟩, _, rfl, _, _, rfl, rfl, ⟨by decide, by decide⟩, _, _, rfl, rfl, (by show (0 : Int) < 6; decide), _, _, rfl, rfl, c / 18, n, by rw [← en], by omega, fun l H3 s3 nl el => ?_⟩
    have hg := lws_good (c := c / 18) (n := n) (by omega) (by omega)
    have hl := lws_len (c / 18) n
    generalize lws (c / 18) n = zs at el hg hl
    have hm : (zs.map V.str).length = zs.length := List.length_map _
    refine ⟨_, rfl, l, _, rfl, .inl (SqL.of el), _, _, rfl, rfl, _, rfl, (by show 3 ≤ sizeLine; decide), fun r hr => ?_⟩
    refine q r ⟨0, ((zs.map V.str).length : Int) - 1, zs⟩ _ (s3.trans (same_new hr _)) ⟨l, s3.free hr, nl, upd_same, same_new hr _ _ _ el⟩ ⟨by show (0 : Int) ≤ ((zs.map V.str).length : Int) - 1; omega, fun _ => ⟨hg, rfl, by show ((zs.map V.str).length : Int) - 1 = hiW zs; unfold hiW; rw [hm]⟩, fun x x0 x1 => ?_⟩
    have x0 : 0 ≤ x := x0
    have x1 : x ≤ ((zs.map V.str).length : Int) - 1 := x1
    exact bnd40 x0 (by omega)
  refine ⟨fun σ' H' => H' = H2 ∧ ∃ w : Int, 0 ≤ w ∧ w < ((10 ^ 30 : Nat) : Int) ∧ σ' = [some (.int c), some (.int lo), some (.int w), none], ?_, ?_⟩
  · refine ⟨_, rfl, _, _, rfl, rfl, (by show (0 : Int) < 3; decide), rfl, _, rfl, ?_⟩
    refine ite2 (fun _ => ?_) (fun _ => ⟨rfl, w, w0, w1, rfl⟩)
    have x0 := Int.emod_nonneg (c / 7) (show (9 : Int) ≠ 0 by decide)
    have x1 := Int.emod_lt_of_pos (c / 7) (show (0 : Int) < 9 by decide)
    refine ⟨_, rfl, _, _, rfl, rfl, ⟨by decide, by decide⟩, _, _, rfl, rfl, (by show (0 : Int) < 9; decide), rfl, _, x0, ?_, rfl⟩
    have : (9 : Int) ≤ ((10 ^ 30 : Nat) : Int) := by decide
    exact Int.lt_of_lt_of_le x1 this
  clear w0 w1 w
  rintro σ3 H3 ⟨rfl, w, w0, w1, rfl⟩
  refine ⟨_, rfl, _, rfl, _, rfl, _, _, rfl, rfl, (by show 0 ≤ sizeLine; decide), fun l hl => ?_⟩
  have u1 := same_new hl (.lst [])
  have e1 : upd H3 l (.lst []) l = some (.lst []) := upd_same
  generalize upd H3 l (.lst []) = H4 at u1 e1 ⊢
  refine ⟨(by show 3 ≤ sizeLine; decide), fun r hr => ?_⟩
  refine q r ⟨lo, lo + w, []⟩ _ (u1.trans (same_new hr _)) ⟨l, u1.free hr, hl, upd_same, same_new hr _ _ _ e1⟩ ⟨by show lo ≤ lo + w; omega, fun h => absurd rfl h, fun x x0 x1 => ?_⟩
  have x0 : lo ≤ x := x0
  have x1 : x ≤ lo + w := x1
  refine bnd31 ?_ ?_
  · generalize (10 ^ 30 : Nat) = A at *
    generalize (10 ^ 29 : Nat) = B at *
    generalize (10 ^ 31 : Nat) = C at *
    omega
  · generalize (10 ^ 30 : Nat) = A at *
    generalize (10 ^ 29 : Nat) = B at *
    generalize (10 ^ 31 : Nat) = C at *
    omega
theorem ok_law_row (F : Fun K "_law_row" "_law_row" s_law_row f fd) (bl : Bl K mg cWay cFirst cOnly cLike cLow cHigh cSum cDomain cNumbers cWords cTable) (c__law_spans : Callee P w K mg base 1 "_law_spans" ["kind", "one", "two", "domain"] (sp_law_spans K cWay cFirst cOnly cLike cLow cHigh cSum cDomain cNumbers cWords cTable)) : FnOk P w K mg base CX0 2 f fd ["columns", "domains", "pools", "own", "cell"] (sp_law_row K cWay cFirst cOnly cLike cLow cHigh cSum cDomain cNumbers cWords cTable) := by
  refine F.ok sc_law_row (fun vs H Q E h => ?_) (fun cdv A outer s H vs Q E hr h => ?_)
  · obtain ⟨cl, dl, pl, ow, c, cols, dv, pvs, ds, rfl, hcl, hdl, hds, hpl, hps, hlt, how, h10, q⟩ := h
    rfl
  obtain ⟨cl, dl, pl, ow, c, cols, dv, pvs, ds, rfl, hcl, hdl, hds, hpl, hps, hlt, how, h10, q⟩ := h
  refine ⟨_, (pss_cut (ps_set (i := 5) sc_law_row.nd rfl (Or.inl rfl) (pe_op op_mod (pv 4) (pe_op op_pow pe_int pe_int)))
     (pss_cut (ps_set (i := 6) sc_law_row.nd rfl (Or.inl rfl) (pe_lst pa_nil))
     (pss_cut (ps_for PassesOwn.never rfl (pi_list (pv 0)) (pg_name (i := 7) sc_law_row.nd rfl (Or.inl rfl))
     (pss_cut (ps_set (i := 8) sc_law_row.nd rfl (Or.inl rfl) (pe_ix ix_list (pe_ix ix_list (pv 2) (pv 7) (fun _ _ => rfl)) (pe_op op_mod (pv 5) pe_int) (fun _ _ => rfl)))
     (pss_cut (ps_set (i := 9) sc_law_row.nd rfl (Or.inl rfl) (pe_ix ix_list (pe_ix ix_list (pv 2) (pv 7) (fun _ _ => rfl)) (pe_op op_mod (pe_op op_fdiv (pv 5) pe_int) pe_int) (fun _ _ => rfl)))
     (pss_cons (ps_expr (pe_bm PySem.F.plainAttrs_list PySem.F.slot_list_append PySem.F.type_list_append mt_append (pv 6) (pa_cons (pe_fn c__law_spans hr rfl (pa_cons (pe_op op_mod (pe_op op_fdiv (pv 5) pe_int) pe_int) (pa_cons (pe_callB (call_min2 rfl) rfl bl.min_ PyProof.Rows.boot_min (pa_cons (pv 8) (pa_cons (pv 9) pa_nil))) (pa_cons (pe_callB (call_max2 rfl) rfl bl.max_ PyProof.Rows.boot_max (pa_cons (pv 8) (pa_cons (pv 9) pa_nil))) (pa_cons (pe_ix ix_list (pv 1) (pv 7) (fun _ _ => rfl)) pa_nil))))) pa_nil)))
     (pss_one (ps_set (i := 5) sc_law_row.nd rfl (Or.inl rfl) (pe_op op_fdiv (pv 5) pe_int)))))))
     (pss_one (ps_ret (pe_tup (pa_cons (pv 6) (pa_cons (pe_ix ix_list (pe_ix ix_list (pv 2) (pv 3) (fun _ _ => rfl)) (pe_op op_mod (pv 5) pe_int) (fun _ _ => rfl)) pa_nil)))))))), ?_⟩
  refine ⟨fun σ' H' => H' = H ∧ ∃ n : Int, σ' = [some (.ref cl), some (.ref dl), some (.ref pl), some (.int (ow : Int)), some (.int c), some (.int n), none, none, none, none], ⟨_, rfl, _, _, rfl, rfl, ⟨by decide, by decide, by decide⟩, _, _, rfl, rfl, p10 _, rfl, _, rfl⟩, ?_⟩
  rintro σ1 H1 ⟨rfl, n, rfl⟩
  refine ⟨fun σ' H' => Same H1 H' ∧ ∃ pa : Addr, H1 pa = none ∧ H' pa = some (.lst []) ∧ σ' = [some (.ref cl), some (.ref dl), some (.ref pl), some (.int (ow : Int)), some (.int c), some (.int n), some (.ref pa), none, none, none], ⟨(by show 0 ≤ sizeLine; decide), fun l hl => ⟨same_new hl _, l, hl, upd_same, rfl⟩⟩, ?_⟩
  rintro σ2 H2 ⟨s2, pa, npa, epa, rfl⟩
  refine ⟨fun σ' H' => Same H1 H' ∧ ∃ (zs : List V) (pss : List Prs) (n : Int) (c7 c8 c9 : Option V), H' pa = some (.lst zs) ∧ CL (Fr H1 pa) H' zs pss ∧ pss.length = cols.length ∧ (∀ (j k : Nat) (ps : Prs) (p : PD), pss[j]? = some ps → cols[j]? = some k → ds[k]? = some p → ∀ x ∈ ps, p.lo ≤ x.1 ∧ x.1 ≤ x.2 ∧ x.2 ≤ p.hi) ∧ (∀ ps ∈ pss, ps.length ≤ 2) ∧ σ' = [some (.ref cl), some (.ref dl), some (.ref pl), some (.int (ow : Int)), some (.int c), some (.int n), some (.ref pa), c7, c8, c9], ?_, ?_⟩
  · refine ⟨_, rfl, cl, rfl, ⟨_, SqL.of (s2 _ _ hcl)⟩, for_list (xs := vN cols) (fun i σ H' => Same H1 H' ∧ ∃ (zs : List V) (pss : List Prs) (n : Int) (c7 c8 c9 : Option V), H' pa = some (.lst zs) ∧ CL (Fr H1 pa) H' zs pss ∧ pss.length = i ∧ (∀ (j k : Nat) (ps : Prs) (p : PD), pss[j]? = some ps → cols[j]? = some k → ds[k]? = some p → ∀ x ∈ ps, p.lo ≤ x.1 ∧ x.1 ≤ x.2 ∧ x.2 ≤ p.hi) ∧ (∀ ps ∈ pss, ps.length ≤ 2) ∧ σ = [some (.ref cl), some (.ref dl), some (.ref pl), some (.int (ow : Int)), some (.int c), some (.int n), some (.ref pa), c7, c8, c9]) ⟨s2, [], [], n, _, _, _, epa, RefL.nil, rfl, (fun j k ps p e => by simp at e), (fun ps h => by cases h), rfl⟩ (fun i σ H' _ h => SqL.of (h.1 _ _ hcl)) (fun i y σ H' ey hh => ?_) (fun σ H' hh => ?_)⟩
    · obtain ⟨sm, zs, pss, n, c7, c8, c9, ez, hz, hl, hin, hfew, rfl⟩ := hh
      obtain ⟨k, rfl, ek⟩ := vN_of ey
      have hk := hlt k (List.mem_of_getElem? ek)
      have hi : i < cols.length := (List.getElem?_eq_some_iff.mp ek).1
      have ep := List.getElem?_eq_getElem hk
      obtain ⟨pa_, e1, hpo⟩ := hps.2 k _ ep
      obtain ⟨da, e2, hpd⟩ := hds.2 k _ ep
      generalize ds[k] = p at ep hpo hpd
      have hpo := hpo.same sm
      have hpd := hpd.same sm
      refine ⟨fun σ' H'' => H'' = H' ∧ ∃ one : Int, p.lo ≤ one ∧ one ≤ p.hi ∧ σ' = [some (.ref cl), some (.ref dl), some (.ref pl), some (.int (ow : Int)), some (.int c), some (.int n), some (.ref pa), some (.int (k : Int)), some (.int one), c9], ?_, ?_⟩
      · obtain ⟨xs, x, q1, q2, q3, q4⟩ := hpo.pick (K := K) n
        exact ⟨_, rfl, _, rfl, pl, _, _, _, rfl, rfl, SqL.of (sm _ _ hpl), atI_nat e1, _, rfl, _, _, rfl, rfl, (by show (0 : Int) < 3; decide), pa_, _, _, _, rfl, rfl, q1, q2, rfl, x, q3, q4, rfl⟩
      rintro σ3 H3 ⟨rfl, one, a1, a2, rfl⟩
      refine ⟨fun σ' H'' => H'' = H3 ∧ ∃ two : Int, p.lo ≤ two ∧ two ≤ p.hi ∧ σ' = [some (.ref cl), some (.ref dl), some (.ref pl), some (.int (ow : Int)), some (.int c), some (.int n), some (.ref pa), some (.int (k : Int)), some (.int one), some (.int two)], ?_, ?_⟩
      · obtain ⟨xs, x, q1, q2, q3, q4⟩ := hpo.pick (K := K) (n / 3)
        exact ⟨_, rfl, _, rfl, pl, _, _, _, rfl, rfl, SqL.of (sm _ _ hpl), atI_nat e1, _, rfl, _, _, rfl, rfl, ⟨by decide, by decide⟩, _, _, rfl, rfl, (by show (0 : Int) < 3; decide), pa_, _, _, _, rfl, rfl, q1, q2, rfl, x, q3, q4, rfl⟩
      rintro σ4 H4 ⟨rfl, two, b1, b2, rfl⟩
      refine ⟨_, rfl, .inl ⟨rfl, _, SqL.of ez⟩, _, rfl, _, _, rfl, rfl, ⟨by decide, by decide⟩, _, _, rfl, rfl, (by show (0 : Int) < 6; decide), _, rfl, _, rfl, _, _, rfl, _, rfl, _, rfl, _, _, rfl, _, rfl, _, rfl, dl, _, _, _, rfl, rfl, SqL.of (sm _ _ hdl), atI_nat e2, _, _, _, da, p, rfl, hpd, ?_, ?_, ?_, fun l ps H5 s5 hsp hb hl2 => ?_⟩
      · split <;> omega
      · split <;> split <;> omega
      · split <;> omega
      have ez5 := s5 _ _ ez
      have n4 : H4 l = none := hsp.1
      have nl : l ≠ pa := fun z => by rw [z, ez] at n4; cases n4
      have hz2 : CL (Fr H1 pa) H5 (zs ++ [.ref l]) (pss ++ [ps]) := RefL.snoc (hz.same s5) ⟨⟨sm.free n4, nl⟩, hsp.2⟩
      refine ⟨pa, _, _, rfl, rfl, ez5, small1000 (by rw [hz.1]; omega), _, rfl, _, _, rfl, rfl, ⟨by decide, by decide⟩, (sm.trans s5).upd npa, zs ++ [.ref l], pss ++ [ps], _, _, _, _, upd_same, hz2.updN Fr.out ez5, by rw [List.length_append, hl]; rfl, fun j k' ps' p' f1 f2 f3 => ?_, fun ps' h' => ?_, rfl⟩
      · by_cases hj : j < pss.length
        · rw [List.getElem?_append_left hj] at f1
          exact hin j k' ps' p' f1 f2 f3
        · have hj2 : j = pss.length := by have := (List.getElem?_eq_some_iff.mp f1).1; simp at this; omega
          subst hj2
          simp at f1
          subst f1
          rw [hl, ek] at f2
          cases f2
          rw [ep] at f3
          cases f3
          exact hb
      · rcases List.mem_append.mp h' with h' | h'
        · exact hfew ps' h'
        · rw [show ps' = ps by simpa using h']; exact hl2
    · obtain ⟨sm, zs, pss, n, c7, c8, c9, ez, hz, hl, hin, hfew, rfl⟩ := hh
      exact ⟨sm, zs, pss, n, _, _, _, ez, hz, by rw [hl, vN_len], hin, hfew, rfl⟩
  rintro σ5 H5 ⟨s5, zs, pss, n, c7, c8, c9, ez, hz, hl, hin, hfew, rfl⟩
  obtain ⟨po, e1, hpo⟩ := hps.2 ow _ (List.getElem?_eq_getElem how)
  obtain ⟨xs, x, q1, q2, q3, q4⟩ := (hpo.same s5).pick (K := K) n
  refine ⟨_, rfl, _, rfl, _, rfl, pl, _, _, _, rfl, rfl, SqL.of (s5 _ _ hpl), atI_nat e1, _, rfl, _, _, rfl, rfl, (by show (0 : Int) < 3; decide), po, _, _, _, rfl, rfl, q1, q2, small2, fun r hr => ?_⟩
  have u := same_new hr (.tup [.ref pa, .int x])
  exact q r (pss, x) _ (s5.trans u) ⟨pa, zs, upd_same, npa, u _ _ ez, (hz.same u).wk fun a h => h.1⟩ ⟨hl, hin, hfew, fun p ep => by rw [List.getElem?_eq_getElem how] at ep; cases ep; exact ⟨q3, q4⟩⟩
theorem ok_law_field (F : Fun K "_law_field" "_law_field" s_law_field f fd) (bl : Bl K mg cWay cFirst cOnly cLike cLow cHigh cSum cDomain cNumbers cWords cTable) (c__law_part_text : Callee P w K mg base 1 "_law_part_text" ["domain", "pair"] (sp_law_part_text K cWay cFirst cOnly cLike cLow cHigh cSum cDomain cNumbers cWords cTable)) : FnOk P w K mg base CX0 2 f fd ["domain", "spans"] (sp_law_field K cWay cFirst cOnly cLike cLow cHigh cSum cDomain cNumbers cWords cTable) := by
  refine F.ok sc_law_field (fun vs H Q E h => ?_) (fun cdv A outer s H vs Q E hr h => ?_)
  · obtain ⟨r, l, p, ts, ps, rfl, hp, okp, el, hP, ok, q⟩ := h
    rfl
  obtain ⟨r, l, p, ts, ps, rfl, hp, okp, el, hP, ok, q⟩ := h
  refine ⟨_, (pss_cons (ps_if (pt_cmpR (op_eqL hr) (pv 1) (pe_lst pa_nil) (nomark _))
     (pss_one (ps_ret pe_str))
     pss_nil)
     (pss_cons (ps_if (pt_cmpR (op_eqL hr) (pv 1) (pe_lst (pa_cons (pe_tup (pa_cons (pe_ix ix_tup (pv 0) pe_int (fun _ _ => rfl)) (pa_cons (pe_ix ix_tup (pv 0) pe_int (fun _ _ => rfl)) pa_nil))) pa_nil)) (nomark _))
     (pss_one (ps_ret pe_str))
     pss_nil)
     (pss_one (ps_ret (pe_bm PySem.F.plainAttrs_str PySem.F.slot_str_join PySem.F.type_str_join mt_join pe_str (pa_cons (pe_comp (pi_list (pv 1)) (cmpOk_free (N := ["pair", "domain"]) (fr := [0]) (cl := [("domain", s.heap.objs.size + 1)]) rfl rfl (by decide +kernel) (by decide +kernel) rfl (by decide +kernel) rfl rfl rfl (List.forall_mem_cons.mpr ⟨rfl, List.forall_mem_nil _⟩) rfl) rfl (fun _ _ _ _ => pif_nil) (fun _ _ _ _ => (pe_fn c__law_part_text hr rfl (pa_cons (pv 1) (pa_cons (pv 0) pa_nil))))) pa_nil)))))), ?_⟩
  have htl := hP.length
  obtain ⟨wl, _, _, er, ewl⟩ := id hp
  refine ⟨_, rfl, (by show 0 ≤ sizeLine; decide), fun b hb => ?_⟩
  have u1 := same_new hb (.lst [])
  have eb : upd H b (.lst []) b = some (.lst []) := upd_same
  generalize upd H b (.lst []) = H1 at u1 eb ⊢
  refine eqL_nil (SqL.of (u1 _ _ el)) (SqL.of eb) ⟨_, rfl, ?_⟩
  refine ite2 (fun g => ?_) (fun g => ?_)
  · have := q H1 u1
    rw [show ps = [] from (pl_nil hP).mp (of_decide_eq_true g), fieldT_nil] at this
    exact this
  have hne : ps ≠ [] := fun z => g (decide_eq_true ((pl_nil hP).mpr z))
  have er1 := u1 _ _ er
  refine ⟨_, rfl, _, rfl, r, _, _, _, rfl, rfl, SqT.of er1, rfl, _, rfl, r, _, _, _, rfl, rfl, SqT.of er1, rfl, small2, fun t2 ht2 => ⟨(by show 1 ≤ sizeLine; decide), fun l2 hl2 => ?_⟩⟩
  obtain ⟨u2, e2, hP2⟩ := pl1 ht2 hl2
  have et2 : upd (upd H1 t2 (.tup [.int p.lo, .int p.hi])) l2 (.lst [.ref t2]) t2 = some (.tup [.int p.lo, .int p.hi]) := same_new hl2 _ _ _ upd_same
  generalize upd (upd H1 t2 (.tup [.int p.lo, .int p.hi])) l2 (.lst [.ref t2]) = H2 at u2 e2 hP2 et2 ⊢
  have s2 := u1.trans u2
  refine eqL_whole (q := (p.lo, p.hi)) (SqL.of (s2 _ _ el)) (hP.mono s2.tups) (SqL.of e2) et2 ⟨_, rfl, ?_⟩
  have ek : p.k.2 = (p.lo, p.hi) := rfl
  refine ite2 (fun g => ?_) (fun g => ?_)
  · have := q H2 s2
    rw [fieldT_all (k := p.k) (by rw [ek]; exact dec_t g)] at this
    exact this
  have q' := fun H' s' => q H' s'
  rw [fieldT_parts hne (by rw [ek]; exact dec_f g)] at q'
  refine ⟨rfl, _, rfl, l, rfl, ⟨_, SqL.of (s2 _ _ el)⟩, comp_list (xs := ts) (fun D i zs H' => Same H2 H' ∧ H' D = some (.lst zs) ∧ zs = ((ps.take i).map (partT p.k)).map V.str) (fun D hD_ => ⟨same_new hD_ _, upd_same, rfl⟩) (fun D i zs H' hD_ _ h => SqL.of ((s2.trans h.1) _ _ el)) (fun D i x zs H' hD_ ex h => ?_) (fun D zs H' hD_ h => ?_)⟩
  · obtain ⟨sm, eD, rfl⟩ := h
    obtain ⟨x, t, ep, rfl, et⟩ := hP.get ex
    have hi_ : i < ts.length := (List.getElem?_eq_some_iff.mp ex).1
    have sA := s2.trans sm
    have h2 := ok.few
    refine ⟨_, rfl, _, rfl, r, t, p, x, rfl, hp.same sA, okp, sA _ _ et, ok.inn x (List.mem_of_getElem? ep), fun H3 s3 => CYes.mk hi_ (s3 _ _ eD) (small1000 (by simp; omega)) ⟨(sm.trans s3).upd hD_, upd_same, ?_⟩⟩
    rw [take_snoc ep, List.map_append, List.map_append]
    rfl
  · obtain ⟨sm, eD, rfl⟩ := h
    rw [htl, List.take_length] at eD
    refine ⟨_, D, _, rfl, rfl, SqL.of eD, (by decide +kernel), join_ok (m := 600) (n := 2) (fun z hz => ?_) (by rw [List.length_map]; exact ok.few) (by decide), q' H' (s2.trans sm)⟩
    obtain ⟨x, hx, rfl⟩ := List.mem_map.mp hz
    exact partT_len (ok.inn x hx) ok.gd
theorem ok_law_head (F : Fun K "_law_head" "_law_head" s_law_head f fd) (bl : Bl K mg cWay cFirst cOnly cLike cLow cHigh cSum cDomain cNumbers cWords cTable) (c__law_domain_text : Callee P w K mg base 1 "_law_domain_text" ["domain"] (sp_law_domain_text K cWay cFirst cOnly cLike cLow cHigh cSum cDomain cNumbers cWords cTable)) : FnOk P w K mg base CX0 2 f fd ["plan", "k"] (sp_law_head K cWay cFirst cOnly cLike cLow cHigh cSum cDomain cNumbers cWords cTable) := by
  refine F.ok sc_law_head (fun vs H Q E h => ?_) (fun cdv A outer s H vs Q E hr h => ?_)
  · obtain ⟨r, k, zs, ds, ts, fN, t, nm, po, rfl, hPl, ok, et, enm, epo, q⟩ := h
    rfl
  obtain ⟨r, k, zs, ds, ts, fN, t, nm, po, rfl, hPl, ok, et, enm, epo, q⟩ := h
  refine ⟨_, (pss_cut (ps_asg (pv 0) (pg_tup rfl (pgs_cons (pg_name (i := 2) sc_law_head.nd rfl (Or.inr rfl)) (pgs_cons (pg_name (i := 3) sc_law_head.nd rfl (Or.inl rfl)) (pgs_cons (pg_name (i := 4) sc_law_head.nd rfl (Or.inl rfl)) pgs_nil)))))
     (pss_cut (ps_set (i := 5) sc_law_head.nd rfl (Or.inl rfl) (pe_op op_add (pe_op op_sub (pe_callB call_len_seq rfl bl.len_ PySem.boot_len (pa_cons (pv 2) pa_nil)) (pe_callB call_len_seq rfl bl.len_ PySem.boot_len (pa_cons (pv 4) pa_nil))) (pv 1)))
     (pss_cut (ps_set (i := 6) sc_law_head.nd rfl (Or.inl rfl) (pe_bm PySem.F.plainAttrs_str PySem.F.slot_str_join PySem.F.type_str_join mt_join pe_str (pa_cons (pe_comp (pi_list (pe_ix ix_tup (pe_ix ix_list (pv 4) (pv 1) (fun _ _ => rfl)) pe_int (fun _ _ => rfl))) (cmpOk_free (N := ["j", "names"]) (fr := [2]) (cl := [("names", s.heap.objs.size + 1)]) rfl rfl (by decide +kernel) (by decide +kernel) rfl (by decide +kernel) rfl rfl rfl (List.forall_mem_cons.mpr ⟨rfl, List.forall_mem_nil _⟩) rfl) rfl (fun _ _ _ _ => pif_nil) (fun _ _ _ _ => (pe_ix (ix_listK (K := K) rfl) (pv 1) (pv 0) (fun _ _ => rfl)))) pa_nil)))
     (pss_cut (ps_set (i := 7) sc_law_head.nd rfl (Or.inl rfl) (pe_op op_add_str (pe_op op_add_str (pe_op op_add_str pe_str (pe_fn c__law_domain_text hr rfl (pa_cons (pe_ix ix_list (pv 3) (pv 5) (fun _ _ => rfl)) pa_nil))) pe_str) (pe_ix ix_tup (pe_ix ix_list (pv 4) (pv 1) (fun _ _ => rfl)) pe_int (fun _ _ => rfl))))
     (pss_one (ps_ret (pe_op op_add_str (pe_op op_add_str (pe_op op_add_str (pe_op op_add_str pe_str (pe_ix ix_list (pv 2) (pv 5) (fun _ _ => rfl))) pe_str) (pv 6)) (pv 7)))))))), ?_⟩
  obtain ⟨nl, dl, tl_, dv, tv, er, enl, edl, hdv, etl, htv⟩ := id hPl
  obtain ⟨ta, eta, cl, rl, rx, g1, g2, g3, g4⟩ := htv.2 k t et
  have hzl : (zs.map V.str).length = zs.length := List.length_map _
  have hl1 := ok.len
  have hl2 := ok.tab
  have htl : tv.length = ts.length := htv.1
  have h7 := ok.n7
  have tok := ok.tabs k t et
  have hlt := ok.lt et
  have hown := ok.own et
  have hc3 : t.cols.length ≤ 3 := tok.ok.few
  have hvl : (vN t.cols).length = t.cols.length := vN_len _
  have ltz : ∀ j ∈ t.cols, j < zs.length := fun j hj => by rw [hl1]; exact hlt j hj
  have gz := prm_get (os := t.cols) (xs := zs) ltz
  have okp := ok.doms po (List.mem_of_getElem? epo)
  have z12 : ∀ z ∈ prm t.cols zs, z.length ≤ 12 := fun z hz => ok.nm12 (mem_prm hz)
  refine ⟨fun σ' H' => H' = H ∧ σ' = [some (.ref r), some (.int (k : Int)), some (.ref nl), some (.ref dl), some (.ref tl_), none, none, none], ⟨_, rfl, r, _, rfl, SqT.of er, rfl, _, _, rfl, _, _, rfl, _, _, rfl, rfl, rfl, rfl⟩, ?_⟩
  rintro σ1 H1 ⟨rfl, rfl⟩
  refine ⟨fun σ' H' => H' = H1 ∧ σ' = [some (.ref r), some (.int (k : Int)), some (.ref nl), some (.ref dl), some (.ref tl_), some (.int ((fN + k : Nat) : Int)), none, none], ⟨_, rfl, nl, _, rfl, .inl (SqL.of enl), _, rfl, tl_, _, rfl, .inl (SqL.of etl), _, _, rfl, rfl, _, rfl, _, _, rfl, rfl, rfl, ?_⟩, ?_⟩
  · rw [show ((fN + k : Nat) : Int) = (((zs.map V.str).length : Nat) : Int) - ((tv.length : Nat) : Int) + (k : Int) by omega]
    rfl
  rintro σ2 H2 ⟨rfl, rfl⟩
  refine ⟨fun σ' H' => Same H2 H' ∧ σ' = [some (.ref r), some (.int (k : Int)), some (.ref nl), some (.ref dl), some (.ref tl_), some (.int ((fN + k : Nat) : Int)), some (.str (Txt.join (Str.ofString ", ") (prm t.cols zs))), none], ?_, ?_⟩
  · refine ⟨rfl, _, rfl, _, rfl, tl_, _, _, _, rfl, rfl, SqL.of etl, atI_nat eta, ta, _, _, _, rfl, rfl, SqT.of g1, rfl, cl, rfl, ⟨_, SqL.of g2⟩, comp_list (xs := vN t.cols) (fun D i ys H' => Same H2 H' ∧ H' D = some (.lst ys) ∧ ys = (prm (t.cols.take i) zs).map V.str) (fun D hD => ⟨same_new hD _, upd_same, rfl⟩) (fun D i ys H' hD _ h => SqL.of (h.1 _ _ g2)) (fun D i y ys H' hD e h => ?_) (fun D ys H' hD h => ?_)⟩
    · obtain ⟨sm, eD, rfl⟩ := h
      obtain ⟨j, rfl, ej⟩ := vN_of e
      have ez := List.getElem?_eq_getElem (l := zs) (i := j) (ltz j (List.mem_of_getElem? ej))
      have hi : i < (vN t.cols).length := (List.getElem?_eq_some_iff.mp e).1
      refine ⟨_, rfl, _, rfl, nl, _, _, _, rfl, rfl, SqL.of (sm _ _ enl), atI_nat (put_strs ez), CYes.mk hi eD (small1000 ?_) ⟨sm.upd hD, upd_same, ?_⟩⟩
      · rw [List.length_map, (prm_get (os := t.cols.take i) (xs := zs) fun j hj => ltz j (List.mem_of_mem_take hj)).1, List.length_take]; omega
      · rw [take_snoc ej, prm_snoc ez, List.map_append]; rfl
    · obtain ⟨sm, eD, rfl⟩ := h
      rw [hvl, List.take_length] at eD
      exact ⟨_, D, _, rfl, rfl, SqL.of eD, (by decide +kernel), join_ok (m := 12) (n := 4) z12 (by rw [gz.1]; omega) (by decide), sm, rfl⟩
  rintro σ3 H3 ⟨s3, rfl⟩
  obtain ⟨da, e2, hpd⟩ := hdv.2 (fN + k) po epo
  have lw := writT_len okp.gd okp.b1 okp.b2
  have lwy := six12 tok.ok.way
  have lwy : t.way.length ≤ 12 := lwy
  have lnm := ok.nm12 (List.mem_of_getElem? enm)
  have lj := jn_len (sep := ofS ", ") (zs := prm t.cols zs) (m := 12) (n := 4) (by decide +kernel) z12 (by rw [gz.1]; omega)
  have lj : (Txt.join (Str.ofString ", ") (prm t.cols zs)).length ≤ 60 := lj
  refine ⟨fun σ' H' => H' = H3 ∧ σ' = [some (.ref r), some (.int (k : Int)), some (.ref nl), some (.ref dl), some (.ref tl_), some (.int ((fN + k : Nat) : Int)), some (.str (Txt.join (Str.ofString ", ") (prm t.cols zs))), some (.str (Str.ofString " -> " ++ writT po.k ++ Str.ofString " by " ++ t.way))], ⟨_, rfl, _, rfl, dl, _, _, _, rfl, rfl, SqL.of (s3 _ _ edl), atI_nat e2, da, po, rfl, hpd.same s3, okp, _, _, rfl, rfl, big4 (by rw [l_to]; omega), _, _, rfl, rfl, big4 (by rw [len_ap, l_to, l_by]; omega), _, rfl, _, rfl, tl_, _, _, _, rfl, rfl, SqL.of (s3 _ _ etl), atI_nat eta, ta, _, _, _, rfl, rfl, SqT.of (s3 _ _ g1), rfl, _, _, rfl, rfl, big4 (by rw [len_ap, len_ap, l_to, l_by]; omega), rfl, rfl⟩, ?_⟩
  rintro σ4 H4 ⟨rfl, rfl⟩
  have := q H4 s3
  rw [← headT_law] at this
  exact ⟨_, rfl, _, rfl, nl, _, _, _, rfl, rfl, SqL.of (s3 _ _ enl), atI_nat (put_strs enm), _, _, rfl, rfl, big4 (by rw [l_table]; omega), _, _, rfl, rfl, big4 (by rw [len_ap, l_table, l_named]; omega), _, rfl, _, _, rfl, rfl, big4 (by rw [len_ap, len_ap, l_table, l_named]; omega), _, rfl, _, _, rfl, rfl, big4 (by rw [len_ap, len_ap, len_ap, len_ap, len_ap, len_ap, l_table, l_named, l_to, l_by]; omega), this⟩
theorem ok_First___init___First (F : Fun K "__init__" "First.__init__" s_First___init___First f fd) (bl : Bl K mg cWay cFirst cOnly cLike cLow cHigh cSum cDomain cNumbers cWords cTable) (b_Way___init___First : BCallee CX0 P w K mg base 1 "Way" "__init__" ["self", "called"] (sp_Way___init___First K cWay cFirst cOnly cLike cLow cHigh cSum cDomain cNumbers cWords cTable)) : FnOk P w K mg base CX0 2 f fd ["self"] (sp_First___init___First K cWay cFirst cOnly cLike cLow cHigh cSum cDomain cNumbers cWords cTable) := by
  refine F.ok sc_First___init___First (fun vs H Q E h => ?_) (fun cdv A outer s H vs Q E hr h => ?_)
  · obtain ⟨x, dx, rfl, hx, q⟩ := h
    rfl
  obtain ⟨x, dx, rfl, hx, q⟩ := h
  refine ⟨_, (pss_one (ps_expr (pe_base b_Way___init___First pass0 hr rfl (pa_cons (pv 0) (pa_cons pe_str pa_nil))))), ?_⟩
  exact ⟨_, rfl, x, dx, _, rfl, hx, q⟩
theorem ok_Only___init___Only (F : Fun K "__init__" "Only.__init__" s_Only___init___Only f fd) (bl : Bl K mg cWay cFirst cOnly cLike cLow cHigh cSum cDomain cNumbers cWords cTable) (b_Way___init___Only : BCallee CX0 P w K mg base 1 "Way" "__init__" ["self", "called"] (sp_Way___init___Only K cWay cFirst cOnly cLike cLow cHigh cSum cDomain cNumbers cWords cTable)) : FnOk P w K mg base CX0 2 f fd ["self"] (sp_Only___init___Only K cWay cFirst cOnly cLike cLow cHigh cSum cDomain cNumbers cWords cTable) := by
  refine F.ok sc_Only___init___Only (fun vs H Q E h => ?_) (fun cdv A outer s H vs Q E hr h => ?_)
  · obtain ⟨x, dx, rfl, hx, q⟩ := h
    rfl
  obtain ⟨x, dx, rfl, hx, q⟩ := h
  refine ⟨_, (pss_one (ps_expr (pe_base b_Way___init___Only pass0 hr rfl (pa_cons (pv 0) (pa_cons pe_str pa_nil))))), ?_⟩
  exact ⟨_, rfl, x, dx, _, rfl, hx, q⟩
theorem ok_Like___init___Like (F : Fun K "__init__" "Like.__init__" s_Like___init___Like f fd) (bl : Bl K mg cWay cFirst cOnly cLike cLow cHigh cSum cDomain cNumbers cWords cTable) (b_Way___init___Like : BCallee CX0 P w K mg base 1 "Way" "__init__" ["self", "called"] (sp_Way___init___Like K cWay cFirst cOnly cLike cLow cHigh cSum cDomain cNumbers cWords cTable)) : FnOk P w K mg base CX0 2 f fd ["self"] (sp_Like___init___Like K cWay cFirst cOnly cLike cLow cHigh cSum cDomain cNumbers cWords cTable) := by
  refine F.ok sc_Like___init___Like (fun vs H Q E h => ?_) (fun cdv A outer s H vs Q E hr h => ?_)
  · obtain ⟨x, dx, rfl, hx, q⟩ := h
    rfl
  obtain ⟨x, dx, rfl, hx, q⟩ := h
  refine ⟨_, (pss_one (ps_expr (pe_base b_Way___init___Like pass0 hr rfl (pa_cons (pv 0) (pa_cons pe_str pa_nil))))), ?_⟩
  exact ⟨_, rfl, x, dx, _, rfl, hx, q⟩
theorem ok_Low___init___Low (F : Fun K "__init__" "Low.__init__" s_Low___init___Low f fd) (bl : Bl K mg cWay cFirst cOnly cLike cLow cHigh cSum cDomain cNumbers cWords cTable) (b_Way___init___Low : BCallee CX0 P w K mg base 1 "Way" "__init__" ["self", "called"] (sp_Way___init___Low K cWay cFirst cOnly cLike cLow cHigh cSum cDomain cNumbers cWords cTable)) : FnOk P w K mg base CX0 2 f fd ["self"] (sp_Low___init___Low K cWay cFirst cOnly cLike cLow cHigh cSum cDomain cNumbers cWords cTable) := by
  refine F.ok sc_Low___init___Low (fun vs H Q E h => ?_) (fun cdv A outer s H vs Q E hr h => ?_)
  · obtain ⟨x, dx, rfl, hx, q⟩ := h
    rfl
  obtain ⟨x, dx, rfl, hx, q⟩ := h
  refine ⟨_, (pss_one (ps_expr (pe_base b_Way___init___Low pass0 hr rfl (pa_cons (pv 0) (pa_cons pe_str pa_nil))))), ?_⟩
  exact ⟨_, rfl, x, dx, _, rfl, hx, q⟩
theorem ok_High___init___High (F : Fun K "__init__" "High.__init__" s_High___init___High f fd) (bl : Bl K mg cWay cFirst cOnly cLike cLow cHigh cSum cDomain cNumbers cWords cTable) (b_Way___init___High : BCallee CX0 P w K mg base 1 "Way" "__init__" ["self", "called"] (sp_Way___init___High K cWay cFirst cOnly cLike cLow cHigh cSum cDomain cNumbers cWords cTable)) : FnOk P w K mg base CX0 2 f fd ["self"] (sp_High___init___High K cWay cFirst cOnly cLike cLow cHigh cSum cDomain cNumbers cWords cTable) := by
  refine F.ok sc_High___init___High (fun vs H Q E h => ?_) (fun cdv A outer s H vs Q E hr h => ?_)
  · obtain ⟨x, dx, rfl, hx, q⟩ := h
    rfl
  obtain ⟨x, dx, rfl, hx, q⟩ := h
  refine ⟨_, (pss_one (ps_expr (pe_base b_Way___init___High pass0 hr rfl (pa_cons (pv 0) (pa_cons pe_str pa_nil))))), ?_⟩
  exact ⟨_, rfl, x, dx, _, rfl, hx, q⟩
theorem ok_Sum___init___Sum (F : Fun K "__init__" "Sum.__init__" s_Sum___init___Sum f fd) (bl : Bl K mg cWay cFirst cOnly cLike cLow cHigh cSum cDomain cNumbers cWords cTable) (b_Way___init___Sum : BCallee CX0 P w K mg base 1 "Way" "__init__" ["self", "called"] (sp_Way___init___Sum K cWay cFirst cOnly cLike cLow cHigh cSum cDomain cNumbers cWords cTable)) : FnOk P w K mg base CX0 2 f fd ["self"] (sp_Sum___init___Sum K cWay cFirst cOnly cLike cLow cHigh cSum cDomain cNumbers cWords cTable) := by
  refine F.ok sc_Sum___init___Sum (fun vs H Q E h => ?_) (fun cdv A outer s H vs Q E hr h => ?_)
  · obtain ⟨x, dx, rfl, hx, q⟩ := h
    rfl
  obtain ⟨x, dx, rfl, hx, q⟩ := h
  refine ⟨_, (pss_one (ps_expr (pe_base b_Way___init___Sum pass0 hr rfl (pa_cons (pv 0) (pa_cons pe_str pa_nil))))), ?_⟩
  exact ⟨_, rfl, x, dx, _, rfl, hx, q⟩
theorem ok_Domain_has_code_Numbers (F : Fun K "has_code" "Domain.has_code" s_Domain_has_code_Numbers f fd) (bl : Bl K mg cWay cFirst cOnly cLike cLow cHigh cSum cDomain cNumbers cWords cTable) (c_is_whole : Callee P w K mg base 1 "is_whole" ["value"] (sp_is_whole K cWay cFirst cOnly cLike cLow cHigh cSum cDomain cNumbers cWords cTable)) : FnOk P w K mg base CX0 2 f fd ["self", "value"] (sp_Domain_has_code_Numbers K cWay cFirst cOnly cLike cLow cHigh cSum cDomain cNumbers cWords cTable) := by
  refine F.ok sc_Domain_has_code_Numbers (fun vs H Q E h => ?_) (fun cdv A outer s H vs Q E hr h => ?_)
  · obtain ⟨a, b, i, rfl, ⟨dx, fs, ha, hl, hh, _⟩, h1, h2, q⟩ := h
    rfl
  obtain ⟨a, b, i, rfl, ⟨dx, fs, ha, hl, hh, _⟩, h1, h2, q⟩ := h
  refine ⟨_, (pss_one (ps_ret (pe_and (pe_fn c_is_whole hr rfl (pa_cons (pv 1) pa_nil)) (pe_one (pe_chain op_le op_le (pe_fld (pv 0) rfl) (pv 1) (pe_fld (pv 0) rfl)))))), ?_⟩
  refine ⟨_, rfl, i, rfl, _, rfl, iteT ?_⟩
  refine ⟨_, rfl, a, _, _, _, _, rfl, ha, bl.k_Numbers, bl.na_Numbers_low, hl, _, rfl, _, _, rfl, rfl, _, rfl, iteTS h1 ?_⟩
  refine ⟨_, rfl, a, _, _, _, _, rfl, ha, bl.k_Numbers, bl.na_Numbers_high, hh, _, _, rfl, rfl, ?_⟩
  show Q (.bl (decide (i ≤ b.2))) H
  rw [decide_eq_true h2]
  exact q
theorem ok_Domain_has_code_Words (F : Fun K "has_code" "Domain.has_code" s_Domain_has_code_Words f fd) (bl : Bl K mg cWay cFirst cOnly cLike cLow cHigh cSum cDomain cNumbers cWords cTable) (c_is_whole : Callee P w K mg base 1 "is_whole" ["value"] (sp_is_whole K cWay cFirst cOnly cLike cLow cHigh cSum cDomain cNumbers cWords cTable)) : FnOk P w K mg base CX0 2 f fd ["self", "value"] (sp_Domain_has_code_Words K cWay cFirst cOnly cLike cLow cHigh cSum cDomain cNumbers cWords cTable) := by
  refine F.ok sc_Domain_has_code_Words (fun vs H Q E h => ?_) (fun cdv A outer s H vs Q E hr h => ?_)
  · obtain ⟨a, b, i, rfl, ⟨dx, fs, ha, hl, hh, _⟩, h1, h2, q⟩ := h
    rfl
  obtain ⟨a, b, i, rfl, ⟨dx, fs, ha, hl, hh, _⟩, h1, h2, q⟩ := h
  refine ⟨_, (pss_one (ps_ret (pe_and (pe_fn c_is_whole hr rfl (pa_cons (pv 1) pa_nil)) (pe_one (pe_chain op_le op_le (pe_fld (pv 0) rfl) (pv 1) (pe_fld (pv 0) rfl)))))), ?_⟩
  refine ⟨_, rfl, i, rfl, _, rfl, iteT ?_⟩
  refine ⟨_, rfl, a, _, _, _, _, rfl, ha, bl.k_Words, bl.na_Words_low, hl, _, rfl, _, _, rfl, rfl, _, rfl, iteTS h1 ?_⟩
  refine ⟨_, rfl, a, _, _, _, _, rfl, ha, bl.k_Words, bl.na_Words_high, hh, _, _, rfl, rfl, ?_⟩
  show Q (.bl (decide (i ≤ b.2))) H
  rw [decide_eq_true h2]
  exact q
theorem ok_Numbers___init___Numbers (F : Fun K "__init__" "Numbers.__init__" s_Numbers___init___Numbers f fd) (bl : Bl K mg cWay cFirst cOnly cLike cLow cHigh cSum cDomain cNumbers cWords cTable) (b_Domain___init___Numbers : BCallee CX0 P w K mg base 1 "Domain" "__init__" ["self", "low", "high"] (sp_Domain___init___Numbers K cWay cFirst cOnly cLike cLow cHigh cSum cDomain cNumbers cWords cTable)) : FnOk P w K mg base CX0 2 f fd ["self", "low", "high"] (sp_Numbers___init___Numbers K cWay cFirst cOnly cLike cLow cHigh cSum cDomain cNumbers cWords cTable) := by
  refine F.ok sc_Numbers___init___Numbers (fun vs H Q E h => ?_) (fun cdv A outer s H vs Q E hr h => ?_)
  · obtain ⟨x, dx, lo, hi, rfl, hx, hle, q⟩ := h
    rfl
  obtain ⟨x, dx, lo, hi, rfl, hx, hle, q⟩ := h
  refine ⟨_, (pss_cons (ps_if (pt_cmpR op_gt (pv 1) (pv 2) (nomark _))
     (pss_one ps_never)
     pss_nil)
     (pss_one (ps_expr (pe_base b_Domain___init___Numbers pass0 hr rfl (pa_cons (pv 0) (pa_cons (pv 1) (pa_cons (pv 2) pa_nil))))))), ?_⟩
  exact ⟨_, rfl, _, rfl, _, _, rfl, rfl, _, rfl, iteFS (by omega) ⟨_, rfl, _, rfl, _, rfl, x, dx, lo, hi, rfl, hx, q⟩⟩
theorem ok_Numbers_written_Numbers (F : Fun K "written" "Numbers.written" s_Numbers_written_Numbers f fd) (bl : Bl K mg cWay cFirst cOnly cLike cLow cHigh cSum cDomain cNumbers cWords cTable) (c_number_text : Callee P w K mg base 1 "number_text" ["number"] (sp_number_text K cWay cFirst cOnly cLike cLow cHigh cSum cDomain cNumbers cWords cTable)) : FnOk P w K mg base CX0 2 f fd ["self"] (sp_Numbers_written_Numbers K cWay cFirst cOnly cLike cLow cHigh cSum cDomain cNumbers cWords cTable) := by
  refine F.ok sc_Numbers_written_Numbers (fun vs H Q E h => ?_) (fun cdv A outer s H vs Q E hr h => ?_)
  · obtain ⟨a, lo, hi, rfl, ⟨dx, ha⟩, b1, b2, q⟩ := h
    rfl
  obtain ⟨a, lo, hi, rfl, ⟨dx, ha⟩, b1, b2, q⟩ := h
  refine ⟨_, (pss_one (ps_ret (pe_op op_add_str (pe_op op_add_str (pe_fn c_number_text hr rfl (pa_cons (pe_fld (pv 0) rfl) pa_nil)) pe_str) (pe_fn c_number_text hr rfl (pa_cons (pe_fld (pv 0) rfl) pa_nil))))), ?_⟩
  have l1 := len_num b1
  have l2 := len_num b2
  exact ⟨_, rfl, a, _, _, _, _, rfl, ha, bl.k_Numbers, bl.na_Numbers_low, rfl, lo, rfl, b1, _, _, rfl, rfl, big (by rw [dots2]; omega), _, rfl, a, _, _, _, _, rfl, ha, bl.k_Numbers, bl.na_Numbers_high, rfl, hi, rfl, b2, _, _, rfl, rfl, big (by rw [len_ap, dots2]; omega), q⟩
theorem ok_show_cell (F : Fun K "show_cell" "show_cell" s_show_cell f fd) (bl : Bl K mg cWay cFirst cOnly cLike cLow cHigh cSum cDomain cNumbers cWords cTable) (m_Domain_whole_Numbers : MCallee CX0 P w K mg base 2 cNumbers "whole" ["self"] (sp_Domain_whole_Numbers K cWay cFirst cOnly cLike cLow cHigh cSum cDomain cNumbers cWords cTable)) (m_Domain_whole_Words : MCallee CX0 P w K mg base 2 cWords "whole" ["self"] (sp_Domain_whole_Words K cWay cFirst cOnly cLike cLow cHigh cSum cDomain cNumbers cWords cTable)) (c_words_of : Callee P w K mg base 2 "words_of" ["domain", "spans"] (sp_words_of K cWay cFirst cOnly cLike cLow cHigh cSum cDomain cNumbers cWords cTable)) (c_show_range : Callee P w K mg base 2 "show_range" ["domain", "low", "high"] (sp_show_range K cWay cFirst cOnly cLike cLow cHigh cSum cDomain cNumbers cWords cTable)) : FnOk P w K mg base CX0 3 f fd ["domain", "spans"] (sp_show_cell K cWay cFirst cOnly cLike cLow cHigh cSum cDomain cNumbers cWords cTable) := by
  refine F.ok sc_show_cell (fun vs H Q E h => ?_) (fun cdv A outer s H vs Q E hr h => ?_)
  · obtain ⟨d, l, k, ts, ps, rfl, hD, el, hP, ok, q⟩ := h
    rfl
  obtain ⟨d, l, k, ts, ps, rfl, hD, el, hP, ok, q⟩ := h
  refine ⟨_, (pss_cons (ps_if (pt_not (pt_truth (pv 1) (by intro _; rfl)))
     (pss_one (ps_ret (pe_op op_add_str (pe_gl rfl bl.NOT_) (pe_gl rfl bl.ALL_))))
     pss_nil)
     (pss_cons (ps_if (pt_cmpR (op_eqL hr) (pv 1) (pe_mtP0 (polc m_Domain_whole_Numbers bl.k_Numbers (polc m_Domain_whole_Words bl.k_Words poln)) pass0 hr (pv 0)) (nomark _))
     (pss_one (ps_ret (pe_gl rfl bl.ALL_)))
     pss_nil)
     (pss_cons (ps_if (pt_val (pe_callB call_isiG rfl bl.isinstance_ PyProof.Rows.boot_isinstance (pa_cons (pv 0) (pa_cons (pe_glob (v := .ref cWords) rfl bl.Words_ rfl) pa_nil))))
     (pss_one (ps_ret (pe_bm PySem.F.plainAttrs_str PySem.F.slot_str_join PySem.F.type_str_join mt_join pe_str (pa_cons (pe_fn c_words_of hr rfl (pa_cons (pv 0) (pa_cons (pv 1) pa_nil))) pa_nil))))
     pss_nil)
     (pss_one (ps_ret (pe_bm PySem.F.plainAttrs_str PySem.F.slot_str_join PySem.F.type_str_join mt_join pe_str (pa_cons (pe_compG (pi_list (pv 1)) (cmpOkG_free (N := ["low", "high", "domain"]) (k := 2) (fr := [0]) (cl := [("domain", s.heap.objs.size + 1)]) rfl rfl (by decide +kernel) (by decide +kernel) rfl rfl (List.forall_mem_cons.mpr ⟨rfl, List.forall_mem_nil _⟩) rfl) rfl (fun _ _ _ _ => (gTupK (K := K) (n := 2) rfl rfl (pgs_cons (pg_name (i := 0) (show (["low", "high", "domain"] : List Str).Nodup by decide +kernel) rfl (Or.inl rfl) (Or.inr rfl)) (pgs_cons (pg_name (i := 1) (show (["low", "high", "domain"] : List Str).Nodup by decide +kernel) rfl (Or.inl rfl) (Or.inr rfl)) pgs_nil)))) (fun _ _ _ _ => pif_nil) (fun _ _ _ _ => (pe_fn c_show_range hr rfl (pa_cons (pv 2) (pa_cons (pv 0) (pa_cons (pv 1) pa_nil)))))) pa_nil))))))), ?_⟩
  have htl := hP.length
  by_cases hne : ps = []
  · have ets := (pl_nil hP).mpr hne
    subst ets hne
    have := q H (Same.refl H)
    rw [fieldT_nil, ← not_all] at this
    exact ⟨_, rfl, false, .inl ⟨_, SqL.of el, rfl⟩, iteT ⟨_, _, rfl, rfl, (by decide +kernel), this⟩⟩
  have tne : ts ≠ [] := fun z => hne ((pl_nil hP).mp z)
  have tb : (!ts.isEmpty) = true := by cases ts with | nil => exact absurd rfl tne | cons => rfl
  refine ⟨_, rfl, true, .inl ⟨_, SqL.of el, ?_⟩, iteF ?_⟩
  · cases ts with
    | nil => exact absurd rfl tne
    | cons => rfl
  obtain ⟨w, lo, hi⟩ := k
  cases w with
  | none =>
    obtain ⟨dx, ha⟩ := id hD
    refine ⟨_, rfl, _, rfl, d, _, dx, _, rfl, .head _, ha, rfl, d, lo, hi, rfl, hD, fun l2 t2 H2 s2 e2 f2 => ?_⟩
    refine eqL_whole (q := (lo, hi)) (SqL.of (s2 _ _ el)) (hP.mono s2.tups) (SqL.of e2) f2 ⟨_, rfl, ?_⟩
    refine ite2 (fun g => ?_) (fun g => ?_)
    · have := q H2 s2
      rw [fieldT_all (k := (none, lo, hi)) (dec_t g)] at this
      exact this
    · have q' := fun H' s' => q H' s'
      rw [fieldT_parts hne (dec_f g)] at q'
      refine ⟨_, rfl, _, _, _, _, false, rfl, .ref _, bl.t_Numbers.ty (s2 _ _ ha), bl.f_nw, _, rfl, iteF ?_⟩
      refine ⟨rfl, _, rfl, l, rfl, ⟨_, SqL.of (s2 _ _ el)⟩, compG_list (xs := ts) (fun D i zs H' => Same H2 H' ∧ H' D = some (.lst zs) ∧ zs = ((ps.take i).map (partT (none, lo, hi))).map V.str) (fun D hD_ => ⟨same_new hD_ _, upd_same, rfl⟩) (fun D i zs H' hD_ _ h => SqL.of ((s2.trans h.1) _ _ el)) (fun D i x zs H' hD_ ex h ts_ hts => ?_) (fun D zs H' hD_ h => ?_)⟩
      · obtain ⟨sm, eD, rfl⟩ := h
        obtain ⟨p, t, ep, rfl, et⟩ := hP.get ex
        have hi_ : i < ts.length := (List.getElem?_eq_some_iff.mp ex).1
        have sA := s2.trans sm
        have okp := ok.inn p (List.mem_of_getElem? ep)
        have h2 := ok.few
        obtain ⟨t0, t1, rfl⟩ : ∃ t0 t1, ts_ = [t0, t1] := by
          match ts_, hts with
          | [t0, t1], _ => exact ⟨t0, t1, rfl⟩
        refine ⟨t, _, rfl, SqT.of (sA _ _ et), rfl, _, _, rfl, _, _, rfl, rfl, ⟨[some (.int p.1), some (.int p.2)], rfl, rfl⟩, ?_⟩
        refine ⟨_, rfl, _, rfl, _, rfl, d, lo, hi, p, rfl, NumD.same hD sA, okp.b1, okp.b2, CYes.mk hi_ eD (small1000 (by simp; omega)) ⟨sm.upd hD_, upd_same, ?_⟩⟩
        rw [take_snoc ep, List.map_append, List.map_append]
        rfl
      · obtain ⟨sm, eD, rfl⟩ := h
        rw [htl, List.take_length] at eD
        refine ⟨_, D, _, rfl, rfl, SqL.of eD, (by decide +kernel), join_ok (m := 600) (n := 2) (fun z hz => ?_) (by rw [List.length_map]; exact ok.few) (by decide), q' H' (s2.trans sm)⟩
        obtain ⟨p, hp, rfl⟩ := List.mem_map.mp hz
        exact partT_len (ok.inn p hp) ok.gd
  | some zs =>
    obtain ⟨hW, e0, e1, hg⟩ := id hD
    have e0 : lo = 0 := e0
    have e1 : hi = hiW zs := e1
    obtain ⟨dx, wl, ha, hwl⟩ := id hW
    refine ⟨_, rfl, _, rfl, d, _, dx, _, rfl, .tail _ (.head _), ha, rfl, d, zs, rfl, hW, fun l2 t2 H2 s2 e2 f2 => ?_⟩
    refine eqL_whole (q := (0, hiW zs)) (SqL.of (s2 _ _ el)) (hP.mono s2.tups) (SqL.of e2) f2 ⟨_, rfl, ?_⟩
    refine ite2 (fun g => ?_) (fun g => ?_)
    · have := q H2 s2
      rw [fieldT_all (k := (some zs, lo, hi)) (by rw [e0, e1]; exact dec_t g)] at this
      exact this
    · have q' := fun H' s' => q H' s'
      rw [fieldT_parts hne (by rw [e0, e1]; exact dec_f g), field_words ok] at q'
      refine ⟨_, rfl, _, _, _, _, true, rfl, .ref _, bl.t_Words.ty (s2 _ _ ha), bl.f_ww, _, rfl, iteT ?_⟩
      refine ⟨rfl, _, rfl, _, rfl, d, l, zs, ts, ps, rfl, hW.same s2, hg.few, s2 _ _ el, hP.mono s2.tups, ok.few, fun w3 H3 s3 e3 => ?_⟩
      refine ⟨_, w3, _, rfl, rfl, SqL.of e3, (by decide +kernel), join_ok (m := 12) (n := 80) (fun z hz => isw_len (hg.words z (cutW_mem hz))) (Nat.le_trans (cutW_len zs ps) (Nat.le_trans (Nat.mul_le_mul ok.few hg.few) (by decide))) (by decide), q' H3 (s2.trans s3)⟩
theorem ok_refuse_names (F : Fun K "refuse_names" "refuse_names" s_refuse_names f fd) (bl : Bl K mg cWay cFirst cOnly cLike cLow cHigh cSum cDomain cNumbers cWords cTable) (c_is_word : Callee P w K mg base 2 "is_word" ["text"] (sp_is_word K cWay cFirst cOnly cLike cLow cHigh cSum cDomain cNumbers cWords cTable)) : FnOk P w K mg base CX0 3 f fd ["names"] (sp_refuse_names K cWay cFirst cOnly cLike cLow cHigh cSum cDomain cNumbers cWords cTable) := by
  refine F.ok sc_refuse_names (fun vs H Q E h => ?_) (fun cdv A outer s H vs Q E hr h => ?_)
  · obtain ⟨p, zs, rfl, hS, hw, hn, hl, q⟩ := h
    rfl
  obtain ⟨p, zs, rfl, hS, hw, hn, hl, q⟩ := h
  refine ⟨_, (pss_cut (ps_for PassesOwn.never rfl (pi_list (pv 0)) (pg_name (i := 1) sc_refuse_names.nd rfl (Or.inl rfl))
     (pss_one (ps_if (pt_not (pt_val (pe_fn c_is_word hr rfl (pa_cons (pv 1) pa_nil))))
     (pss_one ps_never)
     pss_nil)))
     (pss_one (ps_if (pt_cmpR op_lt (pe_callB call_len_setO rfl bl.len_ PySem.boot_len (pa_cons (pe_callTy (call_set_strs rfl) rfl bl.set_ PyProof.Rows.boot_set (pa_cons (pv 0) pa_nil)) pa_nil)) (pe_callB call_len_seq rfl bl.len_ PySem.boot_len (pa_cons (pv 0) pa_nil)) (nomark _))
     (pss_one ps_never)
     pss_nil))), ?_⟩
  have hlen : (zs.map V.str).length = zs.length := List.length_map _
  refine ⟨fun σ' H' => H' = H ∧ ∃ c1 : Option V, σ' = [some (.ref p), c1], ?_, ?_⟩
  · refine ⟨_, rfl, p, rfl, ⟨_, hS⟩, for_list (xs := zs.map V.str) (fun i σ H' => H' = H ∧ ∃ c1 : Option V, σ = [some (.ref p), c1]) ⟨rfl, _, rfl⟩ (fun i σ H' _ h => by rw [h.1]; exact hS) (fun i y σ H' e h => ?_) (fun σ H' h => h)⟩
    obtain ⟨e0, c1, rfl⟩ := h
    rw [e0]
    obtain ⟨z, rfl, ez⟩ := get_strs e
    have hz1 := hw z (List.mem_of_getElem? ez)
    have hz : z.length ≤ 1000 := by
      have hw2 := hz1
      unfold isw at hw2
      simp only [Bool.and_eq_true, decide_eq_true_eq] at hw2
      omega
    refine ⟨_, rfl, z, rfl, hz, _, rfl, ?_⟩
    rw [hz1]
    exact iteF ⟨rfl, _, rfl⟩
  rintro σ2 H2 ⟨e2, c1, rfl⟩
  rw [e2]
  refine ⟨_, rfl, p, zs, rfl, hS, by omega, fun l hl2 => ⟨l, zs, rfl, upd_same, by omega, _, rfl, p, _, rfl, .inl ((same_new hl2 _).seq hS), _, _, rfl, rfl, _, rfl, ?_⟩⟩
  have cf := cntK_full zs zs.length (Nat.le_refl _)
  rw [List.take_length] at cf
  exact iteFS (by rw [hlen, cf.mpr hn]; omega) (q _ (same_new hl2 _))
theorem ok_refuse_row (F : Fun K "refuse_row" "refuse_row" s_refuse_row f fd) (bl : Bl K mg cWay cFirst cOnly cLike cLow cHigh cSum cDomain cNumbers cWords cTable) (m_Domain_has_code_Numbers : MCallee CX0 P w K mg base 2 cNumbers "has_code" ["self", "value"] (sp_Domain_has_code_Numbers K cWay cFirst cOnly cLike cLow cHigh cSum cDomain cNumbers cWords cTable)) (m_Domain_has_code_Words : MCallee CX0 P w K mg base 2 cWords "has_code" ["self", "value"] (sp_Domain_has_code_Words K cWay cFirst cOnly cLike cLow cHigh cSum cDomain cNumbers cWords cTable)) : FnOk P w K mg base CX0 3 f fd ["domains", "outcome", "cells", "code"] (sp_refuse_row K cWay cFirst cOnly cLike cLow cHigh cSum cDomain cNumbers cWords cTable) := by
  refine F.ok sc_refuse_row (fun vs H Q E h => ?_) (fun cdv A outer s H vs Q E hr h => ?_)
  · obtain ⟨dl, ou, cl, dv, xs, bs, o, w_, rfl, hD, hdv, hO, hC, hcl, ok, q⟩ := h
    rfl
  obtain ⟨dl, ou, cl, dv, xs, bs, o, w_, rfl, hD, hdv, hO, hC, hcl, ok, q⟩ := h
  refine ⟨_, (pss_cons (ps_if (pt_cmpR op_ne (pe_callB call_len_seq rfl bl.len_ PySem.boot_len (pa_cons (pv 2) pa_nil)) (pe_callB call_len_seq rfl bl.len_ PySem.boot_len (pa_cons (pv 0) pa_nil)) (nomark _))
     (pss_one ps_never)
     pss_nil)
     (pss_cut (ps_for PassesOwn.never rfl (pi_zip rfl bl.zip_ (pa_cons (pv 0) (pa_cons (pv 2) pa_nil))) (pg_tup rfl (pgs_cons (pg_name (i := 4) sc_refuse_row.nd rfl (Or.inl rfl)) (pgs_cons (pg_name (i := 5) sc_refuse_row.nd rfl (Or.inl rfl)) pgs_nil)))
     (pss_one (ps_for PassesOwn.never rfl (pi_list (pv 5)) (pg_tup rfl (pgs_cons (pg_name (i := 6) sc_refuse_row.nd rfl (Or.inl rfl)) (pgs_cons (pg_name (i := 7) sc_refuse_row.nd rfl (Or.inl rfl)) pgs_nil)))
     (pss_one (ps_if (PW.pt (pw_or (pt_cmpR op_lt (pv 6) (pe_fld (pv 4) rfl) (nomark _)) (pw_or1 (pt_cmpR op_gt (pv 7) (pe_fld (pv 4) rfl) (nomark _)))))
     (pss_one ps_never)
     pss_nil)))))
     (pss_one (ps_if (pt_not (pt_val (pe_mtP (polc m_Domain_has_code_Numbers bl.k_Numbers (polc m_Domain_has_code_Words bl.k_Words poln)) pass0 hr (pv 1) (pa_cons (pv 3) pa_nil))))
     (pss_one ps_never)
     pss_nil)))), ?_⟩
  have hdf : ∀ (C : Addr), (C = cNumbers ∨ C = cWords) → Cls K C ∧ NoAttr K C (Str.ofString "low") ∧ NoAttr K C (Str.ofString "high") := fun C h => by
    rcases h with rfl | rfl
    · exact ⟨bl.k_Numbers, bl.na_Numbers_low, bl.na_Numbers_high⟩
    · exact ⟨bl.k_Words, bl.na_Words_low, bl.na_Words_high⟩
  have hlen : xs.length = dv.length := by rw [hcl.1, ok.len, hdv.1]
  refine ⟨_, rfl, cl, _, rfl, .inl (SqL.of hC), _, rfl, dl, _, rfl, .inl (hD), rfl, _, rfl, iteNS (by rw [hlen]) ?_⟩
  refine ⟨fun σ' H' => Same H H' ∧ ∃ c4 c5 c6 c7 : Option V, σ' = [some (.ref dl), some (.ref ou), some (.ref cl), some (.int w_.2), c4, c5, c6, c7], ?_, ?_⟩
  · refine ⟨_, rfl, _, rfl, dl, cl, rfl, ⟨_, hD⟩, ⟨_, SqL.of hC⟩, for_zip (xs := dv) (ys := xs) (fun i σ H' => Same H H' ∧ ∃ c4 c5 c6 c7 : Option V, σ = [some (.ref dl), some (.ref ou), some (.ref cl), some (.int w_.2), c4, c5, c6, c7]) ⟨Same.refl _, _, _, _, _, rfl⟩ (fun i σ H' h => ⟨h.1.seq hD, SqL.of (h.1 _ _ hC)⟩) (fun i x y σ H' T ex ey h hT => ?_) (fun σ H' h => h)⟩
    obtain ⟨sm, c4, c5, c6, c7, rfl⟩ := h
    have s2 := sm.trans (same_new hT (.tup [x, y]))
    have eT : upd H' T (.tup [x, y]) T = some (.tup [x, y]) := upd_same
    generalize upd H' T (.tup [x, y]) = H2 at s2 eT ⊢
    obtain ⟨a, b, rfl, eb, hb⟩ := hdv.get ex
    obtain ⟨l, ps, rfl, ep, hl⟩ := RefL.get hcl ey
    obtain ⟨C, hC', dx, fs, ha, f1, f2, _⟩ := hb.same s2
    obtain ⟨k1, k2, k3⟩ := hdf C hC'
    obtain ⟨_, ys, el, hp⟩ := hl.same s2
    refine ⟨T, _, rfl, SqT.of eT, rfl, _, _, rfl, _, _, rfl, rfl, ?_⟩
    refine ⟨_, rfl, l, rfl, ⟨_, SqL.of el⟩, for_list (xs := ys) (fun j σ H' => H' = H2 ∧ ∃ c6 c7 : Option V, σ = [some (.ref dl), some (.ref ou), some (.ref cl), some (.int w_.2), some (.ref a), some (.ref l), c6, c7]) ⟨rfl, _, _, rfl⟩ (fun j σ H' _ h => by rw [h.1]; exact SqL.of el) (fun j y σ H' e h => ?_) (fun σ H' h => ?_)⟩
    · obtain ⟨e0, c6, c7, rfl⟩ := h
      rw [e0]
      obtain ⟨p, r, e1, rfl, hr'⟩ := hp.get e
      obtain ⟨i1, i2⟩ := ok.inn i ps b ep eb p (List.mem_of_getElem? e1)
      refine ⟨r, _, rfl, SqT.of hr', rfl, _, _, rfl, _, _, rfl, rfl, ?_⟩
      refine ⟨_, rfl, _, rfl, a, _, _, _, _, rfl, ha, k1, k2, f1, _, _, rfl, rfl, _, rfl, iteFS (by omega) ?_⟩
      exact ⟨_, rfl, _, rfl, a, _, _, _, _, rfl, ha, k1, k3, f2, _, _, rfl, rfl, _, rfl, iteFS (by omega) ⟨rfl, _, _, rfl⟩⟩
    · obtain ⟨e0, c6, c7, rfl⟩ := h
      rw [e0]
      exact ⟨s2, _, _, _, _, rfl⟩
  rintro σ3 H3 ⟨s3, c4, c5, c6, c7, rfl⟩
  obtain ⟨C, hC', hd⟩ := hO.same s3
  obtain ⟨dx, fs, ha, f1, f2, f3⟩ := id hd
  rcases hC' with rfl | rfl
  · exact ⟨_, rfl, ou, _, dx, fs, rfl, .head _, ha, f3, _, rfl, ou, o, w_.2, rfl, hd, ok.lo, ok.hi, _, rfl, iteF (q _ s3)⟩
  · exact ⟨_, rfl, ou, _, dx, fs, rfl, .tail _ (.head _), ha, f3, _, rfl, ou, o, w_.2, rfl, hd, ok.lo, ok.hi, _, rfl, iteF (q _ s3)⟩
theorem ok_head_text (F : Fun K "head_text" "head_text" s_head_text f fd) (bl : Bl K mg cWay cFirst cOnly cLike cLow cHigh cSum cDomain cNumbers cWords cTable) (m_Numbers_written_Numbers : MCallee CX0 P w K mg base 2 cNumbers "written" ["self"] (sp_Numbers_written_Numbers K cWay cFirst cOnly cLike cLow cHigh cSum cDomain cNumbers cWords cTable)) (m_Words_written_Words : MCallee CX0 P w K mg base 2 cWords "written" ["self"] (sp_Words_written_Words K cWay cFirst cOnly cLike cLow cHigh cSum cDomain cNumbers cWords cTable)) : FnOk P w K mg base CX0 3 f fd ["table"] (sp_head_text K cWay cFirst cOnly cLike cLow cHigh cSum cDomain cNumbers cWords cTable) := by
  refine F.ok sc_head_text (fun vs H Q E h => ?_) (fun cdv A outer s H vs Q E hr h => ?_)
  · obtain ⟨t, ou, nm, wy, zs, dv, rws, p, rfl, ⟨rl, dx, na, dl, fs, xs, ht, f1, f2, f3, f4, f5, f6, ena, edl, erl, hR, h200⟩, hD, ok, l1, l2, l3, l4, q⟩ := h
    rfl
  obtain ⟨t, ou, nm, wy, zs, dv, rws, p, rfl, ⟨rl, dx, na, dl, fs, xs, ht, f1, f2, f3, f4, f5, f6, ena, edl, erl, hR, h200⟩, hD, ok, l1, l2, l3, l4, q⟩ := h
  refine ⟨_, (pss_cut (ps_set (i := 1) sc_head_text.nd rfl (Or.inl rfl) (pe_bm PySem.F.plainAttrs_str PySem.F.slot_str_join PySem.F.type_str_join mt_join (pe_gl rfl bl.BETWEEN_NAMES_) (pa_cons (pe_fld (pv 0) rfl) pa_nil)))
     (pss_one (ps_ret (pe_op op_add_str (pe_op op_add_str (pe_op op_add_str (pe_op op_add_str (pe_op op_add_str (pe_op op_add_str (pe_op op_add_str (pe_gl rfl bl.TABLE_) (pe_fld (pv 0) rfl)) (pe_gl rfl bl.NAMED_)) (pv 1)) (pe_gl rfl bl.TO_)) (pe_mtP0 (polc m_Numbers_written_Numbers bl.k_Numbers (polc m_Words_written_Words bl.k_Words poln)) pass0 hr (pe_fld (pv 0) rfl))) (pe_gl rfl bl.BY_)) (pe_fld (pv 0) rfl))))), ?_⟩
  have lj := jn_len (sep := ofS ", ") (zs := zs) (m := 12) (n := 4) (by decide +kernel) l3 l4
  have lw := writT_len ok.gd ok.b1 ok.b2
  unfold headT at q
  have lj2 : (Txt.join (Str.ofString ", ") zs).length ≤ 60 := lj
  refine ⟨fun σ' H' => H' = H ∧ σ' = [some (.ref t), some (.str (Txt.join (Str.ofString ", ") zs))], ⟨rfl, _, rfl, t, _, _, _, _, rfl, ht, bl.k_Table, bl.na_Table_names, f5, _, na, _, rfl, rfl, SqL.of ena, (by decide +kernel), join_ok (m := 12) (n := 4) l3 l4 (by decide), rfl, rfl⟩, ?_⟩
  rintro σ1 H1 ⟨rfl, rfl⟩
  refine ⟨_, rfl, t, _, _, _, _, rfl, ht, bl.k_Table, bl.na_Table_name, f2, _, _, rfl, rfl, big4 (by rw [l_table]; omega), _, _, rfl, rfl, big4 (by rw [len_ap, l_table, l_named]; omega), _, rfl, _, _, rfl, rfl, big4 (by rw [len_ap, len_ap, l_table, l_named]; omega), _, _, rfl, rfl, big4 (by rw [len_ap, len_ap, len_ap, l_table, l_named, l_to]; omega), _, rfl, t, _, _, _, _, rfl, ht, bl.k_Table, bl.na_Table_outcome, f4, ?_⟩
  by_cases he : p.ws = []
  · have b1 : bnd p.lo := ok.b1
    have b2 : bnd p.hi := ok.b2
    rw [PD.k_none he] at hD q lw
    obtain ⟨dx2, ha⟩ := id hD
    refine ⟨ou, _, dx2, _, rfl, .head _, ha, rfl, ou, p.lo, p.hi, rfl, hD, b1, b2, _, _, rfl, rfl, big4 (by rw [len_ap, len_ap, len_ap, len_ap, l_table, l_named, l_to]; omega), _, _, rfl, rfl, big4 (by rw [len_ap, len_ap, len_ap, len_ap, len_ap, l_table, l_named, l_to, l_by]; omega), _, rfl, t, _, _, _, _, rfl, ht, bl.k_Table, bl.na_Table_way, f3, _, _, rfl, rfl, big4 (by rw [len_ap, len_ap, len_ap, len_ap, len_ap, len_ap, l_table, l_named, l_to, l_by]; omega), q⟩
  · obtain ⟨hg, e0, e1⟩ := ok.wd he
    rw [PD.k_some he] at hD q lw
    obtain ⟨hW, _⟩ := id hD
    obtain ⟨dx2, wl, ha, hwl⟩ := id hW
    refine ⟨ou, _, dx2, _, rfl, .tail _ (.head _), ha, rfl, ou, p.ws, (p.lo, p.hi), rfl, hW, hg, _, _, rfl, rfl, big4 (by rw [len_ap, len_ap, len_ap, len_ap, l_table, l_named, l_to]; omega), _, _, rfl, rfl, big4 (by rw [len_ap, len_ap, len_ap, len_ap, len_ap, l_table, l_named, l_to, l_by]; omega), _, rfl, t, _, _, _, _, rfl, ht, bl.k_Table, bl.na_Table_way, f3, _, _, rfl, rfl, big4 (by rw [len_ap, len_ap, len_ap, len_ap, len_ap, len_ap, l_table, l_named, l_to, l_by]; omega), q⟩
theorem ok_law_book (F : Fun K "_law_book" "_law_book" s_law_book f fd) (bl : Bl K mg cWay cFirst cOnly cLike cLow cHigh cSum cDomain cNumbers cWords cTable) (c__law_domain : Callee P w K mg base 2 "_law_domain" ["cell"] (sp_law_domain K cWay cFirst cOnly cLike cLow cHigh cSum cDomain cNumbers cWords cTable)) (c__law_pool : Callee P w K mg base 2 "_law_pool" ["domain", "cell"] (sp_law_pool K cWay cFirst cOnly cLike cLow cHigh cSum cDomain cNumbers cWords cTable)) (c__law_at : Callee P w K mg base 2 "_law_at" ["script", "k"] (sp_law_at K cWay cFirst cOnly cLike cLow cHigh cSum cDomain cNumbers cWords cTable)) (c__law_words : Callee P w K mg base 2 "_law_words" ["cell", "count"] (sp_law_words K cWay cFirst cOnly cLike cLow cHigh cSum cDomain cNumbers cWords cTable)) (c__law_row : Callee P w K mg base 2 "_law_row" ["columns", "domains", "pools", "own", "cell"] (sp_law_row K cWay cFirst cOnly cLike cLow cHigh cSum cDomain cNumbers cWords cTable)) : FnOk P w K mg base CX0 3 f fd ["script"] (sp_law_book K cWay cFirst cOnly cLike cLow cHigh cSum cDomain cNumbers cWords cTable) := by
  refine F.ok sc_law_book (fun vs H Q E h => ?_) (fun cdv A outer s H vs Q E hr h => ?_)
  · obtain ⟨a, ns, rfl, hS, q⟩ := h
    rfl
  obtain ⟨a, ns, rfl, hS, q⟩ := h
  refine ⟨_, (pss_cut (ps_set (i := 1) sc_law_book.nd rfl (Or.inl rfl) (pe_op op_add pe_int (pe_op op_mod (pe_fn c__law_at hr rfl (pa_cons (pv 0) (pa_cons pe_int pa_nil))) pe_int)))
     (pss_cut (ps_set (i := 2) sc_law_book.nd rfl (Or.inl rfl) (pe_op op_add (pe_op op_add (pv 1) pe_int) (pe_op op_mod (pe_op op_fdiv (pe_fn c__law_at hr rfl (pa_cons (pv 0) (pa_cons pe_int pa_nil))) pe_int) pe_int)))
     (pss_cut (ps_set (i := 3) sc_law_book.nd rfl (Or.inr rfl) (pe_comp (pi_range1 rfl bl.range_ (pa_cons (pv 2) pa_nil)) (cmpOk_free (N := ["k", "script"]) (fr := [0]) (cl := [("script", s.heap.objs.size + 1)]) rfl rfl (by decide +kernel) (by decide +kernel) rfl (by decide +kernel) rfl rfl rfl (List.forall_mem_cons.mpr ⟨rfl, List.forall_mem_nil _⟩) rfl) rfl (fun _ _ _ _ => pif_nil) (fun _ _ _ _ => (pe_fn c__law_domain hr rfl (pa_cons (pe_fn c__law_at hr rfl (pa_cons (pv 1) (pa_cons (pe_op op_add pe_int (pv 0)) pa_nil))) pa_nil)))))
     (pss_cut (ps_comp (i := 4) sc_law_book.nd rfl (Or.inl rfl) (pi_range1 rfl bl.range_ (pa_cons (pv 2) pa_nil)) (cmpOk_free (N := ["k", "script", "domains"]) (fr := [0, 3]) (cl := [("script", s.heap.objs.size + 1), ("domains", s.heap.objs.size + 1 + 1)]) rfl rfl (by decide +kernel) (by decide +kernel) rfl (by decide +kernel) rfl rfl rfl (List.forall_mem_cons.mpr ⟨rfl, List.forall_mem_cons.mpr ⟨rfl, List.forall_mem_nil _⟩⟩) rfl) rfl (fun _ _ _ _ => pif_nil) (fun _ _ _ _ => (pe_fn c__law_pool hr rfl (pa_cons (pe_ix (ix_listK (K := K) rfl) (pv 2) (pv 0) (fun _ _ => rfl)) (pa_cons (pe_fn c__law_at hr rfl (pa_cons (pv 1) (pa_cons (pe_op op_add pe_int (pv 0)) pa_nil))) pa_nil)))))
     (pss_cut (ps_set (i := 5) sc_law_book.nd rfl (Or.inl rfl) (pe_lst pa_nil))
     (pss_cut (ps_for PassesOwn.never rfl (pi_range2 rfl bl.range_ (pa_cons (pv 1) (pa_cons (pv 2) pa_nil))) (pg_name (i := 6) sc_law_book.nd rfl (Or.inr rfl))
     (pss_cut (ps_set (i := 7) sc_law_book.nd rfl (Or.inr rfl) (pe_fn c__law_at hr rfl (pa_cons (pv 0) (pa_cons (pe_op op_sub (pe_op op_add pe_int (pv 6)) (pv 1)) pa_nil))))
     (pss_cut (ps_comp (i := 8) sc_law_book.nd rfl (Or.inl rfl) (pi_range1 rfl bl.range_ (pa_cons (pe_callB (call_min2 rfl) rfl bl.min_ PyProof.Rows.boot_min (pa_cons (pe_op op_add pe_int (pe_op op_mod (pv 7) pe_int)) (pa_cons (pv 6) pa_nil))) pa_nil)) (cmpOk_free (N := ["j", "own", "cell"]) (fr := [6, 7]) (cl := [("own", s.heap.objs.size + 1 + 1 + 1), ("cell", s.heap.objs.size + 1 + 1 + 1 + 1)]) rfl rfl (by decide +kernel) (by decide +kernel) rfl (by decide +kernel) rfl rfl rfl (List.forall_mem_cons.mpr ⟨rfl, List.forall_mem_cons.mpr ⟨rfl, List.forall_mem_nil _⟩⟩) rfl) rfl (fun _ _ _ _ => pif_nil) (fun _ _ _ _ => (pe_op op_mod (pe_op op_add (pe_op op_fdiv (pv 2) pe_int) (pv 0)) (pv 1))))
     (pss_cut (ps_set (i := 9) sc_law_book.nd rfl (Or.inl rfl) (pe_ix ix_list (pe_lst (pa_cons pe_str (pa_cons pe_str (pa_cons pe_str (pa_cons pe_str (pa_cons pe_str (pa_cons pe_str pa_nil))))))) (pe_op op_mod (pe_op op_fdiv (pv 7) pe_int) pe_int) (fun _ _ => rfl)))
     (pss_cut (ps_if (PW.pt (pw_and (pt_cmpR op_eq (pv 9) pe_str (nomark _)) (pw_and1 (pt_cmpR op_gt (pe_callB call_len_seq rfl bl.len_ PySem.boot_len (pa_cons (pe_ix ix_tup (pe_ix ix_list (pv 3) (pv 6) (fun _ _ => rfl)) pe_int (fun _ _ => rfl)) pa_nil)) pe_int (nomark _)))))
     (pss_one (ps_set (i := 9) sc_law_book.nd rfl (Or.inl rfl) pe_str))
     pss_nil)
     (pss_one (ps_expr (pe_bm PySem.F.plainAttrs_list PySem.F.slot_list_append PySem.F.type_list_append mt_append (pv 5) (pa_cons (pe_tup (pa_cons (pv 8) (pa_cons (pv 9) (pa_cons (pe_lst pa_nil) pa_nil)))) pa_nil)))))))))
     (pss_cut (ps_for PassesOwn.never rfl (pi_range2 rfl bl.range_ (pa_cons pe_int (pa_cons (pe_callB (call_min2 rfl) rfl bl.min_ PyProof.Rows.boot_min (pa_cons (pe_callB call_len_seq rfl bl.len_ PySem.boot_len (pa_cons (pv 0) pa_nil)) (pa_cons pe_int pa_nil))) pa_nil))) (pg_name (i := 10) sc_law_book.nd rfl (Or.inl rfl))
     (pss_cut (ps_set (i := 6) sc_law_book.nd rfl (Or.inr rfl) (pe_op op_add (pv 1) (pe_op op_mod (pv 10) (pe_callB call_len_seq rfl bl.len_ PySem.boot_len (pa_cons (pv 5) pa_nil)))))
     (pss_cut (ps_set (i := 11) sc_law_book.nd rfl (Or.inl rfl) (pe_ix ix_list (pv 5) (pe_op op_sub (pv 6) (pv 1)) (fun _ _ => rfl)))
     (pss_one (ps_expr (pe_bm PySem.F.plainAttrs_list PySem.F.slot_list_append PySem.F.type_list_append mt_append (pe_ix ix_tup (pv 11) pe_int (fun _ _ => rfl)) (pa_cons (pe_fn c__law_row hr rfl (pa_cons (pe_ix ix_tup (pv 11) pe_int (fun _ _ => rfl)) (pa_cons (pv 3) (pa_cons (pv 4) (pa_cons (pv 6) (pa_cons (pe_ix ix_list (pv 0) (pv 10) (fun _ _ => rfl)) pa_nil)))))) pa_nil)))))))
     (pss_one (ps_ret (pe_tup (pa_cons (pe_fn c__law_words hr rfl (pa_cons (pe_fn c__law_at hr rfl (pa_cons (pv 0) (pa_cons pe_int pa_nil))) (pa_cons (pv 2) pa_nil))) (pa_cons (pv 3) (pa_cons (pv 5) pa_nil))))))))))))), ?_⟩
  refine ⟨fun σ' H' => H' = H ∧ ∃ fN : Nat, 1 ≤ fN ∧ fN ≤ 3 ∧ σ' = [some (.ref a), some (.int (fN : Int)), none, none, none, none, none, none, none, none, none, none], ⟨_, rfl, a, ns, 0, rfl, hS, Int.le_refl _, fun r => ⟨_, _, rfl, rfl, (by show (0 : Int) < 3; decide), _, _, rfl, rfl, rfl, (1 + r % 3).toNat, ?_, ?_, ?_⟩⟩, ?_⟩
  · have := Int.emod_nonneg r (show (3 : Int) ≠ 0 by decide); omega
  · have := Int.emod_lt_of_pos r (show (0 : Int) < 3 by decide); omega
  · rw [Int.toNat_of_nonneg (by have := Int.emod_nonneg r (show (3 : Int) ≠ 0 by decide); omega)]; rfl
  rintro σ1 H1 ⟨rfl, fN, hf1, hf3, rfl⟩
  refine ⟨fun σ' H' => H' = H1 ∧ ∃ tN : Nat, fN < tN ∧ tN ≤ fN + 4 ∧ σ' = [some (.ref a), some (.int (fN : Int)), some (.int (tN : Int)), none, none, none, none, none, none, none, none, none], ⟨_, rfl, _, _, rfl, rfl, _, rfl, a, ns, 0, rfl, hS, Int.le_refl _, fun r => ⟨_, _, rfl, rfl, ⟨by decide, by decide⟩, _, _, rfl, rfl, (by show (0 : Int) < 4; decide), _, _, rfl, rfl, rfl, ((fN : Int) + 1 + r / 3 % 4).toNat, ?_, ?_, ?_⟩⟩, ?_⟩
  · have := Int.emod_nonneg (r / 3) (show (4 : Int) ≠ 0 by decide); omega
  · have := Int.emod_lt_of_pos (r / 3) (show (0 : Int) < 4 by decide); omega
  · rw [Int.toNat_of_nonneg (by have := Int.emod_nonneg (r / 3) (show (4 : Int) ≠ 0 by decide); omega)]; rfl
  rintro σ2 H2 ⟨rfl, tN, ht1, ht4, rfl⟩
  refine ⟨fun σ' H' => Same H2 H' ∧ ∃ (dl : Addr) (dv : List V) (ds : List PD), H' dl = some (.lst dv) ∧ RefL dv ds (PDA NT H') ∧ ds.length = tN ∧ (∀ p ∈ ds, PDok p) ∧ σ' = [some (.ref a), some (.int (fN : Int)), some (.int (tN : Int)), some (.ref dl), none, none, none, none, none, none, none, none], ?_, ?_⟩
  · refine ⟨_, rfl, _, rfl, (by omega), (by omega), comp_range (fun D i zs H' => Same H2 H' ∧ H' D = some (.lst zs) ∧ ∃ ds : List PD, RefL zs ds (PDA (· ≠ D) H') ∧ ds.length = i ∧ ∀ p ∈ ds, PDok p) (fun D hD => ⟨same_new hD _, upd_same, [], RefL.nil, rfl, (fun p hp => by cases hp)⟩) (fun D i zs H' hD hi hh => ?_) (fun D zs H' hD hh => ?_)⟩
    · obtain ⟨sm, eD, ds, hz, hl, hok⟩ := hh
      refine ⟨_, rfl, _, rfl, _, _, rfl, rfl, a, ns, _, rfl, sm.seq hS, (by show 0 ≤ 2 + (0 + (i : Int)); omega), fun r => ⟨r, rfl, fun l p H3 s3 hp ok => ?_⟩⟩
      have eD3 := s3 _ _ eD
      have hp2 : PDA (· ≠ D) H3 l p := hp.wk fun x hx z => by rw [z, eD] at hx; cases hx
      have hz2 : RefL (zs ++ [.ref l]) (ds ++ [p]) (PDA (· ≠ D) H3) := RefL.snoc (RefL.mono hz fun _ _ p => p.same s3) hp2
      refine CYes.mk hi eD3 (small1000 (by have := hz.1; omega)) ⟨(sm.trans s3).upd hD, upd_same, ds ++ [p], RefL.mono hz2 fun _ _ p => p.updN (fun z => z rfl) eD3, by rw [List.length_append, hl]; rfl, fun p' hp' => ?_⟩
      rcases List.mem_append.mp hp' with hp' | hp'
      · exact hok p' hp'
      · rw [show p' = p by simpa using hp']; exact ok
    · obtain ⟨sm, eD, ds, hz, hl, hok⟩ := hh
      rw [Int.toNat_natCast] at hl
      exact ⟨sm, D, zs, ds, eD, RefL.mono hz (fun _ _ p => p.wk fun _ _ => trivial), hl, hok, rfl⟩
  rintro σ3 H3 ⟨s3, dl, dv, ds, edl, hds, hdn, hdok, rfl⟩
  refine ⟨fun σ' H' => Same H3 H' ∧ ∃ (po : Addr) (pvs : List V), H' po = some (.lst pvs) ∧ RefL pvs ds (PoA NT H') ∧ σ' = [some (.ref a), some (.int (fN : Int)), some (.int (tN : Int)), some (.ref dl), some (.ref po), none, none, none, none, none, none, none], ?_, ?_⟩
  · refine ⟨_, rfl, _, rfl, (by omega), (by omega), comp_range (fun D i zs H' => Same H3 H' ∧ H' D = some (.lst zs) ∧ RefL zs (ds.take i) (PoA (· ≠ D) H')) (fun D hD => ⟨same_new hD _, upd_same, RefL.nil⟩) (fun D i zs H' hD hi hh => ?_) (fun D zs H' hD hh => ?_)⟩
    · obtain ⟨sm, eD, hz⟩ := hh
      rw [Int.toNat_natCast] at hi
      have ep := List.getElem?_eq_getElem (l := ds) (i := i) (by omega)
      obtain ⟨da, e2, hpd⟩ := hds.2 i _ ep
      generalize ds[i] = p at ep hpd
      have ix : atI dv (0 + (i : Int)) = some (.ref da) := by rw [Int.zero_add]; exact atI_nat e2
      refine ⟨_, rfl, _, rfl, dl, _, _, _, rfl, rfl, SqL.of (sm _ _ edl), ix, _, rfl, _, rfl, _, _, rfl, rfl, a, ns, _, rfl, (s3.trans sm).seq hS, (by show 0 ≤ 9 + (0 + (i : Int)); omega), fun r => ⟨da, p, r, rfl, hpd.same sm, hdok p (List.mem_of_getElem? ep), fun l xs H4 s4 nl el hl hx => ?_⟩⟩
      have eD4 := s4 _ _ eD
      have nD : l ≠ D := fun z => by rw [z, eD] at nl; cases nl
      have hz2 : RefL (zs ++ [.ref l]) (ds.take i ++ [p]) (PoA (· ≠ D) H4) := RefL.snoc (RefL.mono hz fun _ _ p => p.same s4) ⟨nD, xs, el, hl, hx⟩
      refine CYes.mk (by rw [Int.toNat_natCast]; exact hi) eD4 (small1000 (by have := hz.1; rw [List.length_take] at this; omega)) ⟨(sm.trans s4).upd hD, upd_same, ?_⟩
      rw [take_snoc ep]
      exact RefL.mono hz2 fun _ _ p => p.updN fun z => z rfl
    · obtain ⟨sm, eD, hz⟩ := hh
      rw [Int.toNat_natCast, ← hdn, List.take_length] at hz
      exact ⟨sm, D, zs, eD, RefL.mono hz (fun _ _ p => p.any), rfl⟩
  rintro σ4 H4 ⟨s4, po, pvs, epo, hpo, rfl⟩
  have s14 := s3.trans s4
  refine ⟨fun σ' H' => Same H4 H' ∧ ∃ tb : Addr, H4 tb = none ∧ H' tb = some (.lst []) ∧ σ' = [some (.ref a), some (.int (fN : Int)), some (.int (tN : Int)), some (.ref dl), some (.ref po), some (.ref tb), none, none, none, none, none, none], ⟨(by show 0 ≤ sizeLine; decide), fun l hl => ⟨same_new hl _, l, hl, upd_same, rfl⟩⟩, ?_⟩
  rintro σ5 H5 ⟨s5, tb, ntb, etb, rfl⟩
  have s25 := s14.trans s5
  refine ⟨fun σ' H' => Same H4 H' ∧ ∃ (tv : List V) (ts : List ((List Nat × Str) × Addr)) (c6 c7 c8 c9 : Option V), H' tb = some (.lst tv) ∧ RefL tv ts (TT (hideL H' (tb :: rls ts))) ∧ ts.length = tN - fN ∧ (rls ts).Nodup ∧ (∀ x ∈ rls ts, H4 x = none ∧ x ≠ tb ∧ H' x = some (.lst [])) ∧ (∀ (j : Nat) (t : (List Nat × Str) × Addr), ts[j]? = some t → TOk2 fN ds j t.1) ∧ σ' = [some (.ref a), some (.int (fN : Int)), some (.int (tN : Int)), some (.ref dl), some (.ref po), some (.ref tb), c6, c7, c8, c9, none, none], ?_, ?_⟩
  · refine ⟨_, rfl, _, rfl, _, _, rfl, ⟨by omega, by omega, by omega, by omega⟩, for_range (fun i σ H' => Same H4 H' ∧ ∃ (tv : List V) (ts : List ((List Nat × Str) × Addr)) (c6 c7 c8 c9 : Option V), H' tb = some (.lst tv) ∧ RefL tv ts (TT (hideL H' (tb :: rls ts))) ∧ ts.length = i ∧ (rls ts).Nodup ∧ (∀ x ∈ rls ts, H4 x = none ∧ x ≠ tb ∧ H' x = some (.lst [])) ∧ (∀ (j : Nat) (t : (List Nat × Str) × Addr), ts[j]? = some t → TOk2 fN ds j t.1) ∧ σ = [some (.ref a), some (.int (fN : Int)), some (.int (tN : Int)), some (.ref dl), some (.ref po), some (.ref tb), c6, c7, c8, c9, none, none]) ⟨s5, [], [], _, _, _, _, etb, RefL.nil, rfl, List.nodup_nil, (fun x hx => by cases hx), (fun j t e => by simp at e), rfl⟩ (fun i σ H' hi hh => ?_) (fun σ H' hh => ?_)⟩
    · obtain ⟨sm, tv, ts, c6, c7, c8, c9, etv, htv, htl, hnd, hrl, htok, rfl⟩ := hh
      have hi2 : i < tN - fN := by omega
      obtain ⟨ow, how⟩ : ∃ ow : Nat, (fN : Int) + (i : Int) = (ow : Int) := ⟨fN + i, by omega⟩
      have how2 : ow = fN + i := by omega
      rw [how]
      refine ⟨fun σ' H'' => H'' = H' ∧ ∃ c : Int, σ' = [some (.ref a), some (.int (fN : Int)), some (.int (tN : Int)), some (.ref dl), some (.ref po), some (.ref tb), some (.int (ow : Int)), some (.int c), c8, c9, none, none], ⟨_, rfl, _, rfl, _, _, rfl, rfl, _, rfl, _, _, rfl, rfl, a, ns, _, rfl, (s14.trans sm).seq hS, (by show 0 ≤ 16 + (ow : Int) - (fN : Int); omega), fun r => ⟨rfl, r, rfl⟩⟩, ?_⟩
      rintro σa Ha ⟨rfl, c, rfl⟩
      obtain ⟨m, em, m1, m3, mo⟩ := nat_min (c := c) (ow := ow) (by omega)
      refine ⟨fun σ' H'' => Same Ha H'' ∧ ∃ cl : Addr, Ha cl = none ∧ H'' cl = some (.lst (vN (clm c ow m))) ∧ σ' = [some (.ref a), some (.int (fN : Int)), some (.int (tN : Int)), some (.ref dl), some (.ref po), some (.ref tb), some (.int (ow : Int)), some (.int c), some (.ref cl), c9, none, none], ?_, ?_⟩
      · refine ⟨_, rfl, _, _, rfl, rfl, (by show (0 : Int) < 3; decide), _, _, rfl, rfl, _, rfl, _, _, rfl, _, rfl, (by rw [em]; omega), (by rw [em]; omega), comp_range (fun D i zs H'' => Same Ha H'' ∧ H'' D = some (.lst zs) ∧ zs = vN (clm c ow i)) (fun D hD => ⟨same_new hD _, upd_same, rfl⟩) (fun D i zs H'' hD hi hh => ?_) (fun D zs H'' hD hh => ?_)⟩
        · obtain ⟨sm2, eD, rfl⟩ := hh
          rw [em, Int.toNat_natCast] at hi
          have v0 := Int.emod_nonneg (c / 3 + (0 + (i : Int))) (show (ow : Int) ≠ 0 by omega)
          refine ⟨_, rfl, _, _, rfl, rfl, ⟨by decide, by decide⟩, _, rfl, _, _, rfl, rfl, _, rfl, _, _, rfl, rfl, (by show (0 : Int) < (ow : Int); omega), CYes.mk (by rw [em, Int.toNat_natCast]; exact hi) eD (small1000 (by rw [vN_len, clm_len]; omega)) ⟨sm2.upd hD, upd_same, ?_⟩⟩
          rw [clm_succ, Int.toNat_of_nonneg v0]
        · obtain ⟨sm2, eD, rfl⟩ := hh
          rw [em, Int.toNat_natCast] at eD
          exact ⟨sm2, D, hD, eD, rfl⟩
      rintro σb Hb ⟨sb, cl, ncl, ecl, rfl⟩
      refine ⟨fun σ' H'' => Same Hb H'' ∧ ∃ wy : Str, wy ∈ six ∧ σ' = [some (.ref a), some (.int (fN : Int)), some (.int (tN : Int)), some (.ref dl), some (.ref po), some (.ref tb), some (.int (ow : Int)), some (.int c), some (.ref cl), some (.str wy), none, none], ?_, ?_⟩
      · refine ⟨(by show 6 ≤ sizeLine; decide), fun p6 hp6 => ?_⟩
        have w0 := Int.emod_nonneg (c / 50) (show (6 : Int) ≠ 0 by decide)
        have w1 := Int.emod_lt_of_pos (c / 50) (show (0 : Int) < 6 by decide)
        obtain ⟨k, ek⟩ : ∃ k : Nat, c / 50 % 6 = (k : Int) := ⟨_, (Int.toNat_of_nonneg w0).symm⟩
        have hk : k < six.length := by show k < 6; omega
        have e6 := List.getElem?_eq_getElem hk
        have ex : atI [V.str (Str.ofString "first"), .str (Str.ofString "only"), .str (Str.ofString "like"), .str (Str.ofString "low"), .str (Str.ofString "high"), .str (Str.ofString "sum")] (c / 50 % 6) = some (.str six[k]) := by
          rw [ek]
          exact atI_nat (xs := six.map V.str) (by rw [List.getElem?_map, e6]; rfl)
        exact ⟨_, rfl, _, _, rfl, rfl, ⟨by decide, by decide⟩, _, _, rfl, rfl, (by show (0 : Int) < 6; decide), p6, _, _, _, rfl, rfl, SqL.of upd_same, ex, same_new hp6 _, _, List.mem_of_getElem? e6, rfl⟩
      rintro σc Hc ⟨sc, wy0, hw6, rfl⟩
      have sac := sb.trans sc
      have ep := List.getElem?_eq_getElem (l := ds) (i := ow) (by omega)
      obtain ⟨da, e2, hpd⟩ := hds.2 ow _ ep
      generalize ds[ow] = p at ep hpd
      have s3c := (s4.trans sm).trans sac
      obtain ⟨wl, _, _, f1, f2⟩ := hpd.same s3c
      refine ⟨fun σ' H'' => H'' = Hc ∧ ∃ wy : Str, wy ∈ six ∧ (wy = Str.ofString "sum" → p.ws = []) ∧ σ' = [some (.ref a), some (.int (fN : Int)), some (.int (tN : Int)), some (.ref dl), some (.ref po), some (.ref tb), some (.int (ow : Int)), some (.int c), some (.ref cl), some (.str wy), none, none], ?_, ?_⟩
      · refine ⟨_, rfl, rfl, _, rfl, ?_⟩
        refine ite2 (fun g => ?_) (fun g => ?_)
        · refine ⟨_, rfl, _, rfl, dl, _, _, _, rfl, rfl, SqL.of (s3c _ _ edl), atI_nat e2, da, _, _, _, rfl, rfl, SqT.of f1, rfl, wl, _, rfl, .inl (SqL.of f2), _, _, rfl, rfl, _, rfl, ?_⟩
          refine ite2 (fun g2 => ?_) (fun g2 => ?_)
          · exact ⟨rfl, Str.ofString "high", by unfold six; simp, (fun z => absurd z (by decide +kernel)), rfl⟩
          · refine ⟨rfl, wy0, hw6, fun _ => ?_, rfl⟩
            have : ¬ ((0 : Int) < (((p.ws.map V.str).length : Nat) : Int)) := fun h => g2 (decide_eq_true h)
            rw [List.length_map] at this
            exact List.length_eq_zero_iff.mp (by omega)
        · refine ⟨rfl, wy0, hw6, fun z => absurd ?_ g, rfl⟩
          rw [z]
          exact decide_eq_true rfl
      rintro σd Hd ⟨rfl, wy, hwy, hsum, rfl⟩
      have etd := sac _ _ etv
      refine ⟨_, rfl, .inl ⟨rfl, _, SqL.of etd⟩, _, rfl, _, rfl, (by show 0 ≤ sizeLine; decide), fun x hx => ?_⟩
      have u1 := same_new hx (.lst [])
      have ex : upd Hd x (.lst []) x = some (.lst []) := upd_same
      generalize upd Hd x (.lst []) = He at u1 ex ⊢
      refine ⟨(by show 3 ≤ sizeLine; decide), fun r hr => ?_⟩
      have u2 := same_new hr (.tup [.ref cl, .str wy, .ref x])
      have er : upd He r (.tup [.ref cl, .str wy, .ref x]) r = some (.tup [.ref cl, .str wy, .ref x]) := upd_same
      generalize upd He r (.tup [.ref cl, .str wy, .ref x]) = Hf at u2 er ⊢
      have saf := (sac.trans u1).trans u2
      have etf := saf _ _ etv
      refine ⟨tb, _, _, rfl, rfl, etf, small1000 (by have := htv.1; omega), ?_⟩
      have nxa : Ha x = none := sac.free hx
      have nx4 : H4 x = none := sm.free nxa
      have nxt : x ≠ tb := fun z => by rw [z, etv] at nxa; cases nxa
      have clx : cl ≠ x := fun z => by rw [← z, sc _ _ ecl] at hx; cases hx
      have old : ∀ b ∈ tb :: rls ts, ∃ zs, Ha b = some (.lst zs) := fun b hb => by
        rcases List.mem_cons.mp hb with rfl | hb
        · exact ⟨_, etv⟩
        · exact ⟨_, (hrl b hb).2.2⟩
      have nclF : cl ∉ tb :: rls ts := fun hm => by obtain ⟨zs, e⟩ := old cl hm; rw [e] at ncl; cases ncl
      have nxF : x ∉ tb :: rls ts := fun hm => by obtain ⟨zs, e⟩ := old x hm; rw [e] at nxa; cases nxa
      have nrF : r ∉ tb :: rls ts := fun hm => by obtain ⟨zs, e⟩ := old r hm; have := saf _ _ e; rw [er] at this; cases this
      have nrx : r ≠ x := fun z => by have := u2 _ _ ex; rw [← z, er] at this; cases this
      have eF : rls (ts ++ [((clm c ow m, wy), x)]) = rls ts ++ [x] := rls_snoc ..
      have inF : ∀ b, b ∉ tb :: rls ts → b ≠ x → b ∉ tb :: (rls ts ++ [x]) := fun b h1 h2 hm => by
        rcases List.mem_cons.mp hm with z | hm
        · exact h1 (by rw [z]; exact List.mem_cons_self)
        · rcases List.mem_append.mp hm with hm | hm
          · exact h1 (List.mem_cons_of_mem _ hm)
          · exact h2 (by simpa using hm)
      have gr : Same (hideL Ha (tb :: rls ts)) (hideL (upd Hf tb (.lst (tv ++ [.ref r]))) (tb :: (rls ts ++ [x]))) := grow_hide fun b o hb e => by
        refine ⟨(upd_ne fun z => hb (by rw [z]; exact List.mem_cons_self)).trans (saf _ _ e), inF b hb fun z => ?_⟩
        rw [z, nxa] at e; cases e
      have hT : TT (hideL (upd Hf tb (.lst (tv ++ [.ref r]))) (tb :: (rls ts ++ [x]))) r ((clm c ow m, wy), x) := by
        refine ⟨cl, hideL_of ((upd_ne fun z => nrF (by rw [z]; exact List.mem_cons_self)).trans er) (inF r nrF nrx), hideL_of ((upd_ne fun z => nclF (by rw [z]; exact List.mem_cons_self)).trans (u2 _ _ (u1 _ _ (sc _ _ ecl)))) (inF cl nclF clx)⟩
      refine ⟨(sm.trans saf).upd ntb, tv ++ [.ref r], ts ++ [((clm c ow m, wy), x)], _, _, _, _, upd_same, ?_, by rw [List.length_append, htl]; rfl, ?_, fun y hy => ?_, fun j t e => ?_, rfl⟩
      · rw [eF]
        exact RefL.snoc (RefL.mono htv fun _ _ p => p.same gr) hT
      · rw [eF]
        refine List.nodup_append.mpr ⟨hnd, by simp, fun y hy z hz => ?_⟩
        rw [show z = x by simpa using hz]
        exact fun e => nxF (by rw [← e]; exact List.mem_cons_of_mem _ hy)
      · rw [eF] at hy
        rcases List.mem_append.mp hy with hy | hy
        · obtain ⟨y1, y2, y3⟩ := hrl y hy
          exact ⟨y1, y2, (upd_ne y2).trans (saf _ _ y3)⟩
        · rw [show y = x by simpa using hy]
          exact ⟨nx4, nxt, (upd_ne nxt).trans (u2 _ _ ex)⟩
      · by_cases hj : j < ts.length
        · rw [List.getElem?_append_left hj] at e
          exact htok j t e
        · have hj2 : j = ts.length := by have := (List.getElem?_eq_some_iff.mp e).1; simp at this; omega
          subst hj2
          simp at e
          subst e
          have eo : fN + ts.length = ow := by omega
          refine ⟨by show 1 ≤ (clm c ow m).length; rw [clm_len]; exact m1, by show (clm c ow m).length ≤ 3; rw [clm_len]; exact m3, fun k hk => ?_, clm_nd (by omega) mo, hwy, fun z p' ep' => ?_⟩
          · rw [eo]; exact clm_lt (by omega) k hk
          · rw [eo, ep] at ep'
            cases ep'
            exact hsum z
    · obtain ⟨sm, tv, ts, c6, c7, c8, c9, r⟩ := hh
      rw [show ((tN : Int) - (fN : Int)).toNat = tN - fN by omega] at r
      exact ⟨sm, tv, ts, c6, c7, c8, c9, r⟩
  rintro σ6 H6 ⟨s6, tv, ts, c6, c7, c8, c9, etv, htv, htl, hnd, hrl, htok, rfl⟩
  have hF4 : ∀ x ∈ rls ts, H4 x = none := fun x hx => (hrl x hx).1
  have hB4 : Same H4 (hideL H6 (rls ts)) := hideL_keep s6 hF4
  have ntF : tb ∉ rls ts := fun hm => (hrl tb hm).2.1 rfl
  have etB : hideL H6 (rls ts) tb = some (.lst tv) := hideL_of etv ntF
  have htB : RefL tv ts (TT (hideL H6 (rls ts))) := RefL.mono htv fun _ _ p => p.same (grow_hide fun b o hb e => ⟨e, fun hm => hb (List.mem_cons_of_mem _ hm)⟩)
  generalize hB : hideL H6 (rls ts) = B at hB4 etB htB
  have hn1 : 1 ≤ ts.length := by omega
  have htv1 : tv.length = ts.length := htv.1
  refine ⟨fun σ' H' => Same H4 H' ∧ Same B (hideL H' (rls ts)) ∧ ∃ (rss : List (List Rw)) (c6 c7 c8 c9 c10 c11 : Option V), RwI H' (rls ts) fN ds ts rss 120 ∧ σ' = [some (.ref a), some (.int (fN : Int)), some (.int (tN : Int)), some (.ref dl), some (.ref po), some (.ref tb), c6, c7, c8, c9, c10, c11], ?_, ?_⟩
  · obtain ⟨mx, emx, hmx1, hmx2⟩ : ∃ mx : Int, (if (122 : Int) < (((ns.map V.int).length : Nat) : Int) then (122 : Int) else (((ns.map V.int).length : Nat) : Int)) = mx ∧ mx ≤ 122 ∧ mx ≤ (ns.length : Int) := by
      refine ⟨_, rfl, ?_, ?_⟩ <;> rw [List.length_map] <;> split <;> omega
    have hmx0 : 0 ≤ mx := by rw [← emx]; split <;> omega
    refine ⟨_, rfl, a, _, rfl, .inl ((s14.trans s6).seq hS), _, _, rfl, _, _, rfl, ?_⟩
    rw [emx]
    refine ⟨⟨by decide, by decide, by omega, by omega⟩, for_range (fun i σ H' => Same H4 H' ∧ Same B (hideL H' (rls ts)) ∧ ∃ (rss : List (List Rw)) (c6 c7 c8 c9 c10 c11 : Option V), RwI H' (rls ts) fN ds ts rss i ∧ σ = [some (.ref a), some (.int (fN : Int)), some (.int (tN : Int)), some (.ref dl), some (.ref po), some (.ref tb), c6, c7, c8, c9, c10, c11]) ⟨s6, by rw [hB]; exact Same.refl B, List.replicate ts.length [], _, _, _, _, _, _, ⟨by rw [List.length_replicate], fun j t rs e1 e2 => ?_⟩, rfl⟩ (fun i σ H' hi hh => ?_) (fun σ H' hh => ?_)⟩
    · rw [List.getElem?_replicate] at e2
      split at e2
      · cases e2
        exact ⟨⟨[], (hrl t.2 (rls_mem e1)).2.2, RefL.nil⟩, (fun w hw => by cases hw), Nat.zero_le _⟩
      · cases e2
    · obtain ⟨sm, sB, rss, c6, c7, c8, c9, c10, c11, hrw, rfl⟩ := hh
      have hi2 : i < (mx - 2).toNat := hi
      have etb' := hideL_le _ _ _ _ (sB _ _ etB)
      have npos : (0 : Int) < ((tv.length : Nat) : Int) := by omega
      obtain ⟨jj, ejj⟩ : ∃ jj : Nat, (2 + (i : Int)) % ((tv.length : Nat) : Int) = (jj : Int) := ⟨_, (Int.toNat_of_nonneg (Int.emod_nonneg _ (Int.ne_of_gt npos))).symm⟩
      have hjj : jj < ts.length := by have := Int.emod_lt_of_pos (2 + (i : Int)) npos; omega
      have et := List.getElem?_eq_getElem hjj
      obtain ⟨r, er, hT⟩ := htB.2 jj _ et
      obtain ⟨rs, ers⟩ : ∃ rs, rss[jj]? = some rs := ⟨_, List.getElem?_eq_getElem (by rw [hrw.1]; exact hjj)⟩
      generalize ts[jj] = t at et hT
      have hT' := (hT.same sB).same (hideL_le _ _)
      obtain ⟨cl, g1, g2⟩ := hT'
      obtain ⟨⟨zs, ez, hzr⟩, hfit, hlen⟩ := hrw.2 jj t rs et ers
      have tok := htok jj t et
      refine ⟨fun σ' H'' => H'' = H' ∧ σ' = [some (.ref a), some (.int (fN : Int)), some (.int (tN : Int)), some (.ref dl), some (.ref po), some (.ref tb), some (.int ((fN + jj : Nat) : Int)), c7, c8, c9, some (.int (2 + (i : Int))), c11], ⟨_, rfl, _, rfl, _, rfl, tb, _, rfl, .inl (SqL.of etb'), _, _, rfl, rfl, npos, _, _, rfl, rfl, rfl, ?_⟩, ?_⟩
      · rw [show ((fN + jj : Nat) : Int) = (fN : Int) + (2 + (i : Int)) % ((tv.length : Nat) : Int) by rw [ejj]; omega]
        rfl
      rintro σa Ha ⟨rfl, rfl⟩
      have ix : atI tv (((fN + jj : Nat) : Int) - (fN : Int)) = some (.ref r) := by
        rw [show ((fN + jj : Nat) : Int) - (fN : Int) = (jj : Int) by omega]
        exact atI_nat er
      refine ⟨fun σ' H'' => H'' = Ha ∧ σ' = [some (.ref a), some (.int (fN : Int)), some (.int (tN : Int)), some (.ref dl), some (.ref po), some (.ref tb), some (.int ((fN + jj : Nat) : Int)), c7, c8, c9, some (.int (2 + (i : Int))), some (.ref r)], ⟨_, rfl, _, rfl, _, rfl, _, _, rfl, rfl, tb, _, _, _, rfl, rfl, SqL.of etb', ix, rfl, rfl⟩, ?_⟩
      rintro σb Hb ⟨rfl, rfl⟩
      have s4b := hB4.trans (sB.trans (hideL_le _ _))
      have hk : 2 + i < ns.length := by omega
      have es := List.getElem?_eq_getElem hk
      have ixs : atI (ns.map V.int) (2 + (i : Int)) = some (.int ns[2 + i]) := by
        rw [show 2 + (i : Int) = ((2 + i : Nat) : Int) by omega]
        exact atI_nat (by rw [List.getElem?_map, es]; rfl)
      refine ⟨_, rfl, r, _, _, _, rfl, rfl, SqT.of g1, rfl, .inl ⟨rfl, _, SqL.of ez⟩, _, rfl, r, _, _, _, rfl, rfl, SqT.of g1, rfl, _, rfl, _, rfl, _, rfl, _, rfl, _, rfl, a, _, _, _, rfl, rfl, (s14.trans sm).seq hS, ixs, cl, dl, po, fN + jj, _, t.1.1, dv, pvs, ds, rfl, g2, s4b _ _ (s4 _ _ edl), RefL.mono hds (fun _ _ p => p.same (s4.trans s4b)), s4b _ _ epo, RefL.mono hpo (fun _ _ p => p.same s4b), (fun k hk => by have := tok.lt k hk; omega), by omega, by have := tok.few; omega, fun r2 w H2' s2 hrow hf2 => ?_⟩
      have hFl : ∀ D ∈ rls ts, ∃ zs, Hb D = some (.lst zs) := fun D hD => by
        obtain ⟨j, ej⟩ := List.getElem?_of_mem hD
        have hjl : j < ts.length := by have := (List.getElem?_eq_some_iff.mp ej).1; unfold rls at this; rwa [List.length_map] at this
        have et' := List.getElem?_eq_getElem hjl
        have er' := List.getElem?_eq_getElem (l := rss) (i := j) (by rw [hrw.1]; exact hjl)
        obtain ⟨⟨zs', f1, _⟩, _⟩ := hrw.2 j _ _ et' er'
        have := rls_get et'
        rw [ej] at this
        cases this
        exact ⟨zs', f1⟩
      have hrow2 := hrow.hideL hFl s2
      have hzl : zs.length = rs.length := hzr.1
      refine ⟨t.2, _, _, rfl, rfl, s2 _ _ ez, small1000 (by omega), (sm.trans s2).upd (hF4 _ (rls_mem et)), ?_, rss.set jj (rs ++ [w]), _, _, _, _, _, _, hrw.grow hnd s2 et ers ez hzr hrow2 hf2, rfl⟩
      rw [hideL_upd (rls_mem et)]
      exact sB.trans (hideL_mono s2)
    · obtain ⟨sm, sB, rss, c6, c7, c8, c9, c10, c11, hrw, rfl⟩ := hh
      exact ⟨sm, sB, rss, _, _, _, _, _, _, ⟨hrw.1, fun j t rs e1 e2 => let ⟨b1, b2, b3⟩ := hrw.2 j t rs e1 e2; ⟨b1, b2, by omega⟩⟩, rfl⟩
  rintro σ7 H7 ⟨s7, sB, rss, c6', c7', c8', c9', c10, c11, hrw, rfl⟩
  have sB7 := sB.trans (hideL_le H7 (rls ts))
  have s47 := hB4.trans sB7
  refine ⟨_, rfl, a, ns, 1, rfl, (s14.trans s7).seq hS, by decide, fun c => ⟨_, rfl, c, tN, rfl, by omega, fun nl H8 s8 _ enl => ⟨_, rfl, _, rfl, (by show 3 ≤ sizeLine; decide), fun r hr => ?_⟩⟩⟩
  have u := same_new hr (.tup [.ref nl, .ref dl, .ref tb])
  have sE := s8.trans u
  have s4E := s47.trans sE
  refine q r (lws c tN) ds (List.zipWith mkT ts rss) fN _ ((s14.trans s47).trans sE) ⟨nl, dl, tb, dv, tv, upd_same, u _ _ enl, s4E _ _ (s4 _ _ edl), RefL.mono hds (fun _ _ p => p.same (s4.trans s4E)), sE _ _ (sB7 _ _ etB), ?_⟩ ⟨(fun z hz => lws_isw hz), lws_nodup (by omega), by rw [lws_len, hdn], by omega, ?_, ?_, hdok, fun j t e => ?_⟩
  · refine ⟨by rw [List.length_zipWith, hrw.1, htv1]; omega, fun j t e => ?_⟩
    rw [List.getElem?_zipWith] at e
    cases e1 : ts[j]? with
    | none => rw [e1] at e; cases e
    | some t0 =>
      cases e2 : rss[j]? with
      | none => rw [e1, e2] at e; cases e
      | some rs =>
        rw [e1, e2] at e
        have e : some (mkT t0 rs) = some t := e
        cases e
        obtain ⟨r', er, hT⟩ := htB.2 j _ e1
        obtain ⟨⟨zs, ez, hzr⟩, _⟩ := hrw.2 j _ _ e1 e2
        obtain ⟨cl, g1, g2⟩ := hT.same sB7
        exact ⟨r', er, cl, t0.2, zs, sE _ _ g1, sE _ _ g2, sE _ _ ez, (hzr.same (hideL_le _ _)).same sE⟩
  · rw [List.length_zipWith, hrw.1]; omega
  · rw [List.length_zipWith, hrw.1]; omega
  · rw [List.getElem?_zipWith] at e
    cases e1 : ts[j]? with
    | none => rw [e1] at e; cases e
    | some t0 =>
      cases e2 : rss[j]? with
      | none => rw [e1, e2] at e; cases e
      | some rs =>
        rw [e1, e2] at e
        have e : some (mkT t0 rs) = some t := e
        cases e
        obtain ⟨_, h2, h3⟩ := hrw.2 j _ _ e1 e2
        exact ⟨htok j t0 e1, h2, by show rs.length ≤ 200; omega⟩
theorem ok_law_when (F : Fun K "_law_when" "_law_when" s_law_when f fd) (bl : Bl K mg cWay cFirst cOnly cLike cLow cHigh cSum cDomain cNumbers cWords cTable) (c__law_field : Callee P w K mg base 2 "_law_field" ["domain", "spans"] (sp_law_field K cWay cFirst cOnly cLike cLow cHigh cSum cDomain cNumbers cWords cTable)) (c__law_value : Callee P w K mg base 2 "_law_value" ["domain", "code"] (sp_law_value K cWay cFirst cOnly cLike cLow cHigh cSum cDomain cNumbers cWords cTable)) : FnOk P w K mg base CX0 3 f fd ["plan", "k", "row"] (sp_law_when K cWay cFirst cOnly cLike cLow cHigh cSum cDomain cNumbers cWords cTable) := by
  refine F.ok sc_law_when (fun vs H Q E h => ?_) (fun cdv A outer s H vs Q E hr h => ?_)
  · obtain ⟨r, ro, k, zs, ds, ts, fN, t, po, w, rfl, hPl, ok, et, epo, ⟨ce, cv, f1, _, f2, f3⟩, hw, q⟩ := h
    rfl
  obtain ⟨r, ro, k, zs, ds, ts, fN, t, po, w, rfl, hPl, ok, et, epo, ⟨ce, cv, f1, _, f2, f3⟩, hw, q⟩ := h
  refine ⟨_, (pss_cut (ps_asg (pv 0) (pg_tup rfl (pgs_cons (pg_name (i := 3) sc_law_when.nd rfl (Or.inl rfl)) (pgs_cons (pg_name (i := 4) sc_law_when.nd rfl (Or.inr rfl)) (pgs_cons (pg_name (i := 5) sc_law_when.nd rfl (Or.inl rfl)) pgs_nil)))))
     (pss_cut (ps_set (i := 6) sc_law_when.nd rfl (Or.inr rfl) (pe_ix ix_tup (pe_ix ix_list (pv 5) (pv 1) (fun _ _ => rfl)) pe_int (fun _ _ => rfl)))
     (pss_cut (ps_comp (i := 7) sc_law_when.nd rfl (Or.inl rfl) (pi_range1 rfl bl.range_ (pa_cons (pe_callB call_len_seq rfl bl.len_ PySem.boot_len (pa_cons (pv 6) pa_nil)) pa_nil)) (cmpOk_free (N := ["j", "row", "domains", "columns"]) (fr := [2, 4, 6]) (cl := [("row", s.heap.objs.size + 1), ("domains", s.heap.objs.size + 1 + 1), ("columns", s.heap.objs.size + 1 + 1 + 1)]) rfl rfl (by decide +kernel) (by decide +kernel) rfl (by decide +kernel) rfl rfl rfl (List.forall_mem_cons.mpr ⟨rfl, List.forall_mem_cons.mpr ⟨rfl, List.forall_mem_cons.mpr ⟨rfl, List.forall_mem_nil _⟩⟩⟩) rfl) rfl (fun _ _ _ _ => pif_nil) (fun _ _ _ _ => (pe_fn c__law_field hr rfl (pa_cons (pe_ix (ix_listK (K := K) rfl) (pv 2) (pe_ix (ix_listK (K := K) rfl) (pv 3) (pv 0) (fun _ _ => rfl)) (fun _ _ => rfl)) (pa_cons (pe_ix (ix_listK (K := K) rfl) (pe_ix (ix_tupK (K := K) rfl) (pv 1) pe_int (fun _ _ => rfl)) (pv 0) (fun _ _ => rfl)) pa_nil)))))
     (pss_cut (ps_set (i := 8) sc_law_when.nd rfl (Or.inl rfl) (pe_op op_add (pe_op op_sub (pe_callB call_len_seq rfl bl.len_ PySem.boot_len (pa_cons (pv 3) pa_nil)) (pe_callB call_len_seq rfl bl.len_ PySem.boot_len (pa_cons (pv 5) pa_nil))) (pv 1)))
     (pss_one (ps_ret (pe_op op_add_str (pe_op op_add_str (pe_op op_add_str pe_str (pe_bm PySem.F.plainAttrs_str PySem.F.slot_str_join PySem.F.type_str_join mt_join pe_str (pa_cons (pv 7) pa_nil))) pe_str) (pe_fn c__law_value hr rfl (pa_cons (pe_ix ix_list (pv 4) (pv 8) (fun _ _ => rfl)) (pa_cons (pe_ix ix_tup (pv 2) pe_int (fun _ _ => rfl)) pa_nil)))))))))), ?_⟩
  obtain ⟨nl, dl, tl_, dv, tv, er, enl, edl, hdv, etl, htv⟩ := id hPl
  obtain ⟨ta, eta, cl, rl, rx, g1, g2, g3, g4⟩ := htv.2 k t et
  have hzl : (zs.map V.str).length = zs.length := List.length_map _
  have hl1 := ok.len
  have hl2 := ok.tab
  have htl : tv.length = ts.length := htv.1
  have tok := ok.tabs k t et
  have hlt := ok.lt et
  have hc3 : t.cols.length ≤ 3 := tok.ok.few
  have hvl : (vN t.cols).length = t.cols.length := vN_len _
  have fit := tok.rows w hw
  have hwl : w.1.length = t.cols.length := fit.len
  have hcvl : cv.length = w.1.length := f3.1
  have okp := ok.doms po (List.mem_of_getElem? epo)
  have hcell := ok.cells et hw
  have ltk : ∀ j ∈ t.cols, j < (ds.map PD.k).length := fun j hj => by rw [List.length_map]; exact hlt j hj
  have gk := prm_get (os := t.cols) (xs := ds.map PD.k) ltk
  have lz := zf_len (ks := prm t.cols (ds.map PD.k)) (pss := w.1) (by omega) hcell
  have lz : (Txt.join (Str.ofString " | ") (List.zipWith fieldT (prm t.cols (ds.map PD.k)) w.1)).length ≤ 7254 := lz
  have hcode := fit.code po epo
  have lv := valT_len okp hcode.1 hcode.2
  refine ⟨fun σ' H' => H' = H ∧ σ' = [some (.ref r), some (.int (k : Int)), some (.ref ro), some (.ref nl), some (.ref dl), some (.ref tl_), none, none, none], ⟨_, rfl, r, _, rfl, SqT.of er, rfl, _, _, rfl, _, _, rfl, _, _, rfl, rfl, rfl, rfl⟩, ?_⟩
  rintro σ1 H1 ⟨rfl, rfl⟩
  refine ⟨fun σ' H' => H' = H1 ∧ σ' = [some (.ref r), some (.int (k : Int)), some (.ref ro), some (.ref nl), some (.ref dl), some (.ref tl_), some (.ref cl), none, none], ⟨_, rfl, _, rfl, tl_, _, _, _, rfl, rfl, SqL.of etl, atI_nat eta, ta, _, _, _, rfl, rfl, SqT.of g1, rfl, rfl, rfl⟩, ?_⟩
  rintro σ2 H2 ⟨rfl, rfl⟩
  refine ⟨fun σ' H' => Same H2 H' ∧ ∃ fa : Addr, H' fa = some (.lst ((List.zipWith fieldT (prm t.cols (ds.map PD.k)) w.1).map V.str)) ∧ σ' = [some (.ref r), some (.int (k : Int)), some (.ref ro), some (.ref nl), some (.ref dl), some (.ref tl_), some (.ref cl), some (.ref fa), none], ?_, ?_⟩
  · refine ⟨_, rfl, cl, _, rfl, .inl (SqL.of g2), _, rfl, (by omega), (by omega), comp_range (fun D i ys H' => Same H2 H' ∧ H' D = some (.lst ys) ∧ ys = (List.zipWith fieldT ((prm t.cols (ds.map PD.k)).take i) (w.1.take i)).map V.str) (fun D hD => ⟨same_new hD _, upd_same, rfl⟩) (fun D i ys H' hD hi h => ?_) (fun D ys H' hD h => ?_)⟩
    · obtain ⟨sm, eD, rfl⟩ := h
      rw [Int.toNat_natCast, hvl] at hi
      have ec := List.getElem?_eq_getElem hi
      generalize t.cols[i] = c at ec
      obtain ⟨pd, ed⟩ : ∃ pd, ds[c]? = some pd := ⟨_, List.getElem?_eq_getElem (hlt _ (List.mem_of_getElem? ec))⟩
      obtain ⟨da, e2, hpd⟩ := hdv.2 c _ ed
      have okd := ok.doms _ (List.mem_of_getElem? ed)
      have eps := List.getElem?_eq_getElem (l := w.1) (i := i) (by omega)
      obtain ⟨l, el, _, yl, e3, hpl⟩ := f3.2 i _ eps
      have ekk : (prm t.cols (ds.map PD.k))[i]? = some pd.k := by rw [gk.2 i c ec, List.getElem?_map, ed]; rfl
      have hcl := hcell i _ _ ekk eps
      have ixc : atI (vN t.cols) (0 + (i : Int)) = some (.int (c : Int)) := by rw [Int.zero_add]; exact atI_nat (vN_at ec)
      have ixw : atI cv (0 + (i : Int)) = some (.ref l) := by rw [Int.zero_add]; exact atI_nat el
      refine ⟨_, rfl, _, rfl, _, rfl, cl, _, _, _, rfl, rfl, SqL.of (sm _ _ g2), ixc, dl, _, _, _, rfl, rfl, SqL.of (sm _ _ edl), atI_nat e2, _, rfl, ro, _, _, _, rfl, rfl, SqT.of (sm _ _ f1), rfl, _, rfl, ce, _, _, _, rfl, rfl, SqL.of (sm _ _ f2), ixw, da, l, _, yl, _, rfl, hpd.same sm, okd, sm _ _ e3, hpl.mono sm.tups, hcl, fun H3 s3 => CYes.mk (by rw [Int.toNat_natCast, hvl]; exact hi) (s3 _ _ eD) (small1000 (by simp; omega)) ⟨(sm.trans s3).upd hD, upd_same, ?_⟩⟩
      rw [take_snoc ekk, take_snoc eps, List.zipWith_append (by rw [List.length_take, List.length_take, gk.1]; omega), List.map_append]
      rfl
    · obtain ⟨sm, eD, rfl⟩ := h
      rw [Int.toNat_natCast, hvl, List.take_of_length_le (by rw [gk.1]; exact Nat.le_refl _), List.take_of_length_le (by omega)] at eD
      exact ⟨sm, D, eD, rfl⟩
  rintro σ3 H3 ⟨s3, fa, efa, rfl⟩
  refine ⟨fun σ' H' => H' = H3 ∧ σ' = [some (.ref r), some (.int (k : Int)), some (.ref ro), some (.ref nl), some (.ref dl), some (.ref tl_), some (.ref cl), some (.ref fa), some (.int ((fN + k : Nat) : Int))], ⟨_, rfl, nl, _, rfl, .inl (SqL.of (s3 _ _ enl)), _, rfl, tl_, _, rfl, .inl (SqL.of (s3 _ _ etl)), _, _, rfl, rfl, _, rfl, _, _, rfl, rfl, rfl, ?_⟩, ?_⟩
  · rw [show ((fN + k : Nat) : Int) = (((zs.map V.str).length : Nat) : Int) - ((tv.length : Nat) : Int) + (k : Int) by omega]
    rfl
  rintro σ4 H4 ⟨rfl, rfl⟩
  obtain ⟨da, e2, hpd⟩ := hdv.2 (fN + k) po epo
  have := q H4 s3
  unfold rowT at this
  refine ⟨rfl, _, rfl, _, fa, _, rfl, rfl, SqL.of efa, (by decide +kernel), join_ok (m := 1206) (n := 6) (fun z hz => ?_) (by rw [List.length_zipWith]; omega) (by decide), _, _, rfl, rfl, big4 (by rw [l_when]; omega), _, _, rfl, rfl, big4 (by rw [len_ap, l_when, l_to]; omega), _, rfl, _, rfl, dl, _, _, _, rfl, rfl, SqL.of (s3 _ _ edl), atI_nat e2, _, rfl, ro, _, _, _, rfl, rfl, SqT.of (s3 _ _ f1), rfl, da, po, w.2, rfl, hpd.same s3, okp, hcode.1, hcode.2, _, _, rfl, rfl, big4 (by rw [len_ap, len_ap, l_when, l_to]; omega), this⟩
  obtain ⟨j, hj⟩ := List.getElem?_of_mem hz
  rw [List.getElem?_zipWith] at hj
  cases e3 : (prm t.cols (ds.map PD.k))[j]? with
  | none => rw [e3] at hj; cases hj
  | some kk =>
    cases e4 : w.1[j]? with
    | none => rw [e3, e4] at hj; cases hj
    | some p =>
      rw [e3, e4] at hj
      have hj : some (fieldT kk p) = some z := hj
      cases hj
      exact fieldT_len (hcell j kk p e3 e4)
theorem ok_Words___init___Words (F : Fun K "__init__" "Words.__init__" s_Words___init___Words f fd) (bl : Bl K mg cWay cFirst cOnly cLike cLow cHigh cSum cDomain cNumbers cWords cTable) (b_Domain___init___Words : BCallee CX0 P w K mg base 2 "Domain" "__init__" ["self", "low", "high"] (sp_Domain___init___Words K cWay cFirst cOnly cLike cLow cHigh cSum cDomain cNumbers cWords cTable)) (c_is_word : Callee P w K mg base 2 "is_word" ["text"] (sp_is_word K cWay cFirst cOnly cLike cLow cHigh cSum cDomain cNumbers cWords cTable)) : FnOk P w K mg base CX0 3 f fd ["self", "words"] (sp_Words___init___Words K cWay cFirst cOnly cLike cLow cHigh cSum cDomain cNumbers cWords cTable) := by
  refine F.ok sc_Words___init___Words (fun vs H Q E h => ?_) (fun cdv A outer s H vs Q E hr h => ?_)
  · obtain ⟨x, dx, p, zs, rfl, hx, hP, hg, q⟩ := h
    rfl
  obtain ⟨x, dx, p, zs, rfl, hx, hP, hg, q⟩ := h
  refine ⟨_, (pss_cons (ps_if (pt_not (pt_chain op_le op_le pe_int (pe_callB call_len_seq rfl bl.len_ PySem.boot_len (pa_cons (pv 1) pa_nil)) (pe_gl rfl bl.MOST_WORDS_)))
     (pss_one ps_never)
     pss_nil)
     (pss_cut (ps_for PassesOwn.never rfl (pi_list (pv 1)) (pg_name (i := 2) sc_Words___init___Words.nd rfl (Or.inl rfl))
     (pss_one (ps_if (pt_not (pt_val (pe_fn c_is_word hr rfl (pa_cons (pv 2) pa_nil))))
     (pss_one ps_never)
     pss_nil)))
     (pss_cons (ps_if (pt_cmpR op_lt (pe_callB call_len_setO rfl bl.len_ PySem.boot_len (pa_cons (pe_callTy (call_set_strs rfl) rfl bl.set_ PyProof.Rows.boot_set (pa_cons (pv 1) pa_nil)) pa_nil)) (pe_callB call_len_seq rfl bl.len_ PySem.boot_len (pa_cons (pv 1) pa_nil)) (nomark _))
     (pss_one ps_never)
     pss_nil)
     (pss_cons (ps_expr (pe_base b_Domain___init___Words pass0 hr rfl (pa_cons (pv 0) (pa_cons pe_int (pa_cons (pe_op op_sub (pe_callB call_len_seq rfl bl.len_ PySem.boot_len (pa_cons (pv 1) pa_nil)) pe_int) pa_nil)))))
     (pss_one (ps_fld (pv 0) (pe_callTy call_list_of rfl bl.list_ PyProof.Rows.boot_list (pa_cons (pv 1) pa_nil)) rfl)))))), ?_⟩
  have hS : SqL K H p (zs.map V.str) := SqL.of hP
  have hpx : p ≠ x := ne_of hP hx (by intro z; cases z)
  have hlen : (zs.map V.str).length = zs.length := List.length_map _
  have h1 := hg.some_
  have h40 := hg.few
  refine ⟨_, rfl, p, _, rfl, .inl hS, _, _, rfl, rfl, _, rfl, iteTS (by rw [hlen]; omega) ?_⟩
  refine ⟨_, _, rfl, rfl, _, rfl, ?_⟩
  rw [decide_eq_true (show (((zs.map V.str).length : Nat) : Int) ≤ 40 by rw [hlen]; omega)]
  refine iteF ?_
  refine ⟨fun σ' H' => H' = H ∧ ∃ c2 : Option V, σ' = [some (.ref x), some (.ref p), c2], ?_, ?_⟩
  · refine ⟨_, rfl, p, rfl, ⟨_, hS⟩, for_list (xs := zs.map V.str) (fun i σ H' => H' = H ∧ ∃ c2 : Option V, σ = [some (.ref x), some (.ref p), c2]) ⟨rfl, _, rfl⟩ (fun i σ H' _ h => by rw [h.1]; exact hS) (fun i y σ H' e h => ?_) (fun σ H' h => h)⟩
    obtain ⟨e0, c2, rfl⟩ := h
    rw [e0]
    obtain ⟨z, rfl, ez⟩ := get_strs e
    have hw := hg.words z (List.mem_of_getElem? ez)
    have hz : z.length ≤ 1000 := by
      have hw2 := hw
      unfold isw at hw2
      simp only [Bool.and_eq_true, decide_eq_true_eq] at hw2
      omega
    refine ⟨_, rfl, z, rfl, hz, _, rfl, ?_⟩
    rw [hw]
    exact iteF ⟨rfl, _, rfl⟩
  rintro σ2 H2 ⟨e2, c2, rfl⟩
  rw [e2]
  refine ⟨_, rfl, p, zs, rfl, hS, by omega, fun l hl => ⟨l, zs, rfl, upd_same, by omega, _, rfl, p, _, rfl, .inl ((same_new hl _).seq hS), _, _, rfl, rfl, _, rfl, ?_⟩⟩
  have s1 := same_new hl (SetO P w l zs)
  have cf := cntK_full zs zs.length (Nat.le_refl _)
  rw [List.take_length] at cf
  refine iteFS (by rw [hlen, cf.mpr hg.once]; omega) ?_
  have hx1 := s1 _ _ hx
  have hP1 := s1 _ _ hP
  refine ⟨_, rfl, _, rfl, p, _, rfl, .inl (SqL.of hP1), _, _, rfl, rfl, x, dx, 0, _, rfl, hx1, ?_⟩
  have e1 : mkd cWords (upd H l (SetO P w l zs)) x dx 0 ((((zs.map V.str).length : Nat) : Int) - 1) x = some (.ins cWords dx [("low", .int 0), ("high", .int ((((zs.map V.str).length : Nat) : Int) - 1))]) := upd_same
  have e2 : mkd cWords (upd H l (SetO P w l zs)) x dx 0 ((((zs.map V.str).length : Nat) : Int) - 1) p = some (.lst (zs.map V.str)) := by unfold mkd; rw [upd_ne hpx, upd_ne hpx]; exact hP1
  have e3 : ∀ b o, b ≠ x → H b = some o → mkd cWords (upd H l (SetO P w l zs)) x dx 0 ((((zs.map V.str).length : Nat) : Int) - 1) b = some o := fun b o hb h => by unfold mkd; rw [upd_ne hb, upd_ne hb]; exact s1 b o h
  have eh : (((zs.map V.str).length : Nat) : Int) - 1 = hiW zs := by rw [hlen]; rfl
  refine ⟨_, rfl, p, _, rfl, .inl (SqL.of e2), fun l2 hl2 => ⟨_, rfl, x, _, dx, _, rfl, ret_r1 e1 hl2, bl.k_Words, bl.na_Words_words, (by show 2 < 1000; decide), ?_⟩⟩
  show Q .non (upd (upd (mkd cWords (upd H l (SetO P w l zs)) x dx 0 ((((zs.map V.str).length : Nat) : Int) - 1)) l2 (.lst (zs.map V.str))) x (.ins cWords dx (putF (Str.ofString "words") (.ref l2) [(Str.ofString "low", .int 0), (Str.ofString "high", .int ((((zs.map V.str).length : Nat) : Int) - 1))])))
  rw [put3]
  have hl3 : mkd cWords (upd H l (SetO P w l zs)) x dx 0 ((((zs.map V.str).length : Nat) : Int) - 1) l2 = none := hl2
  clear hl2
  generalize mkd cWords (upd H l (SetO P w l zs)) x dx 0 ((((zs.map V.str).length : Nat) : Int) - 1) = H2 at e1 e2 e3 hl3 ⊢
  rw [eh]
  have nl : l2 ≠ x := (ne_of_none e1 hl3).symm
  exact q _ l2 (fun b o hb h => (upd_ne hb).trans (ret_r1 (e3 b o hb h) hl3)) upd_same ((upd_ne nl).trans upd_same) (by cases q_ : H l2 with | none => rfl | some o => rw [e3 l2 o nl q_] at hl3; cases hl3)
theorem ok_Domain_worth_Numbers (F : Fun K "worth" "Domain.worth" s_Domain_worth_Numbers f fd) (bl : Bl K mg cWay cFirst cOnly cLike cLow cHigh cSum cDomain cNumbers cWords cTable) (m_Numbers_value_at_Numbers : MCallee CX0 P w K mg base 2 cNumbers "value_at" ["self", "code"] (sp_Numbers_value_at_Numbers K cWay cFirst cOnly cLike cLow cHigh cSum cDomain cNumbers cWords cTable)) (m_Domain_has_code_Numbers : MCallee CX0 P w K mg base 2 cNumbers "has_code" ["self", "value"] (sp_Domain_has_code_Numbers K cWay cFirst cOnly cLike cLow cHigh cSum cDomain cNumbers cWords cTable)) : FnOk P w K mg base CX0 3 f fd ["self", "code"] (sp_Domain_worth_Numbers K cWay cFirst cOnly cLike cLow cHigh cSum cDomain cNumbers cWords cTable) := by
  refine F.ok sc_Domain_worth_Numbers (fun vs H Q E h => ?_) (fun cdv A outer s H vs Q E hr h => ?_)
  · obtain ⟨a, lo, hi, c, rfl, ⟨dx, ha⟩, h1, h2, q⟩ := h
    rfl
  obtain ⟨a, lo, hi, c, rfl, ⟨dx, ha⟩, h1, h2, q⟩ := h
  refine ⟨_, (pss_cons (ps_if (pt_not (pt_val (pe_mt m_Domain_has_code_Numbers pass0 bl.k_Numbers hr (pv 0) (pa_cons (pv 1) pa_nil))))
     (pss_one ps_never)
     pss_nil)
     (pss_one (ps_ret (pe_mt m_Numbers_value_at_Numbers pass0 bl.k_Numbers hr (pv 0) (pa_cons (pv 1) pa_nil))))), ?_⟩
  refine ⟨_, rfl, a, _, _, rfl, ha, rfl, _, rfl, a, (lo, hi), c, rfl, ⟨dx, _, ha, rfl, rfl, rfl⟩, h1, h2, _, rfl, iteF ?_⟩
  exact ⟨_, rfl, a, _, _, rfl, ha, rfl, _, rfl, a, c, rfl, q⟩
theorem ok_Domain_worth_Words (F : Fun K "worth" "Domain.worth" s_Domain_worth_Words f fd) (bl : Bl K mg cWay cFirst cOnly cLike cLow cHigh cSum cDomain cNumbers cWords cTable) (m_Words_value_at_Words : MCallee CX0 P w K mg base 2 cWords "value_at" ["self", "code"] (sp_Words_value_at_Words K cWay cFirst cOnly cLike cLow cHigh cSum cDomain cNumbers cWords cTable)) (m_Domain_has_code_Words : MCallee CX0 P w K mg base 2 cWords "has_code" ["self", "value"] (sp_Domain_has_code_Words K cWay cFirst cOnly cLike cLow cHigh cSum cDomain cNumbers cWords cTable)) : FnOk P w K mg base CX0 3 f fd ["self", "code"] (sp_Domain_worth_Words K cWay cFirst cOnly cLike cLow cHigh cSum cDomain cNumbers cWords cTable) := by
  refine F.ok sc_Domain_worth_Words (fun vs H Q E h => ?_) (fun cdv A outer s H vs Q E hr h => ?_)
  · obtain ⟨a, zs, c, z, rfl, hW, h0, hz, q⟩ := h
    rfl
  obtain ⟨a, zs, c, z, rfl, hW, h0, hz, q⟩ := h
  refine ⟨_, (pss_cons (ps_if (pt_not (pt_val (pe_mt m_Domain_has_code_Words pass0 bl.k_Words hr (pv 0) (pa_cons (pv 1) pa_nil))))
     (pss_one ps_never)
     pss_nil)
     (pss_one (ps_ret (pe_mt m_Words_value_at_Words pass0 bl.k_Words hr (pv 0) (pa_cons (pv 1) pa_nil))))), ?_⟩
  obtain ⟨dx, l, ha, hl⟩ := id hW
  have hlt := (List.getElem?_eq_some_iff.mp hz).1
  refine ⟨_, rfl, a, _, _, rfl, ha, rfl, _, rfl, a, (0, hiW zs), c, rfl, ⟨dx, _, ha, rfl, rfl, rfl⟩, h0, (by unfold hiW; omega), _, rfl, iteF ?_⟩
  exact ⟨_, rfl, a, _, _, rfl, ha, rfl, _, rfl, a, zs, c, z, rfl, hW, h0, hz, q⟩
theorem ok_show_value (F : Fun K "show_value" "show_value" s_show_value f fd) (bl : Bl K mg cWay cFirst cOnly cLike cLow cHigh cSum cDomain cNumbers cWords cTable) (c_number_text : Callee P w K mg base 3 "number_text" ["number"] (sp_number_text K cWay cFirst cOnly cLike cLow cHigh cSum cDomain cNumbers cWords cTable)) (m_Domain_worth_Numbers : MCallee CX0 P w K mg base 3 cNumbers "worth" ["self", "code"] (sp_Domain_worth_Numbers K cWay cFirst cOnly cLike cLow cHigh cSum cDomain cNumbers cWords cTable)) (m_Domain_worth_Words : MCallee CX0 P w K mg base 3 cWords "worth" ["self", "code"] (sp_Domain_worth_Words K cWay cFirst cOnly cLike cLow cHigh cSum cDomain cNumbers cWords cTable)) : FnOk P w K mg base CX0 4 f fd ["domain", "code"] (sp_show_value K cWay cFirst cOnly cLike cLow cHigh cSum cDomain cNumbers cWords cTable) := by
  refine F.ok sc_show_value (fun vs H Q E h => ?_) (fun cdv A outer s H vs Q E hr h => ?_)
  · obtain ⟨d, c, z, rfl, hsh, q⟩ := h
    rfl
  obtain ⟨d, c, z, rfl, hsh, q⟩ := h
  refine ⟨_, (pss_cons (ps_if (pt_val (pe_callB call_isiG rfl bl.isinstance_ PyProof.Rows.boot_isinstance (pa_cons (pv 0) (pa_cons (pe_glob (v := .ref cWords) rfl bl.Words_ rfl) pa_nil))))
     (pss_one (ps_ret (pe_mtP (polc m_Domain_worth_Numbers bl.k_Numbers (polc m_Domain_worth_Words bl.k_Words poln)) pass0 hr (pv 0) (pa_cons (pv 1) pa_nil))))
     pss_nil)
     (pss_one (ps_ret (pe_fn c_number_text hr rfl (pa_cons (pe_mtP (polc m_Domain_worth_Numbers bl.k_Numbers (polc m_Domain_worth_Words bl.k_Words poln)) pass0 hr (pv 0) (pa_cons (pv 1) pa_nil)) pa_nil))))), ?_⟩
  rcases hsh with ⟨lo, hi, hN, h1, h2, hb, rfl⟩ | ⟨zs, hW, h0, hz⟩
  · obtain ⟨dx, ha⟩ := id hN
    refine ⟨_, rfl, _, _, _, _, false, rfl, .ref _, bl.t_Numbers.ty ha, bl.f_nw, _, rfl, iteF ?_⟩
    refine ⟨_, rfl, d, _, dx, _, rfl, .head _, ha, rfl, _, rfl, d, lo, hi, c, rfl, hN, h1, h2, c, rfl, hb, q⟩
  · obtain ⟨dx, l, ha, hl⟩ := id hW
    refine ⟨_, rfl, _, _, _, _, true, rfl, .ref _, bl.t_Words.ty ha, bl.f_ww, _, rfl, iteT ?_⟩
    exact ⟨_, rfl, d, _, dx, _, rfl, .tail _ (.head _), ha, rfl, _, rfl, d, zs, c, z, rfl, hW, h0, hz, q⟩
theorem ok_way_by (F : Fun K "way_by" "way_by" s_way_by f fd) (bl : Bl K mg cWay cFirst cOnly cLike cLow cHigh cSum cDomain cNumbers cWords cTable) (k_First : MkCallee CX0 P w K mg base 2 "First" cFirst ["self"] (sp_First___init___First K cWay cFirst cOnly cLike cLow cHigh cSum cDomain cNumbers cWords cTable)) (k_Only : MkCallee CX0 P w K mg base 2 "Only" cOnly ["self"] (sp_Only___init___Only K cWay cFirst cOnly cLike cLow cHigh cSum cDomain cNumbers cWords cTable)) (k_Like : MkCallee CX0 P w K mg base 2 "Like" cLike ["self"] (sp_Like___init___Like K cWay cFirst cOnly cLike cLow cHigh cSum cDomain cNumbers cWords cTable)) (k_Low : MkCallee CX0 P w K mg base 2 "Low" cLow ["self"] (sp_Low___init___Low K cWay cFirst cOnly cLike cLow cHigh cSum cDomain cNumbers cWords cTable)) (k_High : MkCallee CX0 P w K mg base 2 "High" cHigh ["self"] (sp_High___init___High K cWay cFirst cOnly cLike cLow cHigh cSum cDomain cNumbers cWords cTable)) (k_Sum : MkCallee CX0 P w K mg base 2 "Sum" cSum ["self"] (sp_Sum___init___Sum K cWay cFirst cOnly cLike cLow cHigh cSum cDomain cNumbers cWords cTable)) : FnOk P w K mg base CX0 4 f fd ["name"] (sp_way_by K cWay cFirst cOnly cLike cLow cHigh cSum cDomain cNumbers cWords cTable) := by
  refine F.ok sc_way_by (fun vs H Q E h => ?_) (fun cdv A outer s H vs Q E hr h => ?_)
  · obtain ⟨z, rfl, hz, q⟩ := h
    rfl
  obtain ⟨z, rfl, hz, q⟩ := h
  refine ⟨_, (pss_cons (ps_for PassesOwn.never rfl (pi_list (pe_lst (pa_cons (pe_mk0 k_First pass0 hr rfl) (pa_cons (pe_mk0 k_Only pass0 hr rfl) (pa_cons (pe_mk0 k_Like pass0 hr rfl) (pa_cons (pe_mk0 k_Low pass0 hr rfl) (pa_cons (pe_mk0 k_High pass0 hr rfl) (pa_cons (pe_mk0 k_Sum pass0 hr rfl) pa_nil)))))))) (pg_name (i := 1) sc_way_by.nd rfl (Or.inl rfl))
     (pss_one (ps_if (pt_cmpR op_eq (pe_fld (pv 1) rfl) (pv 0) (nomark _))
     (pss_one (ps_ret (pv 1)))
     pss_nil)))
     (pss_one ps_never)), ?_⟩
  refine fun w0 d0 hw hdw hnw => ⟨w0, d0, rfl, upd_same, rfl, ?_⟩
  have t0 : Same H (upd (upd (upd H d0 (.own w0)) w0 (.ins cFirst d0 [])) w0 (.ins cFirst d0 [("called", .str (Str.ofString "first"))])) := ((same_new hdw _).upd hw).upd hw
  have y0 : WyN cFirst (upd (upd (upd H d0 (.own w0)) w0 (.ins cFirst d0 [])) w0 (.ins cFirst d0 [("called", .str (Str.ofString "first"))])) w0 (Str.ofString "first") := ⟨d0, upd_same⟩
  generalize upd (upd (upd H d0 (.own w0)) w0 (.ins cFirst d0 [])) w0 (.ins cFirst d0 [("called", .str (Str.ofString "first"))]) = H0 at t0 y0 ⊢
  clear hw hdw hnw
  refine fun w1 d1 hw hdw hnw => ⟨w1, d1, rfl, upd_same, rfl, ?_⟩
  have t1 : Same H0 (upd (upd (upd H0 d1 (.own w1)) w1 (.ins cOnly d1 [])) w1 (.ins cOnly d1 [("called", .str (Str.ofString "only"))])) := ((same_new hdw _).upd hw).upd hw
  have y1 : WyN cOnly (upd (upd (upd H0 d1 (.own w1)) w1 (.ins cOnly d1 [])) w1 (.ins cOnly d1 [("called", .str (Str.ofString "only"))])) w1 (Str.ofString "only") := ⟨d1, upd_same⟩
  generalize upd (upd (upd H0 d1 (.own w1)) w1 (.ins cOnly d1 [])) w1 (.ins cOnly d1 [("called", .str (Str.ofString "only"))]) = H1 at t1 y1 ⊢
  clear hw hdw hnw
  have y0 := y0.same t1
  refine fun w2 d2 hw hdw hnw => ⟨w2, d2, rfl, upd_same, rfl, ?_⟩
  have t2 : Same H1 (upd (upd (upd H1 d2 (.own w2)) w2 (.ins cLike d2 [])) w2 (.ins cLike d2 [("called", .str (Str.ofString "like"))])) := ((same_new hdw _).upd hw).upd hw
  have y2 : WyN cLike (upd (upd (upd H1 d2 (.own w2)) w2 (.ins cLike d2 [])) w2 (.ins cLike d2 [("called", .str (Str.ofString "like"))])) w2 (Str.ofString "like") := ⟨d2, upd_same⟩
  generalize upd (upd (upd H1 d2 (.own w2)) w2 (.ins cLike d2 [])) w2 (.ins cLike d2 [("called", .str (Str.ofString "like"))]) = H2 at t2 y2 ⊢
  clear hw hdw hnw
  have y0 := y0.same t2
  have y1 := y1.same t2
  refine fun w3 d3 hw hdw hnw => ⟨w3, d3, rfl, upd_same, rfl, ?_⟩
  have t3 : Same H2 (upd (upd (upd H2 d3 (.own w3)) w3 (.ins cLow d3 [])) w3 (.ins cLow d3 [("called", .str (Str.ofString "low"))])) := ((same_new hdw _).upd hw).upd hw
  have y3 : WyN cLow (upd (upd (upd H2 d3 (.own w3)) w3 (.ins cLow d3 [])) w3 (.ins cLow d3 [("called", .str (Str.ofString "low"))])) w3 (Str.ofString "low") := ⟨d3, upd_same⟩
  generalize upd (upd (upd H2 d3 (.own w3)) w3 (.ins cLow d3 [])) w3 (.ins cLow d3 [("called", .str (Str.ofString "low"))]) = H3 at t3 y3 ⊢
  clear hw hdw hnw
  have y0 := y0.same t3
  have y1 := y1.same t3
  have y2 := y2.same t3
  refine fun w4 d4 hw hdw hnw => ⟨w4, d4, rfl, upd_same, rfl, ?_⟩
  have t4 : Same H3 (upd (upd (upd H3 d4 (.own w4)) w4 (.ins cHigh d4 [])) w4 (.ins cHigh d4 [("called", .str (Str.ofString "high"))])) := ((same_new hdw _).upd hw).upd hw
  have y4 : WyN cHigh (upd (upd (upd H3 d4 (.own w4)) w4 (.ins cHigh d4 [])) w4 (.ins cHigh d4 [("called", .str (Str.ofString "high"))])) w4 (Str.ofString "high") := ⟨d4, upd_same⟩
  generalize upd (upd (upd H3 d4 (.own w4)) w4 (.ins cHigh d4 [])) w4 (.ins cHigh d4 [("called", .str (Str.ofString "high"))]) = H4 at t4 y4 ⊢
  clear hw hdw hnw
  have y0 := y0.same t4
  have y1 := y1.same t4
  have y2 := y2.same t4
  have y3 := y3.same t4
  refine fun w5 d5 hw hdw hnw => ⟨w5, d5, rfl, upd_same, rfl, ?_⟩
  have t5 : Same H4 (upd (upd (upd H4 d5 (.own w5)) w5 (.ins cSum d5 [])) w5 (.ins cSum d5 [("called", .str (Str.ofString "sum"))])) := ((same_new hdw _).upd hw).upd hw
  have y5 : WyN cSum (upd (upd (upd H4 d5 (.own w5)) w5 (.ins cSum d5 [])) w5 (.ins cSum d5 [("called", .str (Str.ofString "sum"))])) w5 (Str.ofString "sum") := ⟨d5, upd_same⟩
  generalize upd (upd (upd H4 d5 (.own w5)) w5 (.ins cSum d5 [])) w5 (.ins cSum d5 [("called", .str (Str.ofString "sum"))]) = H5 at t5 y5 ⊢
  clear hw hdw hnw
  have y0 := y0.same t5
  have y1 := y1.same t5
  have y2 := y2.same t5
  have y3 := y3.same t5
  have y4 := y4.same t5
  have s5 : Same H H5 := ((((t0.trans t1).trans t2).trans t3).trans t4).trans t5
  refine ⟨(by show 6 ≤ sizeLine; decide), fun l hl => ?_⟩
  have sl : Same H5 (upd H5 l (.lst [V.ref w0, .ref w1, .ref w2, .ref w3, .ref w4, .ref w5])) := same_new hl _
  have el : upd H5 l (.lst [V.ref w0, .ref w1, .ref w2, .ref w3, .ref w4, .ref w5]) l = some (.lst [V.ref w0, .ref w1, .ref w2, .ref w3, .ref w4, .ref w5]) := upd_same
  generalize upd H5 l (.lst [V.ref w0, .ref w1, .ref w2, .ref w3, .ref w4, .ref w5]) = H6 at sl el ⊢
  have y0 := y0.same sl
  have y1 := y1.same sl
  have y2 := y2.same sl
  have y3 := y3.same sl
  have y4 := y4.same sl
  have y5 := y5.same sl
  have sA := s5.trans sl
  have key : ∀ (i : Nat) (x : V), [V.ref w0, .ref w1, .ref w2, .ref w3, .ref w4, .ref w5][i]? = some x → ∃ (a C : Addr) (y : Str), x = .ref a ∧ (cl6 cFirst cOnly cLike cLow cHigh cSum)[i]? = some C ∧ six[i]? = some y ∧ WyN C H6 a y ∧ Cls K C ∧ NoAttr K C (Str.ofString "called") := fun i x e => by
    match i, e with
    | 0, e => cases e; exact ⟨w0, cFirst, _, rfl, rfl, rfl, y0, bl.k_First, bl.na_First_called⟩
    | 1, e => cases e; exact ⟨w1, cOnly, _, rfl, rfl, rfl, y1, bl.k_Only, bl.na_Only_called⟩
    | 2, e => cases e; exact ⟨w2, cLike, _, rfl, rfl, rfl, y2, bl.k_Like, bl.na_Like_called⟩
    | 3, e => cases e; exact ⟨w3, cLow, _, rfl, rfl, rfl, y3, bl.k_Low, bl.na_Low_called⟩
    | 4, e => cases e; exact ⟨w4, cHigh, _, rfl, rfl, rfl, y4, bl.k_High, bl.na_High_called⟩
    | 5, e => cases e; exact ⟨w5, cSum, _, rfl, rfl, rfl, y5, bl.k_Sum, bl.na_Sum_called⟩
    | n + 6, e => simp at e
  refine ⟨l, rfl, ⟨_, SqL.of el⟩, for_list (xs := [V.ref w0, .ref w1, .ref w2, .ref w3, .ref w4, .ref w5]) (fun i σ H' => (∃ c1 : Option V, σ = [some (.str z), c1]) ∧ H' = H6 ∧ ∀ j : Nat, j < i → six[j]? ≠ some z) ⟨⟨_, rfl⟩, rfl, (fun j h => absurd h (Nat.not_lt_zero j))⟩ (fun i σ H' _ h => by rw [h.2.1]; exact SqL.of el) (fun i x σ H' e h => ?_) (fun σ H' h => ?_)⟩
  · obtain ⟨⟨c1, rfl⟩, e0, hno⟩ := h
    rw [e0]
    obtain ⟨a, C, y, rfl, eC, ey, ⟨dx, ha⟩, hc, hn⟩ := key i x e
    refine ⟨_, rfl, a, _, _, _, _, rfl, ha, hc, hn, rfl, _, rfl, rfl, _, rfl, ?_⟩
    refine ite2 (fun g => ?_) (fun g => ?_)
    · have g' : V.str y = V.str z := dec_t g
      injection g' with g'
      subst g'
      exact ⟨_, rfl, q i ey a C H6 sA eC ⟨dx, ha⟩⟩
    · refine ⟨⟨_, rfl⟩, rfl, fun j hj => ?_⟩
      by_cases hji : j < i
      · exact hno j hji
      · have : j = i := by omega
        subst this
        rw [ey]
        intro q2
        exact (dec_f g) (by injection q2 with q2; rw [q2])
  · obtain ⟨⟨c1, rfl⟩, e0, hno⟩ := h
    rw [e0]
    obtain ⟨j, hj, ej⟩ := List.getElem_of_mem hz
    exact absurd (by rw [List.getElem?_eq_getElem hj, ej]) (hno j hj)
theorem ok_fields_text (F : Fun K "fields_text" "fields_text" s_fields_text f fd) (bl : Bl K mg cWay cFirst cOnly cLike cLow cHigh cSum cDomain cNumbers cWords cTable) (c_show_cell : Callee P w K mg base 3 "show_cell" ["domain", "spans"] (sp_show_cell K cWay cFirst cOnly cLike cLow cHigh cSum cDomain cNumbers cWords cTable)) : FnOk P w K mg base CX0 4 f fd ["domains", "cells"] (sp_fields_text K cWay cFirst cOnly cLike cLow cHigh cSum cDomain cNumbers cWords cTable) := by
  refine F.ok sc_fields_text (fun vs H Q E h => ?_) (fun cdv A outer s H vs Q E hr h => ?_)
  · obtain ⟨dl, cl, dv, cv, ks, ps, rfl, edl, hdv, ecl, hcv, hl, h6, ok, q⟩ := h
    rfl
  obtain ⟨dl, cl, dv, cv, ks, ps, rfl, edl, hdv, ecl, hcv, hl, h6, ok, q⟩ := h
  refine ⟨_, (pss_one (ps_ret (pe_bm PySem.F.plainAttrs_str PySem.F.slot_str_join PySem.F.type_str_join mt_join (pe_gl rfl bl.BETWEEN_FIELDS_) (pa_cons (pe_compG (pi_zip rfl bl.zip_ (pa_cons (pv 0) (pa_cons (pv 1) pa_nil))) (cmpOkG_plain (N := ["domain", "spans"]) (k := 2) rfl rfl (by decide +kernel) (by decide +kernel) (by decide +kernel)) rfl (fun _ _ _ _ => (gTupK (K := K) (n := 2) rfl rfl (pgs_cons (pg_name (i := 0) (show (["domain", "spans"] : List Str).Nodup by decide +kernel) rfl (Or.inl rfl) (Or.inr rfl)) (pgs_cons (pg_name (i := 1) (show (["domain", "spans"] : List Str).Nodup by decide +kernel) rfl (Or.inl rfl) (Or.inr rfl)) pgs_nil)))) (fun _ _ _ _ => pif_nil) (fun _ _ _ _ => (pe_fn c_show_cell hr rfl (pa_cons (pv 0) (pa_cons (pv 1) pa_nil))))) pa_nil)))), ?_⟩
  have hd : dv.length = ks.length := hdv.1
  have hc : cv.length = ps.length := hcv.1
  refine ⟨rfl, _, rfl, _, rfl, dl, cl, rfl, ⟨_, SqL.of edl⟩, ⟨_, SqL.of ecl⟩, compG_zip (xs := dv) (ys := cv) (fun D i zs H' => Same H H' ∧ H' D = some (.lst zs) ∧ zs = (List.zipWith fieldT (ks.take i) (ps.take i)).map V.str) (fun D hD => ⟨same_new hD _, upd_same, rfl⟩) (fun D i zs H' hD _ h => ⟨SqL.of (h.1 _ _ edl), SqL.of (h.1 _ _ ecl)⟩) (fun D i x y zs H' T hD ex ey h hT ts hts => ?_) (fun D zs H' hD h => ?_)⟩
  · obtain ⟨sm, eD, rfl⟩ := h
    obtain ⟨d, k, rfl, ek, hk⟩ := hdv.get ex
    obtain ⟨l, p, rfl, ep, _, ys, el, hpl⟩ := RefL.get hcv ey
    have hi : i < ps.length := (List.getElem?_eq_some_iff.mp ep).1
    have s2 := sm.trans (same_new hT (.tup [.ref d, .ref l]))
    have eT : upd H' T (.tup [.ref d, .ref l]) T = some (.tup [.ref d, .ref l]) := upd_same
    have eD2 := (same_new hT (.tup [.ref d, .ref l])) _ _ eD
    generalize upd H' T (.tup [.ref d, .ref l]) = H2 at s2 eT eD2 ⊢
    obtain ⟨t0, t1, rfl⟩ : ∃ t0 t1, ts = [t0, t1] := by
      match ts, hts with
      | [t0, t1], _ => exact ⟨t0, t1, rfl⟩
    refine ⟨T, _, rfl, SqT.of eT, rfl, _, _, rfl, _, _, rfl, rfl, ⟨[some (.ref d), some (.ref l)], rfl, rfl⟩, ?_⟩
    refine ⟨_, rfl, _, rfl, d, l, k, ys, p, rfl, hk.same s2, s2 _ _ el, hpl.mono s2.tups, ok i k p ek ep, fun H3 s3 => ?_⟩
    refine CYes.mk (by omega) (s3 _ _ eD2) (small1000 (by simp; omega)) ⟨(s2.trans s3).upd hD, upd_same, ?_⟩
    rw [take_snoc ek, take_snoc ep, List.zipWith_append (by rw [List.length_take, List.length_take]; omega), List.map_append]
    rfl
  · obtain ⟨sm, eD, rfl⟩ := h
    have e1 : ks.take (min dv.length cv.length) = ks := List.take_of_length_le (by omega)
    have e2 : ps.take (min dv.length cv.length) = ps := List.take_of_length_le (by omega)
    rw [e1, e2] at eD
    refine ⟨_, D, _, rfl, rfl, SqL.of eD, (by decide +kernel), join_ok (m := 1206) (n := 6) (fun z hz => ?_) (by simp; omega) (by decide), q H' sm⟩
    obtain ⟨j, hj⟩ := List.getElem?_of_mem hz
    rw [List.getElem?_zipWith] at hj
    cases e3 : ks[j]? with
    | none => rw [e3] at hj; cases hj
    | some k =>
      cases e4 : ps[j]? with
      | none => rw [e3, e4] at hj; cases hj
      | some p =>
        rw [e3, e4] at hj
        have hj : some (fieldT k p) = some z := hj
        cases hj
        exact fieldT_len (ok j k p e3 e4)
theorem ok_refuse_way (F : Fun K "refuse_way" "refuse_way" s_refuse_way f fd) (bl : Bl K mg cWay cFirst cOnly cLike cLow cHigh cSum cDomain cNumbers cWords cTable) (c_way_by : Callee P w K mg base 4 "way_by" ["name"] (sp_way_by K cWay cFirst cOnly cLike cLow cHigh cSum cDomain cNumbers cWords cTable)) : FnOk P w K mg base CX0 5 f fd ["way", "outcome"] (sp_refuse_way K cWay cFirst cOnly cLike cLow cHigh cSum cDomain cNumbers cWords cTable) := by
  refine F.ok sc_refuse_way (fun vs H Q E h => ?_) (fun cdv A outer s H vs Q E hr h => ?_)
  · obtain ⟨z, ou, rfl, hz, hne, q⟩ := h
    rfl
  obtain ⟨z, ou, rfl, hz, hne, q⟩ := h
  refine ⟨_, (pss_one (ps_if (PW.pt (pw_and (pt_cmpR op_eq (pe_fld (pe_fn c_way_by hr rfl (pa_cons (pv 0) pa_nil)) rfl) pe_str (nomark _)) (pw_and1 (pt_val (pe_callB call_isiG rfl bl.isinstance_ PyProof.Rows.boot_isinstance (pa_cons (pv 1) (pa_cons (pe_glob (v := .ref cWords) rfl bl.Words_ rfl) pa_nil)))))))
     (pss_one ps_never)
     pss_nil)), ?_⟩
  refine ⟨_, rfl, z, rfl, hz, fun i ei x C H' s' eC hw => ?_⟩
  have hF : Cls K C ∧ NoAttr K C (Str.ofString "called") := by
    match i, eC with
    | 0, eC => cases eC; exact ⟨bl.k_First, bl.na_First_called⟩
    | 1, eC => cases eC; exact ⟨bl.k_Only, bl.na_Only_called⟩
    | 2, eC => cases eC; exact ⟨bl.k_Like, bl.na_Like_called⟩
    | 3, eC => cases eC; exact ⟨bl.k_Low, bl.na_Low_called⟩
    | 4, eC => cases eC; exact ⟨bl.k_High, bl.na_High_called⟩
    | 5, eC => cases eC; exact ⟨bl.k_Sum, bl.na_Sum_called⟩
    | n + 6, eC => simp [cl6] at eC
  obtain ⟨dx, hx⟩ := hw
  refine ⟨x, _, _, _, _, rfl, hx, hF.1, hF.2, rfl, rfl, _, rfl, ?_⟩
  by_cases hs : z = Str.ofString "sum"
  · obtain ⟨dy, fs, ho⟩ := hne hs
    exact iteTS (by rw [hs]) ⟨_, rfl, _, _, _, _, false, rfl, .ref _, bl.t_Numbers.ty (s' _ _ ho), bl.f_nw, _, rfl, iteF (q _ s')⟩
  · exact iteFS (fun e => by injection e with e; exact hs e) (iteF (q _ s'))
theorem ok_row_text (F : Fun K "row_text" "row_text" s_row_text f fd) (bl : Bl K mg cWay cFirst cOnly cLike cLow cHigh cSum cDomain cNumbers cWords cTable) (c_show_value : Callee P w K mg base 4 "show_value" ["domain", "code"] (sp_show_value K cWay cFirst cOnly cLike cLow cHigh cSum cDomain cNumbers cWords cTable)) (c_fields_text : Callee P w K mg base 4 "fields_text" ["domains", "cells"] (sp_fields_text K cWay cFirst cOnly cLike cLow cHigh cSum cDomain cNumbers cWords cTable)) : FnOk P w K mg base CX0 5 f fd ["table", "k"] (sp_row_text K cWay cFirst cOnly cLike cLow cHigh cSum cDomain cNumbers cWords cTable) := by
  refine F.ok sc_row_text (fun vs H Q E h => ?_) (fun cdv A outer s H vs Q E hr h => ?_)
  · obtain ⟨t, ou, j, nm, wy, zs, dv, rws, w, ks, p, rfl, ⟨rl, dx, na, dl, fs, xs, ht, f1, f2, f3, f4, f5, f6, ena, edl, erl, hR, h200⟩, ew, hdv, hD, ok, c1, c2, hkl, h6, hcell, q⟩ := h
    rfl
  obtain ⟨t, ou, j, nm, wy, zs, dv, rws, w, ks, p, rfl, ⟨rl, dx, na, dl, fs, xs, ht, f1, f2, f3, f4, f5, f6, ena, edl, erl, hR, h200⟩, ew, hdv, hD, ok, c1, c2, hkl, h6, hcell, q⟩ := h
  refine ⟨_, (pss_cut (ps_set (i := 2) sc_row_text.nd rfl (Or.inl rfl) (pe_ix ix_list (pe_fld (pv 0) rfl) (pv 1) (fun _ _ => rfl)))
     (pss_one (ps_ret (pe_op op_add_str (pe_op op_add_str (pe_op op_add_str (pe_gl rfl bl.WHEN_) (pe_fn c_fields_text hr rfl (pa_cons (pe_fld (pv 0) rfl) (pa_cons (pe_ix ix_tup (pv 2) pe_int (fun _ _ => rfl)) pa_nil)))) (pe_gl rfl bl.TO_)) (pe_fn c_show_value hr rfl (pa_cons (pe_fld (pv 0) rfl) (pa_cons (pe_ix ix_tup (pv 2) pe_int (fun _ _ => rfl)) pa_nil))))))), ?_⟩
  obtain ⟨r, er, ce, cv, g1, _, g2, g3⟩ := hR.2 j w ew
  have lz := zf_len h6 hcell
  have lz : (Txt.join (Str.ofString " | ") (List.zipWith fieldT ks w.1)).length ≤ 7254 := lz
  have lv := valT_len ok c1 c2
  refine ⟨fun σ' H' => H' = H ∧ σ' = [some (.ref t), some (.int (j : Int)), some (.ref r)], ⟨_, rfl, t, _, _, _, _, rfl, ht, bl.k_Table, bl.na_Table_rows, f1, _, rfl, rl, _, _, _, rfl, rfl, SqL.of erl, atI_nat er, rfl, rfl⟩, ?_⟩
  rintro σ1 H1 ⟨rfl, rfl⟩
  refine ⟨_, rfl, t, _, _, _, _, rfl, ht, bl.k_Table, bl.na_Table_domains, f6, _, rfl, r, _, _, _, rfl, rfl, SqT.of g1, rfl, dl, ce, dv, cv, ks, w.1, rfl, edl, hdv, g2, g3, hkl, h6, hcell, fun H2 s2 => ?_⟩
  have hD2 := hD.same s2
  have := q H2 s2
  unfold rowT at this
  exact ⟨_, _, rfl, rfl, big4 (by rw [l_when]; omega), _, _, rfl, rfl, big4 (by rw [len_ap, l_when, l_to]; omega), _, rfl, t, _, _, _, _, rfl, s2 _ _ ht, bl.k_Table, bl.na_Table_outcome, f4, _, rfl, r, _, _, _, rfl, rfl, SqT.of (s2 _ _ g1), rfl, ou, w.2, _, rfl, valT_shown hD2 c1 c2 (ok.bd _ c1 c2), _, _, rfl, rfl, big4 (by rw [len_ap, len_ap, l_when, l_to]; omega), this⟩
theorem ok_law_made (F : Fun K "_law_made" "_law_made" s_law_made f fd) (bl : Bl K mg cWay cFirst cOnly cLike cLow cHigh cSum cDomain cNumbers cWords cTable) (k_Numbers : MkCallee CX0 P w K mg base 3 "Numbers" cNumbers ["self", "low", "high"] (sp_Numbers___init___Numbers K cWay cFirst cOnly cLike cLow cHigh cSum cDomain cNumbers cWords cTable)) (k_Words : MkCallee CX0 P w K mg base 3 "Words" cWords ["self", "words"] (sp_Words___init___Words K cWay cFirst cOnly cLike cLow cHigh cSum cDomain cNumbers cWords cTable)) : FnOk P w K mg base CX0 5 f fd ["domain"] (sp_law_made K cWay cFirst cOnly cLike cLow cHigh cSum cDomain cNumbers cWords cTable) := by
  refine F.ok sc_law_made (fun vs H Q E h => ?_) (fun cdv A outer s H vs Q E hr h => ?_)
  · obtain ⟨r, p, rfl, ⟨wl, _, _, er, ewl⟩, ok, q⟩ := h
    rfl
  obtain ⟨r, p, rfl, ⟨wl, _, _, er, ewl⟩, ok, q⟩ := h
  refine ⟨_, (pss_cons (ps_if (pt_cmpR op_gt (pe_callB call_len_seq rfl bl.len_ PySem.boot_len (pa_cons (pe_ix ix_tup (pv 0) pe_int (fun _ _ => rfl)) pa_nil)) pe_int (nomark _))
     (pss_one (ps_ret (pe_mk k_Words pass0 hr rfl (pa_cons (pe_callTy call_list_of rfl bl.list_ PyProof.Rows.boot_list (pa_cons (pe_ix ix_tup (pv 0) pe_int (fun _ _ => rfl)) pa_nil)) pa_nil))))
     pss_nil)
     (pss_one (ps_ret (pe_mk k_Numbers pass0 hr rfl (pa_cons (pe_ix ix_tup (pv 0) pe_int (fun _ _ => rfl)) (pa_cons (pe_ix ix_tup (pv 0) pe_int (fun _ _ => rfl)) pa_nil)))))), ?_⟩
  have hlm : (p.ws.map V.str).length = p.ws.length := List.length_map _
  refine ⟨_, rfl, r, _, _, _, rfl, rfl, SqT.of er, rfl, wl, _, rfl, .inl (SqL.of ewl), _, _, rfl, rfl, _, rfl, ?_⟩
  refine ite2 (fun g => ?_) (fun g => ?_)
  · have hne : p.ws ≠ [] := fun z => by
      have := of_decide_eq_true g
      rw [z] at this
      exact absurd this (by decide)
    obtain ⟨hg, h0, h1⟩ := ok.wd hne
    refine ⟨_, rfl, r, _, _, _, rfl, rfl, SqT.of er, rfl, wl, _, rfl, .inl (SqL.of ewl), fun c hc => ?_⟩
    have u1 := same_new hc (.lst (p.ws.map V.str))
    have ec : upd H c (.lst (p.ws.map V.str)) c = some (.lst (p.ws.map V.str)) := upd_same
    generalize upd H c (.lst (p.ws.map V.str)) = H1 at u1 ec ⊢
    intro x dx hx hdx hne2
    have s3 : Same H1 (upd (upd H1 dx (.own x)) x (.ins cWords dx [])) := (same_new hdx _).upd hx
    refine ⟨x, dx, c, p.ws, rfl, upd_same, s3 _ _ ec, hg, fun H4 l4 k1 k2 k3 k4 => ⟨rfl, q x H4 (fun b o e => k1 b o (ne_of_none (u1 _ _ e) hx) (s3 _ _ (u1 _ _ e))) ?_⟩⟩
    rw [PD.k_some hne]
    exact ⟨⟨dx, l4, u1.free (s3.free k4), k2, k3⟩, h0, h1, hg⟩
  · have he : p.ws = [] := by
      have : ¬ ((0 : Int) < (((p.ws.map V.str).length : Nat) : Int)) := fun h => g (decide_eq_true h)
      rw [hlm] at this
      exact List.length_eq_zero_iff.mp (by omega)
    refine ⟨_, rfl, r, _, _, _, rfl, rfl, SqT.of er, rfl, _, rfl, r, _, _, _, rfl, rfl, SqT.of er, rfl, fun x dx hx hdx hne => ⟨x, dx, p.lo, p.hi, rfl, upd_same, ok.le, rfl, q x _ ?_ ?_⟩⟩
    · unfold mkd
      exact (((same_new hdx _).upd hx).upd hx).upd hx
    · rw [PD.k_none he]
      exact ⟨dx, upd_same⟩
theorem ok_Table___init___Table (F : Fun K "__init__" "Table.__init__" s_Table___init___Table f fd) (bl : Bl K mg cWay cFirst cOnly cLike cLow cHigh cSum cDomain cNumbers cWords cTable) (c_refuse_names : Callee P w K mg base 5 "refuse_names" ["names"] (sp_refuse_names K cWay cFirst cOnly cLike cLow cHigh cSum cDomain cNumbers cWords cTable)) (c_refuse_counts : Callee P w K mg base 5 "refuse_counts" ["names", "rows"] (sp_refuse_counts K cWay cFirst cOnly cLike cLow cHigh cSum cDomain cNumbers cWords cTable)) (c_refuse_way : Callee P w K mg base 5 "refuse_way" ["way", "outcome"] (sp_refuse_way K cWay cFirst cOnly cLike cLow cHigh cSum cDomain cNumbers cWords cTable)) (c_refuse_row : Callee P w K mg base 5 "refuse_row" ["domains", "outcome", "cells", "code"] (sp_refuse_row K cWay cFirst cOnly cLike cLow cHigh cSum cDomain cNumbers cWords cTable)) (c_own_row : Callee P w K mg base 5 "own_row" ["cells", "code"] (sp_own_row K cWay cFirst cOnly cLike cLow cHigh cSum cDomain cNumbers cWords cTable)) : FnOk P w K mg base CX0 6 f fd ["self", "name", "names", "domains", "outcome", "way", "rows"] (sp_Table___init___Table K cWay cFirst cOnly cLike cLow cHigh cSum cDomain cNumbers cWords cTable) := by
  refine F.ok sc_Table___init___Table (fun vs H Q E h => ?_) (fun cdv A outer s H vs Q E hr h => ?_)
  · obtain ⟨x, dx, na, dl, ou, rl, nm, wy, zs, dv, rx, bs, o, rws, rfl, hx, hna, hw, hnd, h1, h4, hwy, hws, hdl, hdv, hou, hrl, hR, h200, hb4, hok, q⟩ := h
    rfl
  obtain ⟨x, dx, na, dl, ou, rl, nm, wy, zs, dv, rx, bs, o, rws, rfl, hx, hna, hw, hnd, h1, h4, hwy, hws, hdl, hdv, hou, hrl, hR, h200, hb4, hok, q⟩ := h
  refine ⟨_, (pss_cons (ps_expr (pe_fn c_refuse_names hr rfl (pa_cons (pe_op op_cat (pe_lst (pa_cons (pv 1) pa_nil)) (pv 2)) pa_nil)))
     (pss_cons (ps_expr (pe_fn c_refuse_counts hr rfl (pa_cons (pv 2) (pa_cons (pv 6) pa_nil))))
     (pss_cons (ps_expr (pe_fn c_refuse_way hr rfl (pa_cons (pv 5) (pa_cons (pv 4) pa_nil))))
     (pss_cut (ps_for PassesOwn.never rfl (pi_list (pv 6)) (pg_tup rfl (pgs_cons (pg_name (i := 7) sc_Table___init___Table.nd rfl (Or.inl rfl)) (pgs_cons (pg_name (i := 8) sc_Table___init___Table.nd rfl (Or.inl rfl)) pgs_nil)))
     (pss_one (ps_expr (pe_fn c_refuse_row hr rfl (pa_cons (pv 3) (pa_cons (pv 4) (pa_cons (pv 7) (pa_cons (pv 8) pa_nil))))))))
     (pss_cons (ps_fld (pv 0) (pv 1) rfl)
     (pss_cons (ps_fld (pv 0) (pe_callTy call_list_of rfl bl.list_ PyProof.Rows.boot_list (pa_cons (pv 2) pa_nil)) rfl)
     (pss_cons (ps_fld (pv 0) (pe_callTy call_list_of rfl bl.list_ PyProof.Rows.boot_list (pa_cons (pv 3) pa_nil)) rfl)
     (pss_cons (ps_fld (pv 0) (pv 4) rfl)
     (pss_cons (ps_fld (pv 0) (pv 5) rfl)
     (pss_one (ps_fld (pv 0) (pe_compG (pi_list (pv 6)) (cmpOkG_plain (N := ["cells", "code"]) (k := 2) rfl rfl (by decide +kernel) (by decide +kernel) (by decide +kernel)) rfl (fun _ _ _ _ => (gTupK (K := K) (n := 2) rfl rfl (pgs_cons (pg_name (i := 0) (show (["cells", "code"] : List Str).Nodup by decide +kernel) rfl (Or.inl rfl) (Or.inr rfl)) (pgs_cons (pg_name (i := 1) (show (["cells", "code"] : List Str).Nodup by decide +kernel) rfl (Or.inl rfl) (Or.inr rfl)) pgs_nil)))) (fun _ _ _ _ => pif_nil) (fun _ _ _ _ => (pe_fn c_own_row hr rfl (pa_cons (pv 0) (pa_cons (pv 1) pa_nil))))) rfl))))))))))), ?_⟩
  have hzl : (zs.map V.str).length = zs.length := List.length_map _
  refine ⟨_, rfl, (by show 1 ≤ sizeLine; decide), fun l1 hl1 => ?_⟩
  have s1 := same_new hl1 (.lst [.str nm])
  have e1 : upd H l1 (.lst [.str nm]) l1 = some (.lst [.str nm]) := upd_same
  generalize upd H l1 (.lst [.str nm]) = H1 at s1 e1 ⊢
  refine ⟨_, rfl, l1, na, _, _, rfl, rfl, e1, s1 _ _ hna, (by rw [hzl]; show 1 + zs.length ≤ sizeLine; exact big (by omega)), fun l2 hl2 => ?_⟩
  have s2 := s1.trans (same_new hl2 (.lst ([V.str nm] ++ zs.map V.str)))
  have e2 : upd H1 l2 (.lst ([V.str nm] ++ zs.map V.str)) l2 = some (.lst ((nm :: zs).map V.str)) := upd_same
  generalize upd H1 l2 (.lst ([V.str nm] ++ zs.map V.str)) = H2 at s2 e2 ⊢
  refine ⟨l2, nm :: zs, rfl, SqL.of e2, hw, hnd, by rw [List.length_cons]; omega, fun H3 t3 => ?_⟩
  have s3 := s2.trans t3
  refine ⟨_, rfl, _, rfl, na, rl, _, _, rfl, SqL.of (s3 _ _ hna), SqL.of (s3 _ _ hrl), by rw [hzl]; exact h1, by rw [hzl]; exact h4, h200, ?_⟩
  refine ⟨_, rfl, _, rfl, wy, ou, rfl, hwy, (fun z => let ⟨dx', fs', e'⟩ := hws z; ⟨dx', fs', s3 _ _ e'⟩), fun H4 t4 => ?_⟩
  have s4 := s3.trans t4
  refine ⟨fun σ' H' => Same H H' ∧ ∃ c7 c8 : Option V, σ' = [some (.ref x), some (.str nm), some (.ref na), some (.ref dl), some (.ref ou), some (.str wy), some (.ref rl), c7, c8], ?_, ?_⟩
  · refine ⟨_, rfl, rl, rfl, ⟨_, SqL.of (s4 _ _ hrl)⟩, for_list (xs := rx) (fun i σ H' => Same H H' ∧ ∃ c7 c8 : Option V, σ = [some (.ref x), some (.str nm), some (.ref na), some (.ref dl), some (.ref ou), some (.str wy), some (.ref rl), c7, c8]) ⟨s4, _, _, rfl⟩ (fun i σ H' _ h => SqL.of (h.1 _ _ hrl)) (fun i y σ H' e h => ?_) (fun σ H' h => h)⟩
    obtain ⟨sm, c7, c8, rfl⟩ := h
    obtain ⟨r, w_, rfl, ew, ce, cv, g1, _, g2, g3⟩ := RefL.get (hR.same sm) e
    refine ⟨r, _, rfl, SqT.of g1, rfl, _, _, rfl, _, _, rfl, rfl, ?_⟩
    exact ⟨_, rfl, _, rfl, _, rfl, _, rfl, dl, ou, ce, dv, cv, bs, o, w_, rfl, SqL.of (sm _ _ hdl), RefL.mono hdv fun _ _ p => p.same sm, hou.same sm, g2, g3, hok w_ (List.mem_of_getElem? ew), fun H2 t2 => ⟨sm.trans t2, _, _, rfl⟩⟩
  rintro σ5 H5 ⟨s5, c7, c8, rfl⟩
  have x5 := s5 _ _ hx
  have nax : na ≠ x := ne_of hna hx (by intro z; cases z)
  have dlx : dl ≠ x := ne_of hdl hx (by intro z; cases z)
  have rlx : rl ≠ x := ne_of hrl hx (by intro z; cases z)
  have k5 : ∀ b o, b ≠ x → H b = some o → H5 b = some o := fun b o _ e => s5 b o e
  have R5 := RL.hide x5 (hR.same s5)
  -- name
  refine ⟨_, rfl, _, rfl, x, _, dx, _, rfl, x5, bl.k_Table, bl.na_Table_name, (by show 0 < 1000; decide), ?_⟩
  have k6 : ∀ b o, b ≠ x → H5 b = some o → upd H5 x (.ins cTable dx [(Str.ofString "name", .str nm)]) b = some o := fun b o hb e => (upd_ne hb).trans e
  have x6 : upd H5 x (.ins cTable dx [(Str.ofString "name", .str nm)]) x = some (.ins cTable dx [(Str.ofString "name", .str nm)]) := upd_same
  have g6 : upd H5 x (.ins cTable dx (putF (Str.ofString "name") (.str nm) [])) = upd H5 x (.ins cTable dx [(Str.ofString "name", .str nm)]) := rfl
  rw [g6]
  clear g6
  generalize upd H5 x (.ins cTable dx [(Str.ofString "name", .str nm)]) = H6 at k6 x6 ⊢
  refine ⟨_, rfl, na, _, rfl, .inl (SqL.of (k6 _ _ nax (s5 _ _ hna))), fun m1 hm1 => ⟨_, rfl, x, _, dx, _, rfl, ret_r1 x6 hm1, bl.k_Table, bl.na_Table_names, (by show 1 < 1000; decide), ?_⟩⟩
  have g7 : upd (upd H6 m1 (.lst (zs.map V.str))) x (.ins cTable dx (putF (Str.ofString "names") (V.ref m1) [(Str.ofString "name", V.str nm)])) = upd (upd H6 m1 (.lst (zs.map V.str))) x (.ins cTable dx [(Str.ofString "name", V.str nm), (Str.ofString "names", V.ref m1)]) := by rw [pf1]
  rw [g7]
  clear g7
  have k7 : ∀ b o, b ≠ x → H5 b = some o → upd (upd H6 m1 (.lst (zs.map V.str))) x (.ins cTable dx [(Str.ofString "name", V.str nm), (Str.ofString "names", V.ref m1)]) b = some o := fun b o hb e => (upd_ne hb).trans (ret_r1 (k6 b o hb e) hm1)
  have x7 : upd (upd H6 m1 (.lst (zs.map V.str))) x (.ins cTable dx [(Str.ofString "name", V.str nm), (Str.ofString "names", V.ref m1)]) x = some (.ins cTable dx [(Str.ofString "name", V.str nm), (Str.ofString "names", V.ref m1)]) := upd_same
  have m1x : m1 ≠ x := fun z => by rw [z, x6] at hm1; cases hm1
  have j7 : upd (upd H6 m1 (.lst (zs.map V.str))) x (.ins cTable dx [(Str.ofString "name", V.str nm), (Str.ofString "names", V.ref m1)]) m1 = some (.lst (zs.map V.str)) := (upd_ne m1x).trans upd_same
  generalize upd (upd H6 m1 (.lst (zs.map V.str))) x (.ins cTable dx [(Str.ofString "name", V.str nm), (Str.ofString "names", V.ref m1)]) = H7 at k7 x7 j7 ⊢
  refine ⟨_, rfl, dl, _, rfl, .inl (SqL.of (k7 _ _ dlx (s5 _ _ hdl))), fun m2 hm2 => ⟨_, rfl, x, _, dx, _, rfl, ret_r1 x7 hm2, bl.k_Table, bl.na_Table_domains, (by show 2 < 1000; decide), ?_⟩⟩
  have g8 : upd (upd H7 m2 (.lst dv)) x (.ins cTable dx (putF (Str.ofString "domains") (V.ref m2) [(Str.ofString "name", V.str nm), (Str.ofString "names", V.ref m1)])) = upd (upd H7 m2 (.lst dv)) x (.ins cTable dx [(Str.ofString "name", V.str nm), (Str.ofString "names", V.ref m1), (Str.ofString "domains", V.ref m2)]) := by rw [pf2]
  rw [g8]
  clear g8
  have k8 : ∀ b o, b ≠ x → H5 b = some o → upd (upd H7 m2 (.lst dv)) x (.ins cTable dx [(Str.ofString "name", V.str nm), (Str.ofString "names", V.ref m1), (Str.ofString "domains", V.ref m2)]) b = some o := fun b o hb e => (upd_ne hb).trans (ret_r1 (k7 b o hb e) hm2)
  have x8 : upd (upd H7 m2 (.lst dv)) x (.ins cTable dx [(Str.ofString "name", V.str nm), (Str.ofString "names", V.ref m1), (Str.ofString "domains", V.ref m2)]) x = some (.ins cTable dx [(Str.ofString "name", V.str nm), (Str.ofString "names", V.ref m1), (Str.ofString "domains", V.ref m2)]) := upd_same
  have m2x : m2 ≠ x := fun z => by rw [z, x7] at hm2; cases hm2
  have j8 : upd (upd H7 m2 (.lst dv)) x (.ins cTable dx [(Str.ofString "name", V.str nm), (Str.ofString "names", V.ref m1), (Str.ofString "domains", V.ref m2)]) m1 = some (.lst (zs.map V.str)) := (upd_ne m1x).trans (ret_r1 j7 hm2)
  have i8 : upd (upd H7 m2 (.lst dv)) x (.ins cTable dx [(Str.ofString "name", V.str nm), (Str.ofString "names", V.ref m1), (Str.ofString "domains", V.ref m2)]) m2 = some (.lst dv) := (upd_ne m2x).trans upd_same
  generalize upd (upd H7 m2 (.lst dv)) x (.ins cTable dx [(Str.ofString "name", V.str nm), (Str.ofString "names", V.ref m1), (Str.ofString "domains", V.ref m2)]) = H8 at k8 x8 j8 i8 ⊢
  refine ⟨_, rfl, _, rfl, x, _, dx, _, rfl, x8, bl.k_Table, bl.na_Table_outcome, (by show 3 < 1000; decide), ?_⟩
  have g9 : upd H8 x (.ins cTable dx (putF (Str.ofString "outcome") (V.ref ou) [(Str.ofString "name", V.str nm), (Str.ofString "names", V.ref m1), (Str.ofString "domains", V.ref m2)])) = upd H8 x (.ins cTable dx [(Str.ofString "name", V.str nm), (Str.ofString "names", V.ref m1), (Str.ofString "domains", V.ref m2), (Str.ofString "outcome", V.ref ou)]) := by rw [pf3]
  rw [g9]
  clear g9
  have k9 : ∀ b o, b ≠ x → H5 b = some o → upd H8 x (.ins cTable dx [(Str.ofString "name", V.str nm), (Str.ofString "names", V.ref m1), (Str.ofString "domains", V.ref m2), (Str.ofString "outcome", V.ref ou)]) b = some o := fun b o hb e => (upd_ne hb).trans (k8 b o hb e)
  have x9 : upd H8 x (.ins cTable dx [(Str.ofString "name", V.str nm), (Str.ofString "names", V.ref m1), (Str.ofString "domains", V.ref m2), (Str.ofString "outcome", V.ref ou)]) x = some (.ins cTable dx [(Str.ofString "name", V.str nm), (Str.ofString "names", V.ref m1), (Str.ofString "domains", V.ref m2), (Str.ofString "outcome", V.ref ou)]) := upd_same
  have j9 : upd H8 x (.ins cTable dx [(Str.ofString "name", V.str nm), (Str.ofString "names", V.ref m1), (Str.ofString "domains", V.ref m2), (Str.ofString "outcome", V.ref ou)]) m1 = some (.lst (zs.map V.str)) := (upd_ne m1x).trans j8
  have i9 : upd H8 x (.ins cTable dx [(Str.ofString "name", V.str nm), (Str.ofString "names", V.ref m1), (Str.ofString "domains", V.ref m2), (Str.ofString "outcome", V.ref ou)]) m2 = some (.lst dv) := (upd_ne m2x).trans i8
  generalize upd H8 x (.ins cTable dx [(Str.ofString "name", V.str nm), (Str.ofString "names", V.ref m1), (Str.ofString "domains", V.ref m2), (Str.ofString "outcome", V.ref ou)]) = H9 at k9 x9 j9 i9 ⊢
  refine ⟨_, rfl, _, rfl, x, _, dx, _, rfl, x9, bl.k_Table, bl.na_Table_way, (by show 4 < 1000; decide), ?_⟩
  have g10 : upd H9 x (.ins cTable dx (putF (Str.ofString "way") (V.str wy) [(Str.ofString "name", V.str nm), (Str.ofString "names", V.ref m1), (Str.ofString "domains", V.ref m2), (Str.ofString "outcome", V.ref ou)])) = upd H9 x (.ins cTable dx [(Str.ofString "name", V.str nm), (Str.ofString "names", V.ref m1), (Str.ofString "domains", V.ref m2), (Str.ofString "outcome", V.ref ou), (Str.ofString "way", V.str wy)]) := by rw [pf4]
  rw [g10]
  clear g10
  have k10 : ∀ b o, b ≠ x → H5 b = some o → upd H9 x (.ins cTable dx [(Str.ofString "name", V.str nm), (Str.ofString "names", V.ref m1), (Str.ofString "domains", V.ref m2), (Str.ofString "outcome", V.ref ou), (Str.ofString "way", V.str wy)]) b = some o := fun b o hb e => (upd_ne hb).trans (k9 b o hb e)
  have x10 : upd H9 x (.ins cTable dx [(Str.ofString "name", V.str nm), (Str.ofString "names", V.ref m1), (Str.ofString "domains", V.ref m2), (Str.ofString "outcome", V.ref ou), (Str.ofString "way", V.str wy)]) x = some (.ins cTable dx [(Str.ofString "name", V.str nm), (Str.ofString "names", V.ref m1), (Str.ofString "domains", V.ref m2), (Str.ofString "outcome", V.ref ou), (Str.ofString "way", V.str wy)]) := upd_same
  have j10 : upd H9 x (.ins cTable dx [(Str.ofString "name", V.str nm), (Str.ofString "names", V.ref m1), (Str.ofString "domains", V.ref m2), (Str.ofString "outcome", V.ref ou), (Str.ofString "way", V.str wy)]) m1 = some (.lst (zs.map V.str)) := (upd_ne m1x).trans j9
  have i10 : upd H9 x (.ins cTable dx [(Str.ofString "name", V.str nm), (Str.ofString "names", V.ref m1), (Str.ofString "domains", V.ref m2), (Str.ofString "outcome", V.ref ou), (Str.ofString "way", V.str wy)]) m2 = some (.lst dv) := (upd_ne m2x).trans i9
  generalize upd H9 x (.ins cTable dx [(Str.ofString "name", V.str nm), (Str.ofString "names", V.ref m1), (Str.ofString "domains", V.ref m2), (Str.ofString "outcome", V.ref ou), (Str.ofString "way", V.str wy)]) = H10 at k10 x10 j10 i10 ⊢
  have R10 : RL NT H10 rx rws := RL.same R5 (hide_same k10)
  have hrl10 := k10 _ _ rlx (s5 _ _ hrl)
  refine ⟨_, rfl, rl, rfl, ⟨_, SqL.of hrl10⟩, compG_list (xs := rx) (fun D i zs H' => Same H10 H' ∧ H' D = some (.lst zs) ∧ RL (Fr H10 D) H' zs (rws.take i))
    (fun D hD => ⟨same_new hD _, upd_same, RefL.nil⟩) (fun D i zs H' hD _ h => SqL.of (h.1 _ _ hrl10)) (fun D i y zs H' hD e h ts hts => ?_) (fun D zs H' hD h => ?_)⟩
  · obtain ⟨sm, eD, hz⟩ := h
    obtain ⟨r, w_, rfl, ew, ce, cv, g1, _, g2, g3⟩ := RefL.get (R10.same sm) e
    have hi : i < rx.length := (List.getElem?_eq_some_iff.mp e).1
    obtain ⟨t0, t1, rfl⟩ : ∃ t0 t1, ts = [t0, t1] := by
      match ts, hts with
      | [t0, t1], _ => exact ⟨t0, t1, rfl⟩
    refine ⟨r, _, rfl, SqT.of g1, rfl, _, _, rfl, _, _, rfl, rfl, ⟨[some (.ref ce), some (.int w_.2)], rfl, rfl⟩, ?_⟩
    refine ⟨_, rfl, _, rfl, ce, cv, w_, rfl, g2, g3, by rw [(hok w_ (List.mem_of_getElem? ew)).len]; omega, fun r2 H2 t2 hr2 hrow => ?_⟩
    have eD2 := t2 _ _ eD
    have hlz : zs.length ≤ 200 := by
      have := hz.1
      rw [List.length_take] at this
      omega
    refine CYes.mk hi eD2 (small1000 (by omega)) ⟨(sm.trans t2).upd hD, upd_same, ?_⟩
    rw [take_snoc ew]
    exact RL.updN (RefL.snoc (hz.same t2) (hrow.wk fun a h => ⟨sm.free h, fun z => by rw [z, eD] at h; cases h⟩)) Fr.out eD2
  · obtain ⟨sm, eD, hz⟩ := h
    rw [hR.1, List.take_length] at hz
    refine ⟨_, rfl, x, _, dx, _, rfl, sm _ _ x10, bl.k_Table, bl.na_Table_rows, (by show 5 < 1000; decide), ?_⟩
    have g11 : upd H' x (.ins cTable dx (putF (Str.ofString "rows") (V.ref D) [(Str.ofString "name", V.str nm), (Str.ofString "names", V.ref m1), (Str.ofString "domains", V.ref m2), (Str.ofString "outcome", V.ref ou), (Str.ofString "way", V.str wy)])) = upd H' x (.ins cTable dx [(Str.ofString "name", V.str nm), (Str.ofString "names", V.ref m1), (Str.ofString "domains", V.ref m2), (Str.ofString "outcome", V.ref ou), (Str.ofString "way", V.str wy), (Str.ofString "rows", V.ref D)]) := by rw [pf5]
    rw [g11]
    have nDx : D ≠ x := fun z => by rw [z, x10] at hD; cases hD
    refine q _ _ D zs (fun b o hb e => (upd_ne hb).trans (sm _ _ (k10 b o hb (s5 _ _ e)))) upd_same rfl rfl rfl rfl ⟨m1, m2, rfl, rfl, (upd_ne m1x).trans (sm _ _ j10), (upd_ne m2x).trans (sm _ _ i10)⟩ ((upd_ne nDx).trans eD) ?_
    exact RL.same (RL.hide (sm _ _ x10) hz.any) (hide_same fun b o hb e => (upd_ne hb).trans e)
theorem ok_law_table (F : Fun K "_law_table" "_law_table" s_law_table f fd) (bl : Bl K mg cWay cFirst cOnly cLike cLow cHigh cSum cDomain cNumbers cWords cTable) (k_Table : MkCallee CX0 P w K mg base 6 "Table" cTable ["self", "name", "names", "domains", "outcome", "way", "rows"] (sp_Table___init___Table K cWay cFirst cOnly cLike cLow cHigh cSum cDomain cNumbers cWords cTable)) (c__law_made : Callee P w K mg base 7 "_law_made" ["domain"] (sp_law_made K cWay cFirst cOnly cLike cLow cHigh cSum cDomain cNumbers cWords cTable)) : FnOk P w K mg base CX0 8 f fd ["plan", "k"] (sp_law_table K cWay cFirst cOnly cLike cLow cHigh cSum cDomain cNumbers cWords cTable) := by
  refine F.ok sc_law_table (fun vs H Q E h => ?_) (fun cdv A outer s H vs Q E hr h => ?_)
  · obtain ⟨r, k, zs, ds, ts, fN, t, nm, po, rfl, hPl, ok, et, enm, epo, q⟩ := h
    rfl
  obtain ⟨r, k, zs, ds, ts, fN, t, nm, po, rfl, hPl, ok, et, enm, epo, q⟩ := h
  refine ⟨_, (pss_cut (ps_asg (pv 0) (pg_tup rfl (pgs_cons (pg_name (i := 2) sc_law_table.nd rfl (Or.inr rfl)) (pgs_cons (pg_name (i := 3) sc_law_table.nd rfl (Or.inr rfl)) (pgs_cons (pg_name (i := 4) sc_law_table.nd rfl (Or.inl rfl)) pgs_nil)))))
     (pss_cut (ps_set (i := 5) sc_law_table.nd rfl (Or.inl rfl) (pe_op op_add (pe_op op_sub (pe_callB call_len_seq rfl bl.len_ PySem.boot_len (pa_cons (pv 2) pa_nil)) (pe_callB call_len_seq rfl bl.len_ PySem.boot_len (pa_cons (pv 4) pa_nil))) (pv 1)))
     (pss_cut (ps_set (i := 6) sc_law_table.nd rfl (Or.inl rfl) (pe_ix ix_tup (pe_ix ix_list (pv 4) (pv 1) (fun _ _ => rfl)) pe_int (fun _ _ => rfl)))
     (pss_cut (ps_compG (i := 7) sc_law_table.nd rfl (Or.inl rfl) (pi_list (pe_ix ix_tup (pe_ix ix_list (pv 4) (pv 1) (fun _ _ => rfl)) pe_int (fun _ _ => rfl))) (cmpOkG_plain (N := ["row"]) (k := 1) rfl rfl (by decide +kernel) (by decide +kernel) (by decide +kernel)) rfl (fun _ C1 _ _ => (pg_name (i := 0) (show (["row"] : List Str).Nodup by decide +kernel) rfl (Or.inl rfl) (Or.inr rfl))) (fun _ C1 _ _ => pif_nil) (fun _ C1 _ _ => (pe_tup (pa_cons (pe_compG (pi_listK (K := K) rfl (pe_ix (ix_tupK (K := K) rfl) (pv 0) pe_int (fun _ _ => rfl))) (cmpOkG_plain (N := ["spans"]) (k := 1) rfl rfl (by decide +kernel) (by decide +kernel) (by decide +kernel)) rfl (fun _ C2 _ _ => (pg_name (i := 0) (show (["spans"] : List Str).Nodup by decide +kernel) rfl (Or.inl rfl) (Or.inr rfl))) (fun _ C2 _ _ => pif_nil) (fun _ C2 _ _ => (pe_callTy (call_list_ofK (K := K) rfl) rfl bl.list_ PyProof.Rows.boot_list (pa_cons (pv 0) pa_nil)))) (pa_cons (pe_ix (ix_tupK (K := K) rfl) (pv 0) pe_int (fun _ _ => rfl)) pa_nil)))))
     (pss_cut (ps_comp (i := 8) sc_law_table.nd rfl (Or.inl rfl) (pi_list (pv 6)) (cmpOk_free (N := ["j", "names"]) (fr := [2]) (cl := [("names", s.heap.objs.size + 1)]) rfl rfl (by decide +kernel) (by decide +kernel) rfl (by decide +kernel) rfl rfl rfl (List.forall_mem_cons.mpr ⟨rfl, List.forall_mem_nil _⟩) rfl) rfl (fun _ _ _ _ => pif_nil) (fun _ _ _ _ => (pe_ix (ix_listK (K := K) rfl) (pv 1) (pv 0) (fun _ _ => rfl))))
     (pss_cut (ps_comp (i := 9) sc_law_table.nd rfl (Or.inl rfl) (pi_list (pv 6)) (cmpOk_free (N := ["j", "domains"]) (fr := [3]) (cl := [("domains", s.heap.objs.size + 1 + 1)]) rfl rfl (by decide +kernel) (by decide +kernel) rfl (by decide +kernel) rfl rfl rfl (List.forall_mem_cons.mpr ⟨rfl, List.forall_mem_nil _⟩) rfl) rfl (fun _ _ _ _ => pif_nil) (fun _ _ _ _ => (pe_fn c__law_made hr rfl (pa_cons (pe_ix (ix_listK (K := K) rfl) (pv 1) (pv 0) (fun _ _ => rfl)) pa_nil))))
     (pss_one (ps_ret (pe_mk k_Table pass0 hr rfl (pa_cons (pe_ix ix_list (pv 2) (pv 5) (fun _ _ => rfl)) (pa_cons (pv 8) (pa_cons (pv 9) (pa_cons (pe_fn c__law_made hr rfl (pa_cons (pe_ix ix_list (pv 3) (pv 5) (fun _ _ => rfl)) pa_nil)) (pa_cons (pe_ix ix_tup (pe_ix ix_list (pv 4) (pv 1) (fun _ _ => rfl)) pe_int (fun _ _ => rfl)) (pa_cons (pv 7) pa_nil))))))))))))))), ?_⟩
  obtain ⟨nl, dl, tl_, dv, tv, er, enl, edl, hdv, etl, htv⟩ := id hPl
  obtain ⟨ta, eta, cl, rl, rx, g1, g2, g3, g4⟩ := htv.2 k t et
  have hzl : (zs.map V.str).length = zs.length := List.length_map _
  have hl1 := ok.len
  have hl2 := ok.tab
  have htl : tv.length = ts.length := htv.1
  have h7 := ok.n7
  have tok := ok.tabs k t et
  have hlt := ok.lt et
  have hown := ok.own et
  have hc3 : t.cols.length ≤ 3 := tok.ok.few
  have hc1 : 1 ≤ t.cols.length := tok.ok.some_
  have hr200 := tok.few
  have hvl : (vN t.cols).length = t.cols.length := vN_len _
  refine ⟨fun σ' H' => H' = H ∧ σ' = [some (.ref r), some (.int (k : Int)), some (.ref nl), some (.ref dl), some (.ref tl_), none, none, none, none, none], ⟨_, rfl, r, _, rfl, SqT.of er, rfl, _, _, rfl, _, _, rfl, _, _, rfl, rfl, rfl, rfl⟩, ?_⟩
  rintro σ1 H1 ⟨rfl, rfl⟩
  refine ⟨fun σ' H' => H' = H1 ∧ σ' = [some (.ref r), some (.int (k : Int)), some (.ref nl), some (.ref dl), some (.ref tl_), some (.int ((fN + k : Nat) : Int)), none, none, none, none], ⟨_, rfl, nl, _, rfl, .inl (SqL.of enl), _, rfl, tl_, _, rfl, .inl (SqL.of etl), _, _, rfl, rfl, _, rfl, _, _, rfl, rfl, rfl, ?_⟩, ?_⟩
  · rw [show ((fN + k : Nat) : Int) = (((zs.map V.str).length : Nat) : Int) - ((tv.length : Nat) : Int) + (k : Int) by omega]
    rfl
  rintro σ2 H2 ⟨rfl, rfl⟩
  refine ⟨fun σ' H' => H' = H2 ∧ σ' = [some (.ref r), some (.int (k : Int)), some (.ref nl), some (.ref dl), some (.ref tl_), some (.int ((fN + k : Nat) : Int)), some (.ref cl), none, none, none], ⟨_, rfl, _, rfl, tl_, _, _, _, rfl, rfl, SqL.of etl, atI_nat eta, ta, _, _, _, rfl, rfl, SqT.of g1, rfl, rfl, rfl⟩, ?_⟩
  rintro σ3 H3 ⟨rfl, rfl⟩
  refine ⟨fun σ' H' => Same H3 H' ∧ ∃ (ro : Addr) (zx : List V), H' ro = some (.lst zx) ∧ RL NT H' zx t.rows ∧ σ' = [some (.ref r), some (.int (k : Int)), some (.ref nl), some (.ref dl), some (.ref tl_), some (.int ((fN + k : Nat) : Int)), some (.ref cl), some (.ref ro), none, none], ?_, ?_⟩
  · refine ⟨_, rfl, _, rfl, tl_, _, _, _, rfl, rfl, SqL.of etl, atI_nat eta, ta, _, _, _, rfl, rfl, SqT.of g1, rfl, rl, rfl, ⟨_, SqL.of g3⟩, compG_list (xs := rx) (fun D i ys H' => Same H3 H' ∧ H' D = some (.lst ys) ∧ RL NT (hide H' D) ys (t.rows.take i)) (fun D hD => ⟨same_new hD _, upd_same, RefL.nil⟩) (fun D i ys H' hD _ h => SqL.of (h.1 _ _ g3)) (fun D i y ys H' hD e h ts_ hts => ?_) (fun D ys H' hD h => ?_)⟩
    · obtain ⟨sm, eD, hz⟩ := h
      obtain ⟨r0, w, rfl, ew, ce, cs, f1, _, f2, f3⟩ := RefL.get g4 e
      have hi : i < rx.length := (List.getElem?_eq_some_iff.mp e).1
      have hrl : rx.length = t.rows.length := g4.1
      obtain ⟨u0, rfl⟩ : ∃ u0, ts_ = [u0] := by
        match ts_, hts with
        | [u0], _ => exact ⟨u0, rfl⟩
      have fit := tok.rows w (List.mem_of_getElem? ew)
      have hcsl : cs.length = w.1.length := f3.1
      have hwl := fit.len
      refine ⟨⟨[some (.ref r0)], rfl, rfl⟩, ?_⟩
      refine ⟨_, rfl, r0, _, _, _, rfl, rfl, SqT.of (sm _ _ f1), rfl, ce, rfl, ⟨_, SqL.of (sm _ _ f2)⟩, compG_list (xs := cs) (fun D2 j ws H4 => Same H' H4 ∧ H4 D2 = some (.lst ws) ∧ CL (Fr H' D2) H4 ws (w.1.take j)) (fun D2 hD2 => ⟨same_new hD2 _, upd_same, RefL.nil⟩) (fun D2 j ws H4 hD2 _ h => SqL.of (h.1 _ _ (sm _ _ f2))) (fun D2 j y2 ws H4 hD2 e2 h ts2 hts2 => ?_) (fun D2 ws H4 hD2 h => ?_)⟩
      · obtain ⟨s4, eD2, hw⟩ := h
        obtain ⟨l, ps, rfl, eps, _, yl, el, hpl⟩ := RefL.get f3 e2
        have hj : j < cs.length := (List.getElem?_eq_some_iff.mp e2).1
        obtain ⟨v0, rfl⟩ : ∃ v0, ts2 = [v0] := by
          match ts2, hts2 with
          | [v0], _ => exact ⟨v0, rfl⟩
        have sA := sm.trans s4
        refine ⟨⟨[some (.ref l)], rfl, rfl⟩, _, rfl, l, _, rfl, .inl (SqL.of (sA _ _ el)), fun p hp => ?_⟩
        have u1 := same_new hp (.lst yl)
        have ep : upd H4 p (.lst yl) p = some (.lst yl) := upd_same
        have nD2 : p ≠ D2 := fun z => by rw [z, eD2] at hp; cases hp
        have hp' : H' p = none := s4.free hp
        generalize upd H4 p (.lst yl) = H5 at u1 ep ⊢
        have eD5 := u1 _ _ eD2
        have hw2 : CL (Fr H' D2) H5 (ws ++ [.ref p]) (w.1.take j ++ [ps]) := RefL.snoc (hw.same u1) ⟨⟨hp', nD2⟩, yl, ep, hpl.mono (sA.trans u1).tups⟩
        refine CYes.mk hj eD5 (small1000 (by have := hw.1; rw [List.length_take] at this; omega)) ⟨(s4.trans u1).upd hD2, upd_same, ?_⟩
        rw [take_snoc eps]
        exact hw2.updN Fr.out eD5
      · obtain ⟨s4, eD2, hw⟩ := h
        rw [hcsl, List.take_length] at hw
        have nD2 : D2 ≠ D := fun z => by rw [z, eD] at hD2; cases hD2
        refine ⟨_, rfl, r0, _, _, _, rfl, rfl, SqT.of ((sm.trans s4) _ _ f1), rfl, small2, fun tt_ htt => ?_⟩
        have u5 := same_new htt (.tup [.ref D2, .int w.2])
        have eT : upd H4 tt_ (.tup [.ref D2, .int w.2]) tt_ = some (.tup [.ref D2, .int w.2]) := upd_same
        generalize upd H4 tt_ (.tup [.ref D2, .int w.2]) = H5 at u5 eT ⊢
        have uA := s4.trans u5
        have eD5 := uA _ _ eD
        have hrow : RowA NT (hide H5 D) tt_ w := ⟨D2, ws, hide_tups eD5 _ _ eT, trivial, hide_of (u5 _ _ eD2) nD2, RefL.mono (hw.same u5) fun l ps ⟨⟨n1, _⟩, yl, el, hpl⟩ => ⟨trivial, yl, hide_of el (fun z => by rw [z, eD] at n1; cases n1), hpl.mono (hide_tups eD5)⟩⟩
        refine CYes.mk hi eD5 (small1000 (by have := hz.1; rw [List.length_take] at this; omega)) ⟨(sm.trans uA).upd hD, upd_same, ?_⟩
        rw [hide_upd, take_snoc ew]
        exact RefL.snoc (RefL.mono hz fun _ _ p => p.same (hide_mono uA)) hrow
    · obtain ⟨sm, eD, hz⟩ := h
      rw [g4.1, List.take_length] at hz
      exact ⟨sm, D, ys, eD, RefL.mono hz (fun _ _ p => p.same (hide_le H' D)), rfl⟩
  rintro σ4 H4 ⟨s4, ro, zx, ero, hro, rfl⟩
  refine ⟨fun σ' H' => Same H4 H' ∧ ∃ ha : Addr, H' ha = some (.lst ((prm t.cols zs).map V.str)) ∧ σ' = [some (.ref r), some (.int (k : Int)), some (.ref nl), some (.ref dl), some (.ref tl_), some (.int ((fN + k : Nat) : Int)), some (.ref cl), some (.ref ro), some (.ref ha), none], ?_, ?_⟩
  · refine ⟨_, rfl, cl, rfl, ⟨_, SqL.of (s4 _ _ g2)⟩, comp_list (xs := vN t.cols) (fun D i ys H' => Same H4 H' ∧ H' D = some (.lst ys) ∧ ys = (prm (t.cols.take i) zs).map V.str) (fun D hD => ⟨same_new hD _, upd_same, rfl⟩) (fun D i ys H' hD _ h => SqL.of (h.1 _ _ (s4 _ _ g2))) (fun D i y ys H' hD e h => ?_) (fun D ys H' hD h => ?_)⟩
    · obtain ⟨sm, eD, rfl⟩ := h
      obtain ⟨j, rfl, ej⟩ := vN_of e
      have hj := hlt j (List.mem_of_getElem? ej)
      have ez := List.getElem?_eq_getElem (l := zs) (i := j) (by omega)
      have hi : i < (vN t.cols).length := (List.getElem?_eq_some_iff.mp e).1
      refine ⟨_, rfl, _, rfl, nl, _, _, _, rfl, rfl, SqL.of ((s4.trans sm) _ _ enl), atI_nat (put_strs ez), CYes.mk hi eD (small1000 ?_) ⟨sm.upd hD, upd_same, ?_⟩⟩
      · rw [List.length_map, (prm_get (os := t.cols.take i) (xs := zs) fun j hj => by rw [hl1]; exact hlt j (List.mem_of_mem_take hj)).1, List.length_take]; omega
      · rw [take_snoc ej, prm_snoc ez, List.map_append]; rfl
    · obtain ⟨sm, eD, rfl⟩ := h
      rw [hvl, List.take_length] at eD
      exact ⟨sm, D, eD, rfl⟩
  rintro σ5 H5 ⟨s5, ha, eha, rfl⟩
  have s35 := s4.trans s5
  refine ⟨fun σ' H' => Same H5 H' ∧ ∃ (ka : Addr) (kv : List V), H' ka = some (.lst kv) ∧ RefL kv (prm t.cols (ds.map PD.k)) (DomD cNumbers cWords H') ∧ σ' = [some (.ref r), some (.int (k : Int)), some (.ref nl), some (.ref dl), some (.ref tl_), some (.int ((fN + k : Nat) : Int)), some (.ref cl), some (.ref ro), some (.ref ha), some (.ref ka)], ?_, ?_⟩
  · refine ⟨_, rfl, cl, rfl, ⟨_, SqL.of (s35 _ _ g2)⟩, comp_list (xs := vN t.cols) (fun D i ys H' => Same H5 H' ∧ H' D = some (.lst ys) ∧ RefL ys (prm (t.cols.take i) (ds.map PD.k)) (DomN (Fr H5 D) cNumbers cWords H')) (fun D hD => ⟨same_new hD _, upd_same, RefL.nil⟩) (fun D i ys H' hD _ h => SqL.of (h.1 _ _ (s35 _ _ g2))) (fun D i y ys H' hD e h => ?_) (fun D ys H' hD h => ?_)⟩
    · obtain ⟨sm, eD, hz⟩ := h
      obtain ⟨j, rfl, ej⟩ := vN_of e
      have hj := hlt j (List.mem_of_getElem? ej)
      have ed := List.getElem?_eq_getElem (l := ds) (i := j) hj
      obtain ⟨da, e2, hpd⟩ := hdv.2 j _ ed
      have okd := ok.doms _ (List.mem_of_getElem? ed)
      generalize ds[j] = p at ed hpd okd
      have hi : i < (vN t.cols).length := (List.getElem?_eq_some_iff.mp e).1
      have sA := s35.trans sm
      have ez : (ds.map PD.k)[j]? = some p.k := by rw [List.getElem?_map, ed]; rfl
      refine ⟨_, rfl, _, rfl, dl, _, _, _, rfl, rfl, SqL.of (sA _ _ edl), atI_nat e2, da, p, rfl, hpd.same sA, okd, fun x H6 s6 hx => ?_⟩
      have eD6 := s6 _ _ eD
      have hz2 : RefL (ys ++ [.ref x]) (prm (t.cols.take i) (ds.map PD.k) ++ [p.k]) (DomN (Fr H5 D) cNumbers cWords H6) := RefL.snoc (RefL.mono hz fun _ _ p => p.same s6) (hx.wk fun a h => ⟨sm.free h, fun z => by rw [z, eD] at h; cases h⟩)
      refine CYes.mk hi eD6 (small1000 ?_) ⟨(sm.trans s6).upd hD, upd_same, ?_⟩
      · rw [hz.1, (prm_get (os := t.cols.take i) (xs := ds.map PD.k) fun j hj => by rw [List.length_map]; exact hlt j (List.mem_of_mem_take hj)).1, List.length_take]; omega
      · rw [take_snoc ej, prm_snoc2 ez]
        exact RefL.mono hz2 fun _ _ p => p.upd Fr.out eD6
    · obtain ⟨sm, eD, hz⟩ := h
      rw [hvl, List.take_length] at hz
      exact ⟨sm, D, ys, eD, RefL.mono hz (fun _ _ p => p.dom), rfl⟩
  rintro σ6 H6 ⟨s6, ka, kv, eka, hkv, rfl⟩
  have s36 := s35.trans s6
  obtain ⟨da, e2, hpd⟩ := hdv.2 (fN + k) po epo
  have okp := ok.doms po (List.mem_of_getElem? epo)
  refine ⟨_, rfl, _, rfl, nl, _, _, _, rfl, rfl, SqL.of (s36 _ _ enl), atI_nat (put_strs enm), _, rfl, _, rfl, _, rfl, _, rfl, dl, _, _, _, rfl, rfl, SqL.of (s36 _ _ edl), atI_nat e2, da, po, rfl, hpd.same s36, okp, fun ou H7 s7 hou => ?_⟩
  have s37 := s36.trans s7
  have hou := hou.dom
  refine ⟨_, rfl, _, rfl, tl_, _, _, _, rfl, rfl, SqL.of (s37 _ _ etl), atI_nat eta, ta, _, _, _, rfl, rfl, SqT.of (s37 _ _ g1), rfl, _, rfl, fun x dx hx hdx hne => ?_⟩
  have s8 : Same H7 (upd (upd H7 dx (.own x)) x (.ins cTable dx [])) := (same_new hdx _).upd hx
  have s68 := s7.trans s8
  have ltz : ∀ j ∈ t.cols, j < zs.length := fun j hj => by rw [hl1]; exact hlt j hj
  have gz := prm_get (os := t.cols) (xs := zs) ltz
  have nzs : nm ∉ prm t.cols zs := fun hm => by
    obtain ⟨j, ej⟩ := List.getElem?_of_mem hm
    have hj : j < t.cols.length := by rw [← gz.1]; exact (List.getElem?_eq_some_iff.mp ej).1
    have ec := List.getElem?_eq_getElem hj
    rw [gz.2 j _ ec] at ej
    have := nd_ix ok.nd ej enm
    have h9 := tok.ok.lt _ (List.mem_of_getElem? ec)
    omega
  refine ⟨x, dx, ha, ka, ou, ro, nm, t.way, prm t.cols zs, kv, zx, prm t.cols (ds.map fun p => (p.lo, p.hi)), (po.lo, po.hi), t.rows, rfl, upd_same, s68 _ _ (s6 _ _ eha), ?_, List.nodup_cons.mpr ⟨nzs, prm_nodup tok.ok.nd ok.nd ltz⟩, by rw [gz.1]; exact hc1, by rw [gz.1]; omega, tok.ok.way, fun z => ?_, s68 _ _ eka, ?_, ?_, s68 _ _ ((s5.trans s6) _ _ ero), hro.same ((s5.trans s6).trans s68), by rw [hro.1]; exact hr200, ?_, ok.rows et epo, fun H' fs rl' xs' k1 k2 k3 k3a k3b k3c ⟨na', dl', k3d, k3e, k3f, k3g⟩ k4 k5 => ?_⟩
  · intro z hz
    rcases List.mem_cons.mp hz with rfl | hz
    · exact ok.words _ (List.mem_of_getElem? enm)
    · exact ok.words z (mem_prm hz)
  · have he := tok.ok.sum z po epo
    rw [PD.k_none he] at hou
    obtain ⟨dx2, e⟩ := hou
    exact ⟨dx2, _, s8 _ _ e⟩
  · have e : prm t.cols (ds.map fun p => (p.lo, p.hi)) = (prm t.cols (ds.map PD.k)).map (·.2) := by
      rw [← prm_map, List.map_map]
      rfl
    rw [e]
    refine ⟨by rw [List.length_map]; exact hkv.1, fun j b eb => ?_⟩
    rw [List.getElem?_map] at eb
    cases ec : (prm t.cols (ds.map PD.k))[j]? with
    | none => rw [ec] at eb; cases eb
    | some kk =>
      rw [ec] at eb
      cases eb
      obtain ⟨r1, e1, p1⟩ := hkv.2 j kk ec
      exact ⟨r1, e1, (p1.same s68).dom⟩
  · exact (hou.same s8).dom
  · rw [(prm_get (os := t.cols) (xs := ds.map fun p => (p.lo, p.hi)) fun j hj => by rw [List.length_map]; exact hlt j hj).1]; omega
  · have s9 : Same H7 H' := fun b u e => k1 b u (ne_of_none e hx) (s8 _ _ e)
    exact ⟨rfl, q x ou kv H' (s37.trans s9) ⟨rl', dx, na', dl', fs, xs', k2, k3, k3c, k3a, k3b, k3d, k3e, k3f, k3g, k4, k5, by rw [k5.1]; exact hr200⟩ (RefL.mono hkv fun _ _ p => p.same (s7.trans s9)) (hou.same s9)⟩
theorem ok_law (F : Fun K "law" "law" s_law f fd) (bl : Bl K mg cWay cFirst cOnly cLike cLow cHigh cSum cDomain cNumbers cWords cTable) (c__law_book : Callee P w K mg base 8 "_law_book" ["script"] (sp_law_book K cWay cFirst cOnly cLike cLow cHigh cSum cDomain cNumbers cWords cTable)) (c__law_table : Callee P w K mg base 8 "_law_table" ["plan", "k"] (sp_law_table K cWay cFirst cOnly cLike cLow cHigh cSum cDomain cNumbers cWords cTable)) (c_head_text : Callee P w K mg base 8 "head_text" ["table"] (sp_head_text K cWay cFirst cOnly cLike cLow cHigh cSum cDomain cNumbers cWords cTable)) (c_row_text : Callee P w K mg base 8 "row_text" ["table", "k"] (sp_row_text K cWay cFirst cOnly cLike cLow cHigh cSum cDomain cNumbers cWords cTable)) (c__law_head : Callee P w K mg base 8 "_law_head" ["plan", "k"] (sp_law_head K cWay cFirst cOnly cLike cLow cHigh cSum cDomain cNumbers cWords cTable)) (c__law_when : Callee P w K mg base 8 "_law_when" ["plan", "k", "row"] (sp_law_when K cWay cFirst cOnly cLike cLow cHigh cSum cDomain cNumbers cWords cTable)) : FnOk P w K mg base CX0 9 f fd ["script"] (sp_law K) := by
  refine F.ok sc_law (fun vs H Q E h => ?_) (fun cdv A outer s H vs Q E hr h => ?_)
  · obtain ⟨a, ns, rfl, hS, h63, q⟩ := h
    rfl
  obtain ⟨a, ns, rfl, hS, h63, q⟩ := h
  refine ⟨_, (pss_cut (ps_set (i := 1) sc_law.nd rfl (Or.inl rfl) (pe_fn c__law_book hr rfl (pa_cons (pv 0) pa_nil)))
     (pss_cut (ps_set (i := 2) sc_law.nd rfl (Or.inl rfl) (pe_ix ix_tup (pv 1) pe_int (fun _ _ => rfl)))
     (pss_cons (ps_for PassesOwn.never rfl (pi_range1 rfl bl.range_ (pa_cons (pe_callB call_len_seq rfl bl.len_ PySem.boot_len (pa_cons (pv 2) pa_nil)) pa_nil)) (pg_name (i := 3) sc_law.nd rfl (Or.inl rfl))
     (pss_cut (ps_set (i := 4) sc_law.nd rfl (Or.inl rfl) (pe_fn c__law_table hr rfl (pa_cons (pv 1) (pa_cons (pv 3) pa_nil))))
     (pss_cut (ps_set (i := 5) sc_law.nd rfl (Or.inl rfl) (pe_fn c_head_text hr rfl (pa_cons (pv 4) pa_nil)))
     (pss_cons (ps_if (PW.pt (pw_or (pt_not (pt_val (pe_callB call_isiG rfl bl.isinstance_ PyProof.Rows.boot_isinstance (pa_cons (pv 5) (pa_cons (pe_bltn (v := .ty "str") rfl bl.str_ PyProof.Rows.boot_str rfl) pa_nil))))) (pw_or1 (pt_cmpR op_ne (pv 5) (pe_fn c__law_head hr rfl (pa_cons (pv 1) (pa_cons (pv 3) pa_nil))) (nomark _)))))
     (pss_one (ps_ret pe_bl))
     pss_nil)
     (pss_one (ps_for PassesOwn.never rfl (pi_range1 rfl bl.range_ (pa_cons (pe_callB call_len_seq rfl bl.len_ PySem.boot_len (pa_cons (pe_ix ix_tup (pe_ix ix_list (pv 2) (pv 3) (fun _ _ => rfl)) pe_int (fun _ _ => rfl)) pa_nil)) pa_nil)) (pg_name (i := 6) sc_law.nd rfl (Or.inl rfl))
     (pss_cut (ps_set (i := 7) sc_law.nd rfl (Or.inl rfl) (pe_fn c_row_text hr rfl (pa_cons (pv 4) (pa_cons (pv 6) pa_nil))))
     (pss_one (ps_if (PW.pt (pw_or (pt_not (pt_val (pe_callB call_isiG rfl bl.isinstance_ PyProof.Rows.boot_isinstance (pa_cons (pv 7) (pa_cons (pe_bltn (v := .ty "str") rfl bl.str_ PyProof.Rows.boot_str rfl) pa_nil))))) (pw_or1 (pt_cmpR op_ne (pv 7) (pe_fn c__law_when hr rfl (pa_cons (pv 1) (pa_cons (pv 3) (pa_cons (pe_ix ix_list (pe_ix ix_tup (pe_ix ix_list (pv 2) (pv 3) (fun _ _ => rfl)) pe_int (fun _ _ => rfl)) (pv 6) (fun _ _ => rfl)) pa_nil)))) (nomark _)))))
     (pss_one (ps_ret pe_bl))
     pss_nil)))))))))
     (pss_one (ps_ret pe_bl))))), ?_⟩
  refine ⟨fun σ' H' => ∃ (r : Addr) (zs : List Str) (ds : List PD) (ts : List PT) (fN : Nat), PlA H' r zs ds ts ∧ PlOk zs ds ts fN ∧ σ' = [some (.ref a), some (.ref r), none, none, none, none, none, none], ⟨_, rfl, a, ns, rfl, hS, fun r zs ds ts fN H' _ h1 h2 => ⟨r, zs, ds, ts, fN, h1, h2, rfl⟩⟩, ?_⟩
  rintro σ1 H1 ⟨r, zs, ds, ts, fN, hPl, ok, rfl⟩
  obtain ⟨nl, dl, tl_, dv, tv, er, enl, edl, hdv, etl, htv⟩ := id hPl
  have htl : tv.length = ts.length := htv.1
  have h7 := ok.n7
  have hl1 := ok.len
  have hl2 := ok.tab
  refine ⟨fun σ' H' => H' = H1 ∧ σ' = [some (.ref a), some (.ref r), some (.ref tl_), none, none, none, none, none], ⟨_, rfl, r, _, _, _, rfl, rfl, SqT.of er, rfl, rfl, rfl⟩, ?_⟩
  rintro σ2 H2 ⟨rfl, rfl⟩
  refine ⟨_, rfl, tl_, _, rfl, .inl (SqL.of etl), _, rfl, (by omega), (by omega), for_range (fun i σ H' => Same H2 H' ∧ ∃ c3 c4 c5 c6 c7 : Option V, σ = [some (.ref a), some (.ref r), some (.ref tl_), c3, c4, c5, c6, c7]) ⟨Same.refl _, _, _, _, _, _, rfl⟩ (fun i σ H' hi hh => ?_) (fun σ H' hh => q H')⟩
  obtain ⟨sm, c3, c4, c5, c6, c7, rfl⟩ := hh
  rw [Int.toNat_natCast] at hi
  have et := List.getElem?_eq_getElem (l := ts) (i := i) (by omega)
  generalize ts[i] = t at et
  have hown := ok.own et
  have enm := List.getElem?_eq_getElem (l := zs) (i := fN + i) (by omega)
  have epo := List.getElem?_eq_getElem (l := ds) (i := fN + i) hown
  generalize zs[fN + i] = nm at enm
  generalize ds[fN + i] = po at epo
  have okp := ok.doms po (List.mem_of_getElem? epo)
  have tok := ok.tabs i t et
  have hPl' := hPl.same sm
  have hlt := ok.lt et
  have hc3 : t.cols.length ≤ 3 := tok.ok.few
  have ltz : ∀ j ∈ t.cols, j < zs.length := fun j hj => by rw [hl1]; exact hlt j hj
  have gz := prm_get (os := t.cols) (xs := zs) ltz
  have gk := prm_get (os := t.cols) (xs := ds.map PD.k) fun j hj => by rw [List.length_map]; exact hlt j hj
  rw [Int.zero_add]
  refine ⟨fun σ' H'' => Same H' H'' ∧ ∃ (x ou : Addr) (kv : List V), TF cTable H'' x nm t.way ou (prm t.cols zs) kv t.rows ∧ RefL kv (prm t.cols (ds.map PD.k)) (DomD cNumbers cWords H'') ∧ DomD cNumbers cWords H'' ou po.k ∧ σ' = [some (.ref a), some (.ref r), some (.ref tl_), some (.int (i : Int)), some (.ref x), c5, c6, c7], ⟨_, rfl, _, rfl, r, i, zs, ds, ts, fN, t, nm, po, rfl, hPl', ok, et, enm, epo, fun x ou kv H'' s' hT hk ho => ⟨s', x, ou, kv, hT, hk, ho, rfl⟩⟩, ?_⟩
  rintro σ3 H3 ⟨s3, x, ou, kv, hT, hkv, hou, rfl⟩
  have sA := sm.trans s3
  refine ⟨fun σ' H'' => H'' = H3 ∧ σ' = [some (.ref a), some (.ref r), some (.ref tl_), some (.int (i : Int)), some (.ref x), some (.str (headT nm (prm t.cols zs) po.k t.way)), c6, c7], ⟨_, rfl, x, ou, nm, t.way, _, kv, t.rows, po, rfl, hT, hou, okp, ok.nm12 (List.mem_of_getElem? enm), six12 tok.ok.way, (fun z hz => ok.nm12 (mem_prm hz)), by rw [gz.1]; omega, rfl, rfl⟩, ?_⟩
  rintro σ4 H4 ⟨rfl, rfl⟩
  refine ⟨_, rfl, _, _, _, _, true, rfl, .ty _, .inl (.str _), (by first | rfl | with_unfolding_all rfl | decide +kernel), _, rfl, iteF ?_⟩
  refine ⟨_, rfl, _, rfl, _, rfl, r, i, zs, ds, ts, fN, t, nm, po, rfl, hPl.same sA, ok, et, enm, epo, fun H5 s5 => ⟨rfl, _, rfl, iteNS rfl ?_⟩⟩
  obtain ⟨ta, eta, cl, rl, rx, g1, g2, g3, g4⟩ := htv.2 i t et
  have sB := sA.trans s5
  have hrl : rx.length = t.rows.length := g4.1
  have hr200 := tok.few
  refine ⟨_, rfl, _, rfl, tl_, _, _, _, rfl, rfl, SqL.of (sB _ _ etl), atI_nat eta, ta, _, _, _, rfl, rfl, SqT.of (sB _ _ g1), rfl, rl, _, rfl, .inl (SqL.of (sB _ _ g3)), _, rfl, (by omega), (by omega), for_range (fun j σ H' => Same H5 H' ∧ ∃ c6 c7 : Option V, σ = [some (.ref a), some (.ref r), some (.ref tl_), some (.int (i : Int)), some (.ref x), some (.str (headT nm (prm t.cols zs) po.k t.way)), c6, c7]) ⟨Same.refl _, _, _, rfl⟩ (fun j σ H' hj hh => ?_) (fun σ H' hh => ?_)⟩
  · obtain ⟨s6, d6, d7, rfl⟩ := hh
    rw [Int.toNat_natCast] at hj
    have ew := List.getElem?_eq_getElem (l := t.rows) (i := j) (by omega)
    obtain ⟨ra, era, hra⟩ := g4.2 j _ ew
    generalize t.rows[j] = w at ew hra
    have hwm := List.mem_of_getElem? ew
    have fit := tok.rows w hwm
    have hwl : w.1.length = t.cols.length := fit.len
    have hcode := fit.code po epo
    have sC := s5.trans s6
    have sD := sA.trans sC
    rw [Int.zero_add]
    refine ⟨fun σ' H'' => Same H' H'' ∧ σ' = [some (.ref a), some (.ref r), some (.ref tl_), some (.int (i : Int)), some (.ref x), some (.str (headT nm (prm t.cols zs) po.k t.way)), some (.int (j : Int)), some (.str (rowT (prm t.cols (ds.map PD.k)) w po.k))], ⟨_, rfl, _, rfl, x, ou, j, nm, t.way, _, kv, t.rows, w, prm t.cols (ds.map PD.k), po, rfl, hT.same sC, ew, RefL.mono hkv (fun _ _ p => p.same sC), hou.same sC, okp, hcode.1, hcode.2, by rw [gk.1, hwl], by omega, ok.cells et hwm, fun H'' s' => ⟨s', rfl⟩⟩, ?_⟩
    rintro σ7 H7 ⟨s7, rfl⟩
    have sE := sD.trans s7
    refine ⟨_, rfl, _, _, _, _, true, rfl, .ty _, .inl (.str _), (by first | rfl | with_unfolding_all rfl | decide +kernel), _, rfl, iteF ?_⟩
    refine ⟨_, rfl, _, rfl, _, rfl, _, rfl, _, rfl, tl_, _, _, _, rfl, rfl, SqL.of (sE _ _ etl), atI_nat eta, ta, _, _, _, rfl, rfl, SqT.of (sE _ _ g1), rfl, _, rfl, rl, _, _, _, rfl, rfl, SqL.of (sE _ _ g3), atI_nat era, r, ra, i, zs, ds, ts, fN, t, po, w, rfl, hPl.same sE, ok, et, epo, hra.same sE, hwm, fun H8 s8 => ⟨rfl, _, rfl, iteNS rfl ⟨(s6.trans s7).trans s8, _, _, rfl⟩⟩⟩
  · obtain ⟨s6, d6, d7, rfl⟩ := hh
    exact ⟨(sB.trans s6), _, _, _, _, _, rfl⟩
end
theorem all_mk {l : PySem.W.OpenLaw} {w : World} {K : PySem.W.Frag} {h : Heap} {mg : Str → Option Value} {fa f0 f1 f2 f3 f4 f5 f6 f7 f8 f9 f10 f11 f12 f13 f14 f15 f16 f17 f18 f19 f20 f21 f22 f23 f24 f25 f26 f27 f28 f29 f30 f31 f32 f33 f34 f35 f36 f37 f38 f39 f40 f41 f42 f43 f44 f45 f46 f47 f48 f49 f50 f51 f52 f53 f54 f55 f56 f57 f58 f59 : Addr} (X : K.In h) (G : h.Ns mainGlobals mg) (hfa : mg "law" = some (.ref fa))
    {od0 an0 od1 an1 od2 an2 od3 an3 od4 an4 od5 an5 od6 an6 od7 an7 od8 an8 od9 an9 od10 an10 od11 an11 od12 an12 od13 an13 od14 an14 od15 an15 od16 an16 od17 an17 od18 an18 od19 an19 od20 an20 od21 an21 od22 an22 od23 an23 od24 an24 od25 an25 od26 an26 od27 an27 od28 an28 od29 an29 od30 an30 od31 an31 od32 an32 od33 an33 od34 an34 od35 an35 od36 an36 od37 an37 od38 an38 od39 an39 od40 an40 od41 an41 od42 an42 od43 an43 od44 an44 od45 an45 od46 an46 od47 an47 od48 an48 od49 an49 od50 an50 od51 an51 od52 an52 od53 an53 od54 an54 od55 an55 od56 an56 od57 an57 od58 an58 od59 an59 : Option Addr} {sl0 sl1 sl2 sl3 sl4 sl5 sl6 sl7 sl8 sl9 sl10 sl11 sl12 sl13 sl14 sl15 sl16 sl17 sl18 sl19 sl20 sl21 sl22 sl23 sl24 sl25 sl26 sl27 sl28 sl29 sl30 sl31 sl32 sl33 sl34 sl35 sl36 sl37 sl38 sl39 sl40 sl41 sl42 sl43 sl44 sl45 sl46 sl47 sl48 sl49 sl50 sl51 sl52 sl53 sl54 sl55 sl56 sl57 sl58 sl59 : Array (Option Value)} {oc0 kV0 dc0 pm0 cd0 ct0 oc1 kV1 dc1 pm1 cd1 ct1 oc2 kV2 dc2 pm2 cd2 ct2 oc3 kV3 dc3 pm3 cd3 ct3 oc4 kV4 dc4 pm4 cd4 ct4 oc5 kV5 dc5 pm5 cd5 ct5 oc6 kV6 dc6 pm6 cd6 ct6 oc7 kV7 dc7 pm7 cd7 ct7 oc8 kV8 dc8 pm8 cd8 ct8 oc9 kV9 dc9 pm9 cd9 ct9 oc10 kV10 dc10 pm10 cd10 ct10 oc11 kV11 dc11 pm11 cd11 ct11 oc12 kV12 dc12 pm12 cd12 ct12 oc13 kV13 dc13 pm13 cd13 ct13 oc14 kV14 dc14 pm14 cd14 ct14 oc15 kV15 dc15 pm15 cd15 ct15 oc16 kV16 dc16 pm16 cd16 ct16 oc17 kV17 dc17 pm17 cd17 ct17 oc18 kV18 dc18 pm18 cd18 ct18 oc19 kV19 dc19 pm19 cd19 ct19 oc20 kV20 dc20 pm20 cd20 ct20 oc21 kV21 dc21 pm21 cd21 ct21 oc22 kV22 dc22 pm22 cd22 ct22 oc23 kV23 dc23 pm23 cd23 ct23 oc24 kV24 dc24 pm24 cd24 ct24 oc25 kV25 dc25 pm25 cd25 ct25 oc26 kV26 dc26 pm26 cd26 ct26 oc27 kV27 dc27 pm27 cd27 ct27 oc28 kV28 dc28 pm28 cd28 ct28 oc29 kV29 dc29 pm29 cd29 ct29 oc30 kV30 dc30 pm30 cd30 ct30 oc31 kV31 dc31 pm31 cd31 ct31 oc32 kV32 dc32 pm32 cd32 ct32 oc33 kV33 dc33 pm33 cd33 ct33 oc34 kV34 dc34 pm34 cd34 ct34 oc35 kV35 dc35 pm35 cd35 ct35 oc36 kV36 dc36 pm36 cd36 ct36 oc37 kV37 dc37 pm37 cd37 ct37 oc38 kV38 dc38 pm38 cd38 ct38 oc39 kV39 dc39 pm39 cd39 ct39 oc40 kV40 dc40 pm40 cd40 ct40 oc41 kV41 dc41 pm41 cd41 ct41 oc42 kV42 dc42 pm42 cd42 ct42 oc43 kV43 dc43 pm43 cd43 ct43 oc44 kV44 dc44 pm44 cd44 ct44 oc45 kV45 dc45 pm45 cd45 ct45 oc46 kV46 dc46 pm46 cd46 ct46 oc47 kV47 dc47 pm47 cd47 ct47 oc48 kV48 dc48 pm48 cd48 ct48 oc49 kV49 dc49 pm49 cd49 ct49 oc50 kV50 dc50 pm50 cd50 ct50 oc51 kV51 dc51 pm51 cd51 ct51 oc52 kV52 dc52 pm52 cd52 ct52 oc53 kV53 dc53 pm53 cd53 ct53 oc54 kV54 dc54 pm54 cd54 ct54 oc55 kV55 dc55 pm55 cd55 ct55 oc56 kV56 dc56 pm56 cd56 ct56 oc57 kV57 dc57 pm57 cd57 ct57 oc58 kV58 dc58 pm58 cd58 ct58 oc59 kV59 dc59 pm59 cd59 ct59 : Value}
    {cWay cFirst cOnly cLike cLow cHigh cSum cDomain cNumbers cWords cTable : Addr}
    (n_Way : PySem.W.nsIn K mainGlobals "Way" = some (some (.ref cWay)))
    (n_First : PySem.W.nsIn K mainGlobals "First" = some (some (.ref cFirst)))
    (n_Only : PySem.W.nsIn K mainGlobals "Only" = some (some (.ref cOnly)))
    (n_Like : PySem.W.nsIn K mainGlobals "Like" = some (some (.ref cLike)))
    (n_Low : PySem.W.nsIn K mainGlobals "Low" = some (some (.ref cLow)))
    (n_High : PySem.W.nsIn K mainGlobals "High" = some (some (.ref cHigh)))
    (n_Sum : PySem.W.nsIn K mainGlobals "Sum" = some (some (.ref cSum)))
    (n_Domain : PySem.W.nsIn K mainGlobals "Domain" = some (some (.ref cDomain)))
    (n_Numbers : PySem.W.nsIn K mainGlobals "Numbers" = some (some (.ref cNumbers)))
    (n_Words : PySem.W.nsIn K mainGlobals "Words" = some (some (.ref cWords)))
    (n_Table : PySem.W.nsIn K mainGlobals "Table" = some (some (.ref cTable)))
    (a0 : PySem.W.nsIn K mainGlobals "all_among" = some (some (.ref f0))) (l0 : K.lookup f0 = some ⟨oc0, od0, .func (PySem.W.fnOf "all_among" "all_among" (defArgs s_all_among) (defBody s_all_among) (defScope s_all_among) .none kV0 dc0 pm0 an0 cd0 ct0), sl0⟩) (c0 : PySem.W.codeIn K cd0 "all_among" = true) (k0 : PySem.W.keepIn K (.ref f0) = true)
    (a1 : PySem.W.nsIn K mainGlobals "is_word" = some (some (.ref f1))) (l1 : K.lookup f1 = some ⟨oc1, od1, .func (PySem.W.fnOf "is_word" "is_word" (defArgs s_is_word) (defBody s_is_word) (defScope s_is_word) .none kV1 dc1 pm1 an1 cd1 ct1), sl1⟩) (c1 : PySem.W.codeIn K cd1 "is_word" = true) (k1 : PySem.W.keepIn K (.ref f1) = true)
    (a2 : PySem.W.nsIn K mainGlobals "number_text" = some (some (.ref f2))) (l2 : K.lookup f2 = some ⟨oc2, od2, .func (PySem.W.fnOf "number_text" "number_text" (defArgs s_number_text) (defBody s_number_text) (defScope s_number_text) .none kV2 dc2 pm2 an2 cd2 ct2), sl2⟩) (c2 : PySem.W.codeIn K cd2 "number_text" = true) (k2 : PySem.W.keepIn K (.ref f2) = true)
    (a3 : PySem.W.nsIn K mainGlobals "is_whole" = some (some (.ref f3))) (l3 : K.lookup f3 = some ⟨oc3, od3, .func (PySem.W.fnOf "is_whole" "is_whole" (defArgs s_is_whole) (defBody s_is_whole) (defScope s_is_whole) .none kV3 dc3 pm3 an3 cd3 ct3), sl3⟩) (c3 : PySem.W.codeIn K cd3 "is_whole" = true) (k3 : PySem.W.keepIn K (.ref f3) = true)
    (a4 : PySem.W.nsIn K mainGlobals "show_cell" = some (some (.ref f4))) (l4 : K.lookup f4 = some ⟨oc4, od4, .func (PySem.W.fnOf "show_cell" "show_cell" (defArgs s_show_cell) (defBody s_show_cell) (defScope s_show_cell) .none kV4 dc4 pm4 an4 cd4 ct4), sl4⟩) (c4 : PySem.W.codeIn K cd4 "show_cell" = true) (k4 : PySem.W.keepIn K (.ref f4) = true)
    (a5 : PySem.W.nsIn K mainGlobals "words_of" = some (some (.ref f5))) (l5 : K.lookup f5 = some ⟨oc5, od5, .func (PySem.W.fnOf "words_of" "words_of" (defArgs s_words_of) (defBody s_words_of) (defScope s_words_of) .none kV5 dc5 pm5 an5 cd5 ct5), sl5⟩) (c5 : PySem.W.codeIn K cd5 "words_of" = true) (k5 : PySem.W.keepIn K (.ref f5) = true)
    (a6 : PySem.W.nsIn K mainGlobals "show_range" = some (some (.ref f6))) (l6 : K.lookup f6 = some ⟨oc6, od6, .func (PySem.W.fnOf "show_range" "show_range" (defArgs s_show_range) (defBody s_show_range) (defScope s_show_range) .none kV6 dc6 pm6 an6 cd6 ct6), sl6⟩) (c6 : PySem.W.codeIn K cd6 "show_range" = true) (k6 : PySem.W.keepIn K (.ref f6) = true)
    (a7 : PySem.W.nsIn K mainGlobals "show_value" = some (some (.ref f7))) (l7 : K.lookup f7 = some ⟨oc7, od7, .func (PySem.W.fnOf "show_value" "show_value" (defArgs s_show_value) (defBody s_show_value) (defScope s_show_value) .none kV7 dc7 pm7 an7 cd7 ct7), sl7⟩) (c7 : PySem.W.codeIn K cd7 "show_value" = true) (k7 : PySem.W.keepIn K (.ref f7) = true)
    (a8 : PySem.W.nsIn K mainGlobals "way_by" = some (some (.ref f8))) (l8 : K.lookup f8 = some ⟨oc8, od8, .func (PySem.W.fnOf "way_by" "way_by" (defArgs s_way_by) (defBody s_way_by) (defScope s_way_by) .none kV8 dc8 pm8 an8 cd8 ct8), sl8⟩) (c8 : PySem.W.codeIn K cd8 "way_by" = true) (k8 : PySem.W.keepIn K (.ref f8) = true)
    (a9 : PySem.W.nsIn K mainGlobals "refuse_names" = some (some (.ref f9))) (l9 : K.lookup f9 = some ⟨oc9, od9, .func (PySem.W.fnOf "refuse_names" "refuse_names" (defArgs s_refuse_names) (defBody s_refuse_names) (defScope s_refuse_names) .none kV9 dc9 pm9 an9 cd9 ct9), sl9⟩) (c9 : PySem.W.codeIn K cd9 "refuse_names" = true) (k9 : PySem.W.keepIn K (.ref f9) = true)
    (a10 : PySem.W.nsIn K mainGlobals "refuse_counts" = some (some (.ref f10))) (l10 : K.lookup f10 = some ⟨oc10, od10, .func (PySem.W.fnOf "refuse_counts" "refuse_counts" (defArgs s_refuse_counts) (defBody s_refuse_counts) (defScope s_refuse_counts) .none kV10 dc10 pm10 an10 cd10 ct10), sl10⟩) (c10 : PySem.W.codeIn K cd10 "refuse_counts" = true) (k10 : PySem.W.keepIn K (.ref f10) = true)
    (a11 : PySem.W.nsIn K mainGlobals "refuse_way" = some (some (.ref f11))) (l11 : K.lookup f11 = some ⟨oc11, od11, .func (PySem.W.fnOf "refuse_way" "refuse_way" (defArgs s_refuse_way) (defBody s_refuse_way) (defScope s_refuse_way) .none kV11 dc11 pm11 an11 cd11 ct11), sl11⟩) (c11 : PySem.W.codeIn K cd11 "refuse_way" = true) (k11 : PySem.W.keepIn K (.ref f11) = true)
    (a12 : PySem.W.nsIn K mainGlobals "refuse_row" = some (some (.ref f12))) (l12 : K.lookup f12 = some ⟨oc12, od12, .func (PySem.W.fnOf "refuse_row" "refuse_row" (defArgs s_refuse_row) (defBody s_refuse_row) (defScope s_refuse_row) .none kV12 dc12 pm12 an12 cd12 ct12), sl12⟩) (c12 : PySem.W.codeIn K cd12 "refuse_row" = true) (k12 : PySem.W.keepIn K (.ref f12) = true)
    (a13 : PySem.W.nsIn K mainGlobals "own_row" = some (some (.ref f13))) (l13 : K.lookup f13 = some ⟨oc13, od13, .func (PySem.W.fnOf "own_row" "own_row" (defArgs s_own_row) (defBody s_own_row) (defScope s_own_row) .none kV13 dc13 pm13 an13 cd13 ct13), sl13⟩) (c13 : PySem.W.codeIn K cd13 "own_row" = true) (k13 : PySem.W.keepIn K (.ref f13) = true)
    (a14 : PySem.W.nsIn K mainGlobals "head_text" = some (some (.ref f14))) (l14 : K.lookup f14 = some ⟨oc14, od14, .func (PySem.W.fnOf "head_text" "head_text" (defArgs s_head_text) (defBody s_head_text) (defScope s_head_text) .none kV14 dc14 pm14 an14 cd14 ct14), sl14⟩) (c14 : PySem.W.codeIn K cd14 "head_text" = true) (k14 : PySem.W.keepIn K (.ref f14) = true)
    (a15 : PySem.W.nsIn K mainGlobals "row_text" = some (some (.ref f15))) (l15 : K.lookup f15 = some ⟨oc15, od15, .func (PySem.W.fnOf "row_text" "row_text" (defArgs s_row_text) (defBody s_row_text) (defScope s_row_text) .none kV15 dc15 pm15 an15 cd15 ct15), sl15⟩) (c15 : PySem.W.codeIn K cd15 "row_text" = true) (k15 : PySem.W.keepIn K (.ref f15) = true)
    (a16 : PySem.W.nsIn K mainGlobals "fields_text" = some (some (.ref f16))) (l16 : K.lookup f16 = some ⟨oc16, od16, .func (PySem.W.fnOf "fields_text" "fields_text" (defArgs s_fields_text) (defBody s_fields_text) (defScope s_fields_text) .none kV16 dc16 pm16 an16 cd16 ct16), sl16⟩) (c16 : PySem.W.codeIn K cd16 "fields_text" = true) (k16 : PySem.W.keepIn K (.ref f16) = true)
    (a17 : PySem.W.nsIn K mainGlobals "_law_at" = some (some (.ref f17))) (l17 : K.lookup f17 = some ⟨oc17, od17, .func (PySem.W.fnOf "_law_at" "_law_at" (defArgs s_law_at) (defBody s_law_at) (defScope s_law_at) .none kV17 dc17 pm17 an17 cd17 ct17), sl17⟩) (c17 : PySem.W.codeIn K cd17 "_law_at" = true) (k17 : PySem.W.keepIn K (.ref f17) = true)
    (a18 : PySem.W.nsIn K mainGlobals "_law_words" = some (some (.ref f18))) (l18 : K.lookup f18 = some ⟨oc18, od18, .func (PySem.W.fnOf "_law_words" "_law_words" (defArgs s_law_words) (defBody s_law_words) (defScope s_law_words) .none kV18 dc18 pm18 an18 cd18 ct18), sl18⟩) (c18 : PySem.W.codeIn K cd18 "_law_words" = true) (k18 : PySem.W.keepIn K (.ref f18) = true)
    (a19 : PySem.W.nsIn K mainGlobals "_law_domain" = some (some (.ref f19))) (l19 : K.lookup f19 = some ⟨oc19, od19, .func (PySem.W.fnOf "_law_domain" "_law_domain" (defArgs s_law_domain) (defBody s_law_domain) (defScope s_law_domain) .none kV19 dc19 pm19 an19 cd19 ct19), sl19⟩) (c19 : PySem.W.codeIn K cd19 "_law_domain" = true) (k19 : PySem.W.keepIn K (.ref f19) = true)
    (a20 : PySem.W.nsIn K mainGlobals "_law_pool" = some (some (.ref f20))) (l20 : K.lookup f20 = some ⟨oc20, od20, .func (PySem.W.fnOf "_law_pool" "_law_pool" (defArgs s_law_pool) (defBody s_law_pool) (defScope s_law_pool) .none kV20 dc20 pm20 an20 cd20 ct20), sl20⟩) (c20 : PySem.W.codeIn K cd20 "_law_pool" = true) (k20 : PySem.W.keepIn K (.ref f20) = true)
    (a21 : PySem.W.nsIn K mainGlobals "_law_spans" = some (some (.ref f21))) (l21 : K.lookup f21 = some ⟨oc21, od21, .func (PySem.W.fnOf "_law_spans" "_law_spans" (defArgs s_law_spans) (defBody s_law_spans) (defScope s_law_spans) .none kV21 dc21 pm21 an21 cd21 ct21), sl21⟩) (c21 : PySem.W.codeIn K cd21 "_law_spans" = true) (k21 : PySem.W.keepIn K (.ref f21) = true)
    (a22 : PySem.W.nsIn K mainGlobals "_law_row" = some (some (.ref f22))) (l22 : K.lookup f22 = some ⟨oc22, od22, .func (PySem.W.fnOf "_law_row" "_law_row" (defArgs s_law_row) (defBody s_law_row) (defScope s_law_row) .none kV22 dc22 pm22 an22 cd22 ct22), sl22⟩) (c22 : PySem.W.codeIn K cd22 "_law_row" = true) (k22 : PySem.W.keepIn K (.ref f22) = true)
    (a23 : PySem.W.nsIn K mainGlobals "_law_book" = some (some (.ref f23))) (l23 : K.lookup f23 = some ⟨oc23, od23, .func (PySem.W.fnOf "_law_book" "_law_book" (defArgs s_law_book) (defBody s_law_book) (defScope s_law_book) .none kV23 dc23 pm23 an23 cd23 ct23), sl23⟩) (c23 : PySem.W.codeIn K cd23 "_law_book" = true) (k23 : PySem.W.keepIn K (.ref f23) = true)
    (a24 : PySem.W.nsIn K mainGlobals "_law_made" = some (some (.ref f24))) (l24 : K.lookup f24 = some ⟨oc24, od24, .func (PySem.W.fnOf "_law_made" "_law_made" (defArgs s_law_made) (defBody s_law_made) (defScope s_law_made) .none kV24 dc24 pm24 an24 cd24 ct24), sl24⟩) (c24 : PySem.W.codeIn K cd24 "_law_made" = true) (k24 : PySem.W.keepIn K (.ref f24) = true)
    (a25 : PySem.W.nsIn K mainGlobals "_law_table" = some (some (.ref f25))) (l25 : K.lookup f25 = some ⟨oc25, od25, .func (PySem.W.fnOf "_law_table" "_law_table" (defArgs s_law_table) (defBody s_law_table) (defScope s_law_table) .none kV25 dc25 pm25 an25 cd25 ct25), sl25⟩) (c25 : PySem.W.codeIn K cd25 "_law_table" = true) (k25 : PySem.W.keepIn K (.ref f25) = true)
    (a26 : PySem.W.nsIn K mainGlobals "_law_domain_text" = some (some (.ref f26))) (l26 : K.lookup f26 = some ⟨oc26, od26, .func (PySem.W.fnOf "_law_domain_text" "_law_domain_text" (defArgs s_law_domain_text) (defBody s_law_domain_text) (defScope s_law_domain_text) .none kV26 dc26 pm26 an26 cd26 ct26), sl26⟩) (c26 : PySem.W.codeIn K cd26 "_law_domain_text" = true) (k26 : PySem.W.keepIn K (.ref f26) = true)
    (a27 : PySem.W.nsIn K mainGlobals "_law_part_text" = some (some (.ref f27))) (l27 : K.lookup f27 = some ⟨oc27, od27, .func (PySem.W.fnOf "_law_part_text" "_law_part_text" (defArgs s_law_part_text) (defBody s_law_part_text) (defScope s_law_part_text) .none kV27 dc27 pm27 an27 cd27 ct27), sl27⟩) (c27 : PySem.W.codeIn K cd27 "_law_part_text" = true) (k27 : PySem.W.keepIn K (.ref f27) = true)
    (a28 : PySem.W.nsIn K mainGlobals "_law_field" = some (some (.ref f28))) (l28 : K.lookup f28 = some ⟨oc28, od28, .func (PySem.W.fnOf "_law_field" "_law_field" (defArgs s_law_field) (defBody s_law_field) (defScope s_law_field) .none kV28 dc28 pm28 an28 cd28 ct28), sl28⟩) (c28 : PySem.W.codeIn K cd28 "_law_field" = true) (k28 : PySem.W.keepIn K (.ref f28) = true)
    (a29 : PySem.W.nsIn K mainGlobals "_law_value" = some (some (.ref f29))) (l29 : K.lookup f29 = some ⟨oc29, od29, .func (PySem.W.fnOf "_law_value" "_law_value" (defArgs s_law_value) (defBody s_law_value) (defScope s_law_value) .none kV29 dc29 pm29 an29 cd29 ct29), sl29⟩) (c29 : PySem.W.codeIn K cd29 "_law_value" = true) (k29 : PySem.W.keepIn K (.ref f29) = true)
    (a30 : PySem.W.nsIn K mainGlobals "_law_head" = some (some (.ref f30))) (l30 : K.lookup f30 = some ⟨oc30, od30, .func (PySem.W.fnOf "_law_head" "_law_head" (defArgs s_law_head) (defBody s_law_head) (defScope s_law_head) .none kV30 dc30 pm30 an30 cd30 ct30), sl30⟩) (c30 : PySem.W.codeIn K cd30 "_law_head" = true) (k30 : PySem.W.keepIn K (.ref f30) = true)
    (a31 : PySem.W.nsIn K mainGlobals "_law_when" = some (some (.ref f31))) (l31 : K.lookup f31 = some ⟨oc31, od31, .func (PySem.W.fnOf "_law_when" "_law_when" (defArgs s_law_when) (defBody s_law_when) (defScope s_law_when) .none kV31 dc31 pm31 an31 cd31 ct31), sl31⟩) (c31 : PySem.W.codeIn K cd31 "_law_when" = true) (k31 : PySem.W.keepIn K (.ref f31) = true)
    (i32 : PySem.W.findIn K (.ref cTable) "__init__" = some (some (.ref f32))) (if32 : PySem.W.isFn K (.ref f32) = true) (im32 : PySem.W.makesIn K cTable = true) (ik32 : PySem.W.keepIn K (.ref cTable) = true) (l32 : K.lookup f32 = some ⟨oc32, od32, .func (PySem.W.fnOf "__init__" "Table.__init__" (defArgs s_Table___init___Table) (defBody s_Table___init___Table) (defScope s_Table___init___Table) .none kV32 dc32 pm32 an32 cd32 ct32), sl32⟩) (c32 : PySem.W.codeIn K cd32 "Table.__init__" = true) (k32 : PySem.W.keepIn K (.ref f32) = true)
    (i33 : PySem.W.findIn K (.ref cFirst) "__init__" = some (some (.ref f33))) (if33 : PySem.W.isFn K (.ref f33) = true) (im33 : PySem.W.makesIn K cFirst = true) (ik33 : PySem.W.keepIn K (.ref cFirst) = true) (l33 : K.lookup f33 = some ⟨oc33, od33, .func (PySem.W.fnOf "__init__" "First.__init__" (defArgs s_First___init___First) (defBody s_First___init___First) (defScope s_First___init___First) .none kV33 dc33 pm33 an33 cd33 ct33), sl33⟩) (c33 : PySem.W.codeIn K cd33 "First.__init__" = true) (k33 : PySem.W.keepIn K (.ref f33) = true)
    (b_s34 : PySem.W.specialIn K (.ref cWay) "__getattribute__" = some (some (.builtin "type.__getattribute__"))) (b_r34 : PySem.W.readsIn K cWay (.type "type") = true) (b_a34 : PySem.W.findCls K (.ref cWay) (.type "type") "__init__" = some (.val (.ref f34))) (l34 : K.lookup f34 = some ⟨oc34, od34, .func (PySem.W.fnOf "__init__" "Way.__init__" (defArgs s_Way___init___First) (defBody s_Way___init___First) (defScope s_Way___init___First) .none kV34 dc34 pm34 an34 cd34 ct34), sl34⟩) (c34 : PySem.W.codeIn K cd34 "Way.__init__" = true) (k34 : PySem.W.keepIn K (.ref f34) = true)
    (i35 : PySem.W.findIn K (.ref cOnly) "__init__" = some (some (.ref f35))) (if35 : PySem.W.isFn K (.ref f35) = true) (im35 : PySem.W.makesIn K cOnly = true) (ik35 : PySem.W.keepIn K (.ref cOnly) = true) (l35 : K.lookup f35 = some ⟨oc35, od35, .func (PySem.W.fnOf "__init__" "Only.__init__" (defArgs s_Only___init___Only) (defBody s_Only___init___Only) (defScope s_Only___init___Only) .none kV35 dc35 pm35 an35 cd35 ct35), sl35⟩) (c35 : PySem.W.codeIn K cd35 "Only.__init__" = true) (k35 : PySem.W.keepIn K (.ref f35) = true)
    (b_s36 : PySem.W.specialIn K (.ref cWay) "__getattribute__" = some (some (.builtin "type.__getattribute__"))) (b_r36 : PySem.W.readsIn K cWay (.type "type") = true) (b_a36 : PySem.W.findCls K (.ref cWay) (.type "type") "__init__" = some (.val (.ref f36))) (l36 : K.lookup f36 = some ⟨oc36, od36, .func (PySem.W.fnOf "__init__" "Way.__init__" (defArgs s_Way___init___Only) (defBody s_Way___init___Only) (defScope s_Way___init___Only) .none kV36 dc36 pm36 an36 cd36 ct36), sl36⟩) (c36 : PySem.W.codeIn K cd36 "Way.__init__" = true) (k36 : PySem.W.keepIn K (.ref f36) = true)
    (i37 : PySem.W.findIn K (.ref cLike) "__init__" = some (some (.ref f37))) (if37 : PySem.W.isFn K (.ref f37) = true) (im37 : PySem.W.makesIn K cLike = true) (ik37 : PySem.W.keepIn K (.ref cLike) = true) (l37 : K.lookup f37 = some ⟨oc37, od37, .func (PySem.W.fnOf "__init__" "Like.__init__" (defArgs s_Like___init___Like) (defBody s_Like___init___Like) (defScope s_Like___init___Like) .none kV37 dc37 pm37 an37 cd37 ct37), sl37⟩) (c37 : PySem.W.codeIn K cd37 "Like.__init__" = true) (k37 : PySem.W.keepIn K (.ref f37) = true)
    (b_s38 : PySem.W.specialIn K (.ref cWay) "__getattribute__" = some (some (.builtin "type.__getattribute__"))) (b_r38 : PySem.W.readsIn K cWay (.type "type") = true) (b_a38 : PySem.W.findCls K (.ref cWay) (.type "type") "__init__" = some (.val (.ref f38))) (l38 : K.lookup f38 = some ⟨oc38, od38, .func (PySem.W.fnOf "__init__" "Way.__init__" (defArgs s_Way___init___Like) (defBody s_Way___init___Like) (defScope s_Way___init___Like) .none kV38 dc38 pm38 an38 cd38 ct38), sl38⟩) (c38 : PySem.W.codeIn K cd38 "Way.__init__" = true) (k38 : PySem.W.keepIn K (.ref f38) = true)
    (i39 : PySem.W.findIn K (.ref cLow) "__init__" = some (some (.ref f39))) (if39 : PySem.W.isFn K (.ref f39) = true) (im39 : PySem.W.makesIn K cLow = true) (ik39 : PySem.W.keepIn K (.ref cLow) = true) (l39 : K.lookup f39 = some ⟨oc39, od39, .func (PySem.W.fnOf "__init__" "Low.__init__" (defArgs s_Low___init___Low) (defBody s_Low___init___Low) (defScope s_Low___init___Low) .none kV39 dc39 pm39 an39 cd39 ct39), sl39⟩) (c39 : PySem.W.codeIn K cd39 "Low.__init__" = true) (k39 : PySem.W.keepIn K (.ref f39) = true)
    (b_s40 : PySem.W.specialIn K (.ref cWay) "__getattribute__" = some (some (.builtin "type.__getattribute__"))) (b_r40 : PySem.W.readsIn K cWay (.type "type") = true) (b_a40 : PySem.W.findCls K (.ref cWay) (.type "type") "__init__" = some (.val (.ref f40))) (l40 : K.lookup f40 = some ⟨oc40, od40, .func (PySem.W.fnOf "__init__" "Way.__init__" (defArgs s_Way___init___Low) (defBody s_Way___init___Low) (defScope s_Way___init___Low) .none kV40 dc40 pm40 an40 cd40 ct40), sl40⟩) (c40 : PySem.W.codeIn K cd40 "Way.__init__" = true) (k40 : PySem.W.keepIn K (.ref f40) = true)
    (i41 : PySem.W.findIn K (.ref cHigh) "__init__" = some (some (.ref f41))) (if41 : PySem.W.isFn K (.ref f41) = true) (im41 : PySem.W.makesIn K cHigh = true) (ik41 : PySem.W.keepIn K (.ref cHigh) = true) (l41 : K.lookup f41 = some ⟨oc41, od41, .func (PySem.W.fnOf "__init__" "High.__init__" (defArgs s_High___init___High) (defBody s_High___init___High) (defScope s_High___init___High) .none kV41 dc41 pm41 an41 cd41 ct41), sl41⟩) (c41 : PySem.W.codeIn K cd41 "High.__init__" = true) (k41 : PySem.W.keepIn K (.ref f41) = true)
    (b_s42 : PySem.W.specialIn K (.ref cWay) "__getattribute__" = some (some (.builtin "type.__getattribute__"))) (b_r42 : PySem.W.readsIn K cWay (.type "type") = true) (b_a42 : PySem.W.findCls K (.ref cWay) (.type "type") "__init__" = some (.val (.ref f42))) (l42 : K.lookup f42 = some ⟨oc42, od42, .func (PySem.W.fnOf "__init__" "Way.__init__" (defArgs s_Way___init___High) (defBody s_Way___init___High) (defScope s_Way___init___High) .none kV42 dc42 pm42 an42 cd42 ct42), sl42⟩) (c42 : PySem.W.codeIn K cd42 "Way.__init__" = true) (k42 : PySem.W.keepIn K (.ref f42) = true)
    (i43 : PySem.W.findIn K (.ref cSum) "__init__" = some (some (.ref f43))) (if43 : PySem.W.isFn K (.ref f43) = true) (im43 : PySem.W.makesIn K cSum = true) (ik43 : PySem.W.keepIn K (.ref cSum) = true) (l43 : K.lookup f43 = some ⟨oc43, od43, .func (PySem.W.fnOf "__init__" "Sum.__init__" (defArgs s_Sum___init___Sum) (defBody s_Sum___init___Sum) (defScope s_Sum___init___Sum) .none kV43 dc43 pm43 an43 cd43 ct43), sl43⟩) (c43 : PySem.W.codeIn K cd43 "Sum.__init__" = true) (k43 : PySem.W.keepIn K (.ref f43) = true)
    (b_s44 : PySem.W.specialIn K (.ref cWay) "__getattribute__" = some (some (.builtin "type.__getattribute__"))) (b_r44 : PySem.W.readsIn K cWay (.type "type") = true) (b_a44 : PySem.W.findCls K (.ref cWay) (.type "type") "__init__" = some (.val (.ref f44))) (l44 : K.lookup f44 = some ⟨oc44, od44, .func (PySem.W.fnOf "__init__" "Way.__init__" (defArgs s_Way___init___Sum) (defBody s_Way___init___Sum) (defScope s_Way___init___Sum) .none kV44 dc44 pm44 an44 cd44 ct44), sl44⟩) (c44 : PySem.W.codeIn K cd44 "Way.__init__" = true) (k44 : PySem.W.keepIn K (.ref f44) = true)
    (m45 : PySem.W.findIn K (.ref cNumbers) "has_code" = some (some (.ref f45))) (mf45 : PySem.W.isFn K (.ref f45) = true) (l45 : K.lookup f45 = some ⟨oc45, od45, .func (PySem.W.fnOf "has_code" "Domain.has_code" (defArgs s_Domain_has_code_Numbers) (defBody s_Domain_has_code_Numbers) (defScope s_Domain_has_code_Numbers) .none kV45 dc45 pm45 an45 cd45 ct45), sl45⟩) (c45 : PySem.W.codeIn K cd45 "Domain.has_code" = true) (k45 : PySem.W.keepIn K (.ref f45) = true)
    (m46 : PySem.W.findIn K (.ref cWords) "has_code" = some (some (.ref f46))) (mf46 : PySem.W.isFn K (.ref f46) = true) (l46 : K.lookup f46 = some ⟨oc46, od46, .func (PySem.W.fnOf "has_code" "Domain.has_code" (defArgs s_Domain_has_code_Words) (defBody s_Domain_has_code_Words) (defScope s_Domain_has_code_Words) .none kV46 dc46 pm46 an46 cd46 ct46), sl46⟩) (c46 : PySem.W.codeIn K cd46 "Domain.has_code" = true) (k46 : PySem.W.keepIn K (.ref f46) = true)
    (i47 : PySem.W.findIn K (.ref cNumbers) "__init__" = some (some (.ref f47))) (if47 : PySem.W.isFn K (.ref f47) = true) (im47 : PySem.W.makesIn K cNumbers = true) (ik47 : PySem.W.keepIn K (.ref cNumbers) = true) (l47 : K.lookup f47 = some ⟨oc47, od47, .func (PySem.W.fnOf "__init__" "Numbers.__init__" (defArgs s_Numbers___init___Numbers) (defBody s_Numbers___init___Numbers) (defScope s_Numbers___init___Numbers) .none kV47 dc47 pm47 an47 cd47 ct47), sl47⟩) (c47 : PySem.W.codeIn K cd47 "Numbers.__init__" = true) (k47 : PySem.W.keepIn K (.ref f47) = true)
    (b_s48 : PySem.W.specialIn K (.ref cDomain) "__getattribute__" = some (some (.builtin "type.__getattribute__"))) (b_r48 : PySem.W.readsIn K cDomain (.type "type") = true) (b_a48 : PySem.W.findCls K (.ref cDomain) (.type "type") "__init__" = some (.val (.ref f48))) (l48 : K.lookup f48 = some ⟨oc48, od48, .func (PySem.W.fnOf "__init__" "Domain.__init__" (defArgs s_Domain___init___Numbers) (defBody s_Domain___init___Numbers) (defScope s_Domain___init___Numbers) .none kV48 dc48 pm48 an48 cd48 ct48), sl48⟩) (c48 : PySem.W.codeIn K cd48 "Domain.__init__" = true) (k48 : PySem.W.keepIn K (.ref f48) = true)
    (i49 : PySem.W.findIn K (.ref cWords) "__init__" = some (some (.ref f49))) (if49 : PySem.W.isFn K (.ref f49) = true) (im49 : PySem.W.makesIn K cWords = true) (ik49 : PySem.W.keepIn K (.ref cWords) = true) (l49 : K.lookup f49 = some ⟨oc49, od49, .func (PySem.W.fnOf "__init__" "Words.__init__" (defArgs s_Words___init___Words) (defBody s_Words___init___Words) (defScope s_Words___init___Words) .none kV49 dc49 pm49 an49 cd49 ct49), sl49⟩) (c49 : PySem.W.codeIn K cd49 "Words.__init__" = true) (k49 : PySem.W.keepIn K (.ref f49) = true)
    (b_s50 : PySem.W.specialIn K (.ref cDomain) "__getattribute__" = some (some (.builtin "type.__getattribute__"))) (b_r50 : PySem.W.readsIn K cDomain (.type "type") = true) (b_a50 : PySem.W.findCls K (.ref cDomain) (.type "type") "__init__" = some (.val (.ref f50))) (l50 : K.lookup f50 = some ⟨oc50, od50, .func (PySem.W.fnOf "__init__" "Domain.__init__" (defArgs s_Domain___init___Words) (defBody s_Domain___init___Words) (defScope s_Domain___init___Words) .none kV50 dc50 pm50 an50 cd50 ct50), sl50⟩) (c50 : PySem.W.codeIn K cd50 "Domain.__init__" = true) (k50 : PySem.W.keepIn K (.ref f50) = true)
    (m51 : PySem.W.findIn K (.ref cNumbers) "written" = some (some (.ref f51))) (mf51 : PySem.W.isFn K (.ref f51) = true) (l51 : K.lookup f51 = some ⟨oc51, od51, .func (PySem.W.fnOf "written" "Numbers.written" (defArgs s_Numbers_written_Numbers) (defBody s_Numbers_written_Numbers) (defScope s_Numbers_written_Numbers) .none kV51 dc51 pm51 an51 cd51 ct51), sl51⟩) (c51 : PySem.W.codeIn K cd51 "Numbers.written" = true) (k51 : PySem.W.keepIn K (.ref f51) = true)
    (m52 : PySem.W.findIn K (.ref cWords) "written" = some (some (.ref f52))) (mf52 : PySem.W.isFn K (.ref f52) = true) (l52 : K.lookup f52 = some ⟨oc52, od52, .func (PySem.W.fnOf "written" "Words.written" (defArgs s_Words_written_Words) (defBody s_Words_written_Words) (defScope s_Words_written_Words) .none kV52 dc52 pm52 an52 cd52 ct52), sl52⟩) (c52 : PySem.W.codeIn K cd52 "Words.written" = true) (k52 : PySem.W.keepIn K (.ref f52) = true)
    (m53 : PySem.W.findIn K (.ref cNumbers) "worth" = some (some (.ref f53))) (mf53 : PySem.W.isFn K (.ref f53) = true) (l53 : K.lookup f53 = some ⟨oc53, od53, .func (PySem.W.fnOf "worth" "Domain.worth" (defArgs s_Domain_worth_Numbers) (defBody s_Domain_worth_Numbers) (defScope s_Domain_worth_Numbers) .none kV53 dc53 pm53 an53 cd53 ct53), sl53⟩) (c53 : PySem.W.codeIn K cd53 "Domain.worth" = true) (k53 : PySem.W.keepIn K (.ref f53) = true)
    (m54 : PySem.W.findIn K (.ref cNumbers) "value_at" = some (some (.ref f54))) (mf54 : PySem.W.isFn K (.ref f54) = true) (l54 : K.lookup f54 = some ⟨oc54, od54, .func (PySem.W.fnOf "value_at" "Numbers.value_at" (defArgs s_Numbers_value_at_Numbers) (defBody s_Numbers_value_at_Numbers) (defScope s_Numbers_value_at_Numbers) .none kV54 dc54 pm54 an54 cd54 ct54), sl54⟩) (c54 : PySem.W.codeIn K cd54 "Numbers.value_at" = true) (k54 : PySem.W.keepIn K (.ref f54) = true)
    (m55 : PySem.W.findIn K (.ref cWords) "worth" = some (some (.ref f55))) (mf55 : PySem.W.isFn K (.ref f55) = true) (l55 : K.lookup f55 = some ⟨oc55, od55, .func (PySem.W.fnOf "worth" "Domain.worth" (defArgs s_Domain_worth_Words) (defBody s_Domain_worth_Words) (defScope s_Domain_worth_Words) .none kV55 dc55 pm55 an55 cd55 ct55), sl55⟩) (c55 : PySem.W.codeIn K cd55 "Domain.worth" = true) (k55 : PySem.W.keepIn K (.ref f55) = true)
    (m56 : PySem.W.findIn K (.ref cWords) "value_at" = some (some (.ref f56))) (mf56 : PySem.W.isFn K (.ref f56) = true) (l56 : K.lookup f56 = some ⟨oc56, od56, .func (PySem.W.fnOf "value_at" "Words.value_at" (defArgs s_Words_value_at_Words) (defBody s_Words_value_at_Words) (defScope s_Words_value_at_Words) .none kV56 dc56 pm56 an56 cd56 ct56), sl56⟩) (c56 : PySem.W.codeIn K cd56 "Words.value_at" = true) (k56 : PySem.W.keepIn K (.ref f56) = true)
    (m57 : PySem.W.findIn K (.ref cNumbers) "whole" = some (some (.ref f57))) (mf57 : PySem.W.isFn K (.ref f57) = true) (l57 : K.lookup f57 = some ⟨oc57, od57, .func (PySem.W.fnOf "whole" "Domain.whole" (defArgs s_Domain_whole_Numbers) (defBody s_Domain_whole_Numbers) (defScope s_Domain_whole_Numbers) .none kV57 dc57 pm57 an57 cd57 ct57), sl57⟩) (c57 : PySem.W.codeIn K cd57 "Domain.whole" = true) (k57 : PySem.W.keepIn K (.ref f57) = true)
    (m58 : PySem.W.findIn K (.ref cWords) "whole" = some (some (.ref f58))) (mf58 : PySem.W.isFn K (.ref f58) = true) (l58 : K.lookup f58 = some ⟨oc58, od58, .func (PySem.W.fnOf "whole" "Domain.whole" (defArgs s_Domain_whole_Words) (defBody s_Domain_whole_Words) (defScope s_Domain_whole_Words) .none kV58 dc58 pm58 an58 cd58 ct58), sl58⟩) (c58 : PySem.W.codeIn K cd58 "Domain.whole" = true) (k58 : PySem.W.keepIn K (.ref f58) = true)
    (a59 : PySem.W.nsIn K mainGlobals "law" = some (some (.ref f59))) (l59 : K.lookup f59 = some ⟨oc59, od59, .func (PySem.W.fnOf "law" "law" (defArgs s_law) (defBody s_law) (defScope s_law) .none kV59 dc59 pm59 an59 cd59 ct59), sl59⟩) (c59 : PySem.W.codeIn K cd59 "law" = true) (k59 : PySem.W.keepIn K (.ref f59) = true)
    (z0 : PySem.W.nsIn K mainGlobals "len" = some none)
    (z1 : PySem.W.nsIn K mainGlobals "str" = some none)
    (z2 : PySem.W.nsIn K mainGlobals "isinstance" = some none)
    (z3 : PySem.W.nsIn K mainGlobals "int" = some none)
    (z4 : PySem.W.nsIn K mainGlobals "bool" = some none)
    (z5 : PySem.W.nsIn K mainGlobals "set" = some none)
    (z6 : PySem.W.nsIn K mainGlobals "zip" = some none)
    (z7 : PySem.W.nsIn K mainGlobals "list" = some none)
    (z8 : PySem.W.nsIn K mainGlobals "range" = some none)
    (z9 : PySem.W.nsIn K mainGlobals "min" = some none)
    (z10 : PySem.W.nsIn K mainGlobals "max" = some none)
    {w0 : Value} (y0 : PySem.W.nsIn K mainGlobals "MOST_SIGNS" = some (some w0)) (x0 : RelV (V.int 12) w0)
    {w1 : Value} (y1 : PySem.W.nsIn K mainGlobals "SMALL_LETTERS" = some (some w1)) (x1 : RelV (V.str "abcdefghijklmnopqrstuvwxyz") w1)
    {w2 : Value} (y2 : PySem.W.nsIn K mainGlobals "ALL" = some (some w2)) (x2 : RelV (V.str "-") w2)
    {w3 : Value} (y3 : PySem.W.nsIn K mainGlobals "NOT" = some (some w3)) (x3 : RelV (V.str "not ") w3)
    {w4 : Value} (y4 : PySem.W.nsIn K mainGlobals "UP_TO" = some (some w4)) (x4 : RelV (V.str "..") w4)
    {w5 : Value} (y5 : PySem.W.nsIn K mainGlobals "MOST_ROWS" = some (some w5)) (x5 : RelV (V.int 200) w5)
    {w6 : Value} (y6 : PySem.W.nsIn K mainGlobals "MOST_COLUMNS" = some (some w6)) (x6 : RelV (V.int 4) w6)
    {w7 : Value} (y7 : PySem.W.nsIn K mainGlobals "BETWEEN_NAMES" = some (some w7)) (x7 : RelV (V.str ", ") w7)
    {w8 : Value} (y8 : PySem.W.nsIn K mainGlobals "BY" = some (some w8)) (x8 : RelV (V.str " by ") w8)
    {w9 : Value} (y9 : PySem.W.nsIn K mainGlobals "TO" = some (some w9)) (x9 : RelV (V.str " -> ") w9)
    {w10 : Value} (y10 : PySem.W.nsIn K mainGlobals "NAMED" = some (some w10)) (x10 : RelV (V.str ": ") w10)
    {w11 : Value} (y11 : PySem.W.nsIn K mainGlobals "TABLE" = some (some w11)) (x11 : RelV (V.str "table ") w11)
    {w12 : Value} (y12 : PySem.W.nsIn K mainGlobals "WHEN" = some (some w12)) (x12 : RelV (V.str "when ") w12)
    {w13 : Value} (y13 : PySem.W.nsIn K mainGlobals "BETWEEN_FIELDS" = some (some w13)) (x13 : RelV (V.str " | ") w13)
    {w14 : Value} (y14 : PySem.W.nsIn K mainGlobals "MOST_WORDS" = some (some w14)) (x14 : RelV (V.int 40) w14)
    (pg_First : PySem.W.plainGet K cFirst Str.empty = true) (hd_First : PySem.W.hasDictIn K cFirst = true) (po_First : PySem.W.plainOver K cFirst = true) (sa_First : PySem.W.findIn K (.ref cFirst) "__setattr__" = some (some (.builtin "object.__setattr__")))
    (pg_Only : PySem.W.plainGet K cOnly Str.empty = true) (hd_Only : PySem.W.hasDictIn K cOnly = true) (po_Only : PySem.W.plainOver K cOnly = true) (sa_Only : PySem.W.findIn K (.ref cOnly) "__setattr__" = some (some (.builtin "object.__setattr__")))
    (pg_Like : PySem.W.plainGet K cLike Str.empty = true) (hd_Like : PySem.W.hasDictIn K cLike = true) (po_Like : PySem.W.plainOver K cLike = true) (sa_Like : PySem.W.findIn K (.ref cLike) "__setattr__" = some (some (.builtin "object.__setattr__")))
    (pg_Low : PySem.W.plainGet K cLow Str.empty = true) (hd_Low : PySem.W.hasDictIn K cLow = true) (po_Low : PySem.W.plainOver K cLow = true) (sa_Low : PySem.W.findIn K (.ref cLow) "__setattr__" = some (some (.builtin "object.__setattr__")))
    (pg_High : PySem.W.plainGet K cHigh Str.empty = true) (hd_High : PySem.W.hasDictIn K cHigh = true) (po_High : PySem.W.plainOver K cHigh = true) (sa_High : PySem.W.findIn K (.ref cHigh) "__setattr__" = some (some (.builtin "object.__setattr__")))
    (pg_Sum : PySem.W.plainGet K cSum Str.empty = true) (hd_Sum : PySem.W.hasDictIn K cSum = true) (po_Sum : PySem.W.plainOver K cSum = true) (sa_Sum : PySem.W.findIn K (.ref cSum) "__setattr__" = some (some (.builtin "object.__setattr__")))
    (pg_Numbers : PySem.W.plainGet K cNumbers Str.empty = true) (hd_Numbers : PySem.W.hasDictIn K cNumbers = true) (po_Numbers : PySem.W.plainOver K cNumbers = true) (sa_Numbers : PySem.W.findIn K (.ref cNumbers) "__setattr__" = some (some (.builtin "object.__setattr__")))
    (pg_Words : PySem.W.plainGet K cWords Str.empty = true) (hd_Words : PySem.W.hasDictIn K cWords = true) (po_Words : PySem.W.plainOver K cWords = true) (sa_Words : PySem.W.findIn K (.ref cWords) "__setattr__" = some (some (.builtin "object.__setattr__")))
    (pg_Table : PySem.W.plainGet K cTable Str.empty = true) (hd_Table : PySem.W.hasDictIn K cTable = true) (po_Table : PySem.W.plainOver K cTable = true) (sa_Table : PySem.W.findIn K (.ref cTable) "__setattr__" = some (some (.builtin "object.__setattr__")))
    (ta_First : PySem.W.findIn K (.ref cFirst) "__class__" = some (some (.builtin "object.__class__"))) (tn_First : PySem.W.specialIn K (.builtin "object.__class__") "__get__" = some (some (.builtin "getset_descriptor.__get__"))) (tt_First : PySem.W.takesIn K (.builtin "object.__class__") = some true) (tm_First : PySem.W.mroIn K cFirst (.type "object") = some true)
    (ta_Only : PySem.W.findIn K (.ref cOnly) "__class__" = some (some (.builtin "object.__class__"))) (tn_Only : PySem.W.specialIn K (.builtin "object.__class__") "__get__" = some (some (.builtin "getset_descriptor.__get__"))) (tt_Only : PySem.W.takesIn K (.builtin "object.__class__") = some true) (tm_Only : PySem.W.mroIn K cOnly (.type "object") = some true)
    (ta_Like : PySem.W.findIn K (.ref cLike) "__class__" = some (some (.builtin "object.__class__"))) (tn_Like : PySem.W.specialIn K (.builtin "object.__class__") "__get__" = some (some (.builtin "getset_descriptor.__get__"))) (tt_Like : PySem.W.takesIn K (.builtin "object.__class__") = some true) (tm_Like : PySem.W.mroIn K cLike (.type "object") = some true)
    (ta_Low : PySem.W.findIn K (.ref cLow) "__class__" = some (some (.builtin "object.__class__"))) (tn_Low : PySem.W.specialIn K (.builtin "object.__class__") "__get__" = some (some (.builtin "getset_descriptor.__get__"))) (tt_Low : PySem.W.takesIn K (.builtin "object.__class__") = some true) (tm_Low : PySem.W.mroIn K cLow (.type "object") = some true)
    (ta_High : PySem.W.findIn K (.ref cHigh) "__class__" = some (some (.builtin "object.__class__"))) (tn_High : PySem.W.specialIn K (.builtin "object.__class__") "__get__" = some (some (.builtin "getset_descriptor.__get__"))) (tt_High : PySem.W.takesIn K (.builtin "object.__class__") = some true) (tm_High : PySem.W.mroIn K cHigh (.type "object") = some true)
    (ta_Sum : PySem.W.findIn K (.ref cSum) "__class__" = some (some (.builtin "object.__class__"))) (tn_Sum : PySem.W.specialIn K (.builtin "object.__class__") "__get__" = some (some (.builtin "getset_descriptor.__get__"))) (tt_Sum : PySem.W.takesIn K (.builtin "object.__class__") = some true) (tm_Sum : PySem.W.mroIn K cSum (.type "object") = some true)
    (ta_Numbers : PySem.W.findIn K (.ref cNumbers) "__class__" = some (some (.builtin "object.__class__"))) (tn_Numbers : PySem.W.specialIn K (.builtin "object.__class__") "__get__" = some (some (.builtin "getset_descriptor.__get__"))) (tt_Numbers : PySem.W.takesIn K (.builtin "object.__class__") = some true) (tm_Numbers : PySem.W.mroIn K cNumbers (.type "object") = some true)
    (ta_Words : PySem.W.findIn K (.ref cWords) "__class__" = some (some (.builtin "object.__class__"))) (tn_Words : PySem.W.specialIn K (.builtin "object.__class__") "__get__" = some (some (.builtin "getset_descriptor.__get__"))) (tt_Words : PySem.W.takesIn K (.builtin "object.__class__") = some true) (tm_Words : PySem.W.mroIn K cWords (.type "object") = some true)
    (ta_Table : PySem.W.findIn K (.ref cTable) "__class__" = some (some (.builtin "object.__class__"))) (tn_Table : PySem.W.specialIn K (.builtin "object.__class__") "__get__" = some (some (.builtin "getset_descriptor.__get__"))) (tt_Table : PySem.W.takesIn K (.builtin "object.__class__") = some true) (tm_Table : PySem.W.mroIn K cTable (.type "object") = some true)
    (na_First_called : PySem.W.findIn K (.ref cFirst) "called" = some none)
    (na_Only_called : PySem.W.findIn K (.ref cOnly) "called" = some none)
    (na_Like_called : PySem.W.findIn K (.ref cLike) "called" = some none)
    (na_Low_called : PySem.W.findIn K (.ref cLow) "called" = some none)
    (na_High_called : PySem.W.findIn K (.ref cHigh) "called" = some none)
    (na_Sum_called : PySem.W.findIn K (.ref cSum) "called" = some none)
    (na_Numbers_low : PySem.W.findIn K (.ref cNumbers) "low" = some none)
    (na_Numbers_high : PySem.W.findIn K (.ref cNumbers) "high" = some none)
    (na_Numbers_words : PySem.W.findIn K (.ref cNumbers) "words" = some none)
    (na_Words_low : PySem.W.findIn K (.ref cWords) "low" = some none)
    (na_Words_high : PySem.W.findIn K (.ref cWords) "high" = some none)
    (na_Words_words : PySem.W.findIn K (.ref cWords) "words" = some none)
    (na_Table_name : PySem.W.findIn K (.ref cTable) "name" = some none)
    (na_Table_names : PySem.W.findIn K (.ref cTable) "names" = some none)
    (na_Table_domains : PySem.W.findIn K (.ref cTable) "domains" = some none)
    (na_Table_outcome : PySem.W.findIn K (.ref cTable) "outcome" = some none)
    (na_Table_way : PySem.W.findIn K (.ref cTable) "way" = some none)
    (na_Table_rows : PySem.W.findIn K (.ref cTable) "rows" = some none)
    (f_nn : PySem.W.kitOne K (.ref cNumbers) (.ref cNumbers) = some true)
    (f_wn : PySem.W.kitOne K (.ref cWords) (.ref cNumbers) = some false)
    (f_ww : PySem.W.kitOne K (.ref cWords) (.ref cWords) = some true)
    (f_tt : PySem.W.kitOne K (.ref cTable) (.ref cTable) = some true)
    (f_nw : PySem.W.kitOne K (.ref cNumbers) (.ref cWords) = some false)
    : ∃ fd : FuncData, (∀ (s : Shared) (v : Value), BindsTo s fd ⟨[v], []⟩ [("script", v)]) ∧ ∀ base : Heap, K.In base → base.Ns mainGlobals mg → FnOk l.prog w K mg base CX0 9 fa fd ["script"] (sp_law K) := by
  have e := hfa.symm.trans (PySem.W.mg_of X G a59)
  cases e
  have F0 := fun_mk (st := s_all_among) l0 c0 k0
  have b0 := F0.binds (ps := ["text", "signs"]) fun _ _ _ _ _ _ us hl => match us, hl with | [_, _], _ => rfl
  have F1 := fun_mk (st := s_is_word) l1 c1 k1
  have b1 := F1.binds (ps := ["text"]) fun _ _ _ _ _ _ us hl => match us, hl with | [_], _ => rfl
  have F2 := fun_mk (st := s_number_text) l2 c2 k2
  have b2 := F2.binds (ps := ["number"]) fun _ _ _ _ _ _ us hl => match us, hl with | [_], _ => rfl
  have F3 := fun_mk (st := s_is_whole) l3 c3 k3
  have b3 := F3.binds (ps := ["value"]) fun _ _ _ _ _ _ us hl => match us, hl with | [_], _ => rfl
  have F4 := fun_mk (st := s_show_cell) l4 c4 k4
  have b4 := F4.binds (ps := ["domain", "spans"]) fun _ _ _ _ _ _ us hl => match us, hl with | [_, _], _ => rfl
  have F5 := fun_mk (st := s_words_of) l5 c5 k5
  have b5 := F5.binds (ps := ["domain", "spans"]) fun _ _ _ _ _ _ us hl => match us, hl with | [_, _], _ => rfl
  have F6 := fun_mk (st := s_show_range) l6 c6 k6
  have b6 := F6.binds (ps := ["domain", "low", "high"]) fun _ _ _ _ _ _ us hl => match us, hl with | [_, _, _], _ => rfl
  have F7 := fun_mk (st := s_show_value) l7 c7 k7
  have b7 := F7.binds (ps := ["domain", "code"]) fun _ _ _ _ _ _ us hl => match us, hl with | [_, _], _ => rfl
  have F8 := fun_mk (st := s_way_by) l8 c8 k8
  have b8 := F8.binds (ps := ["name"]) fun _ _ _ _ _ _ us hl => match us, hl with | [_], _ => rfl
  have F9 := fun_mk (st := s_refuse_names) l9 c9 k9
  have b9 := F9.binds (ps := ["names"]) fun _ _ _ _ _ _ us hl => match us, hl with | [_], _ => rfl
  have F10 := fun_mk (st := s_refuse_counts) l10 c10 k10
  have b10 := F10.binds (ps := ["names", "rows"]) fun _ _ _ _ _ _ us hl => match us, hl with | [_, _], _ => rfl
  have F11 := fun_mk (st := s_refuse_way) l11 c11 k11
  have b11 := F11.binds (ps := ["way", "outcome"]) fun _ _ _ _ _ _ us hl => match us, hl with | [_, _], _ => rfl
  have F12 := fun_mk (st := s_refuse_row) l12 c12 k12
  have b12 := F12.binds (ps := ["domains", "outcome", "cells", "code"]) fun _ _ _ _ _ _ us hl => match us, hl with | [_, _, _, _], _ => rfl
  have F13 := fun_mk (st := s_own_row) l13 c13 k13
  have b13 := F13.binds (ps := ["cells", "code"]) fun _ _ _ _ _ _ us hl => match us, hl with | [_, _], _ => rfl
  have F14 := fun_mk (st := s_head_text) l14 c14 k14
  have b14 := F14.binds (ps := ["table"]) fun _ _ _ _ _ _ us hl => match us, hl with | [_], _ => rfl
  have F15 := fun_mk (st := s_row_text) l15 c15 k15
  have b15 := F15.binds (ps := ["table", "k"]) fun _ _ _ _ _ _ us hl => match us, hl with | [_, _], _ => rfl
  have F16 := fun_mk (st := s_fields_text) l16 c16 k16
  have b16 := F16.binds (ps := ["domains", "cells"]) fun _ _ _ _ _ _ us hl => match us, hl with | [_, _], _ => rfl
  have F17 := fun_mk (st := s_law_at) l17 c17 k17
  have b17 := F17.binds (ps := ["script", "k"]) fun _ _ _ _ _ _ us hl => match us, hl with | [_, _], _ => rfl
  have F18 := fun_mk (st := s_law_words) l18 c18 k18
  have b18 := F18.binds (ps := ["cell", "count"]) fun _ _ _ _ _ _ us hl => match us, hl with | [_, _], _ => rfl
  have F19 := fun_mk (st := s_law_domain) l19 c19 k19
  have b19 := F19.binds (ps := ["cell"]) fun _ _ _ _ _ _ us hl => match us, hl with | [_], _ => rfl
  have F20 := fun_mk (st := s_law_pool) l20 c20 k20
  have b20 := F20.binds (ps := ["domain", "cell"]) fun _ _ _ _ _ _ us hl => match us, hl with | [_, _], _ => rfl
  have F21 := fun_mk (st := s_law_spans) l21 c21 k21
  have b21 := F21.binds (ps := ["kind", "one", "two", "domain"]) fun _ _ _ _ _ _ us hl => match us, hl with | [_, _, _, _], _ => rfl
  have F22 := fun_mk (st := s_law_row) l22 c22 k22
  have b22 := F22.binds (ps := ["columns", "domains", "pools", "own", "cell"]) fun _ _ _ _ _ _ us hl => match us, hl with | [_, _, _, _, _], _ => rfl
  have F23 := fun_mk (st := s_law_book) l23 c23 k23
  have b23 := F23.binds (ps := ["script"]) fun _ _ _ _ _ _ us hl => match us, hl with | [_], _ => rfl
  have F24 := fun_mk (st := s_law_made) l24 c24 k24
  have b24 := F24.binds (ps := ["domain"]) fun _ _ _ _ _ _ us hl => match us, hl with | [_], _ => rfl
  have F25 := fun_mk (st := s_law_table) l25 c25 k25
  have b25 := F25.binds (ps := ["plan", "k"]) fun _ _ _ _ _ _ us hl => match us, hl with | [_, _], _ => rfl
  have F26 := fun_mk (st := s_law_domain_text) l26 c26 k26
  have b26 := F26.binds (ps := ["domain"]) fun _ _ _ _ _ _ us hl => match us, hl with | [_], _ => rfl
  have F27 := fun_mk (st := s_law_part_text) l27 c27 k27
  have b27 := F27.binds (ps := ["domain", "pair"]) fun _ _ _ _ _ _ us hl => match us, hl with | [_, _], _ => rfl
  have F28 := fun_mk (st := s_law_field) l28 c28 k28
  have b28 := F28.binds (ps := ["domain", "spans"]) fun _ _ _ _ _ _ us hl => match us, hl with | [_, _], _ => rfl
  have F29 := fun_mk (st := s_law_value) l29 c29 k29
  have b29 := F29.binds (ps := ["domain", "code"]) fun _ _ _ _ _ _ us hl => match us, hl with | [_, _], _ => rfl
  have F30 := fun_mk (st := s_law_head) l30 c30 k30
  have b30 := F30.binds (ps := ["plan", "k"]) fun _ _ _ _ _ _ us hl => match us, hl with | [_, _], _ => rfl
  have F31 := fun_mk (st := s_law_when) l31 c31 k31
  have b31 := F31.binds (ps := ["plan", "k", "row"]) fun _ _ _ _ _ _ us hl => match us, hl with | [_, _, _], _ => rfl
  have F32 := fun_mk (st := s_Table___init___Table) l32 c32 k32
  have b32 := F32.binds (ps := ["self", "name", "names", "domains", "outcome", "way", "rows"]) fun _ _ _ _ _ _ us hl => match us, hl with | [_, _, _, _, _, _, _], _ => rfl
  have F33 := fun_mk (st := s_First___init___First) l33 c33 k33
  have b33 := F33.binds (ps := ["self"]) fun _ _ _ _ _ _ us hl => match us, hl with | [_], _ => rfl
  have F34 := fun_mk (st := s_Way___init___First) l34 c34 k34
  have b34 := F34.binds (ps := ["self", "called"]) fun _ _ _ _ _ _ us hl => match us, hl with | [_, _], _ => rfl
  have F35 := fun_mk (st := s_Only___init___Only) l35 c35 k35
  have b35 := F35.binds (ps := ["self"]) fun _ _ _ _ _ _ us hl => match us, hl with | [_], _ => rfl
  have F36 := fun_mk (st := s_Way___init___Only) l36 c36 k36
  have b36 := F36.binds (ps := ["self", "called"]) fun _ _ _ _ _ _ us hl => match us, hl with | [_, _], _ => rfl
  have F37 := fun_mk (st := s_Like___init___Like) l37 c37 k37
  have b37 := F37.binds (ps := ["self"]) fun _ _ _ _ _ _ us hl => match us, hl with | [_], _ => rfl
  have F38 := fun_mk (st := s_Way___init___Like) l38 c38 k38
  have b38 := F38.binds (ps := ["self", "called"]) fun _ _ _ _ _ _ us hl => match us, hl with | [_, _], _ => rfl
  have F39 := fun_mk (st := s_Low___init___Low) l39 c39 k39
  have b39 := F39.binds (ps := ["self"]) fun _ _ _ _ _ _ us hl => match us, hl with | [_], _ => rfl
  have F40 := fun_mk (st := s_Way___init___Low) l40 c40 k40
  have b40 := F40.binds (ps := ["self", "called"]) fun _ _ _ _ _ _ us hl => match us, hl with | [_, _], _ => rfl
  have F41 := fun_mk (st := s_High___init___High) l41 c41 k41
  have b41 := F41.binds (ps := ["self"]) fun _ _ _ _ _ _ us hl => match us, hl with | [_], _ => rfl
  have F42 := fun_mk (st := s_Way___init___High) l42 c42 k42
  have b42 := F42.binds (ps := ["self", "called"]) fun _ _ _ _ _ _ us hl => match us, hl with | [_, _], _ => rfl
  have F43 := fun_mk (st := s_Sum___init___Sum) l43 c43 k43
  have b43 := F43.binds (ps := ["self"]) fun _ _ _ _ _ _ us hl => match us, hl with | [_], _ => rfl
  have F44 := fun_mk (st := s_Way___init___Sum) l44 c44 k44
  have b44 := F44.binds (ps := ["self", "called"]) fun _ _ _ _ _ _ us hl => match us, hl with | [_, _], _ => rfl
  have F45 := fun_mk (st := s_Domain_has_code_Numbers) l45 c45 k45
  have b45 := F45.binds (ps := ["self", "value"]) fun _ _ _ _ _ _ us hl => match us, hl with | [_, _], _ => rfl
  have F46 := fun_mk (st := s_Domain_has_code_Words) l46 c46 k46
  have b46 := F46.binds (ps := ["self", "value"]) fun _ _ _ _ _ _ us hl => match us, hl with | [_, _], _ => rfl
  have F47 := fun_mk (st := s_Numbers___init___Numbers) l47 c47 k47
  have b47 := F47.binds (ps := ["self", "low", "high"]) fun _ _ _ _ _ _ us hl => match us, hl with | [_, _, _], _ => rfl
  have F48 := fun_mk (st := s_Domain___init___Numbers) l48 c48 k48
  have b48 := F48.binds (ps := ["self", "low", "high"]) fun _ _ _ _ _ _ us hl => match us, hl with | [_, _, _], _ => rfl
  have F49 := fun_mk (st := s_Words___init___Words) l49 c49 k49
  have b49 := F49.binds (ps := ["self", "words"]) fun _ _ _ _ _ _ us hl => match us, hl with | [_, _], _ => rfl
  have F50 := fun_mk (st := s_Domain___init___Words) l50 c50 k50
  have b50 := F50.binds (ps := ["self", "low", "high"]) fun _ _ _ _ _ _ us hl => match us, hl with | [_, _, _], _ => rfl
  have F51 := fun_mk (st := s_Numbers_written_Numbers) l51 c51 k51
  have b51 := F51.binds (ps := ["self"]) fun _ _ _ _ _ _ us hl => match us, hl with | [_], _ => rfl
  have F52 := fun_mk (st := s_Words_written_Words) l52 c52 k52
  have b52 := F52.binds (ps := ["self"]) fun _ _ _ _ _ _ us hl => match us, hl with | [_], _ => rfl
  have F53 := fun_mk (st := s_Domain_worth_Numbers) l53 c53 k53
  have b53 := F53.binds (ps := ["self", "code"]) fun _ _ _ _ _ _ us hl => match us, hl with | [_, _], _ => rfl
  have F54 := fun_mk (st := s_Numbers_value_at_Numbers) l54 c54 k54
  have b54 := F54.binds (ps := ["self", "code"]) fun _ _ _ _ _ _ us hl => match us, hl with | [_, _], _ => rfl
  have F55 := fun_mk (st := s_Domain_worth_Words) l55 c55 k55
  have b55 := F55.binds (ps := ["self", "code"]) fun _ _ _ _ _ _ us hl => match us, hl with | [_, _], _ => rfl
  have F56 := fun_mk (st := s_Words_value_at_Words) l56 c56 k56
  have b56 := F56.binds (ps := ["self", "code"]) fun _ _ _ _ _ _ us hl => match us, hl with | [_, _], _ => rfl
  have F57 := fun_mk (st := s_Domain_whole_Numbers) l57 c57 k57
  have b57 := F57.binds (ps := ["self"]) fun _ _ _ _ _ _ us hl => match us, hl with | [_], _ => rfl
  have F58 := fun_mk (st := s_Domain_whole_Words) l58 c58 k58
  have b58 := F58.binds (ps := ["self"]) fun _ _ _ _ _ _ us hl => match us, hl with | [_], _ => rfl
  have F59 := fun_mk (st := s_law) l59 c59 k59
  have b59 := F59.binds (ps := ["script"]) fun _ _ _ _ _ _ us hl => match us, hl with | [_], _ => rfl
  have bl : Bl K mg cWay cFirst cOnly cLike cLow cHigh cSum cDomain cNumbers cWords cTable := ⟨PySem.W.mg_of X G n_Way, n_Way, PySem.W.mg_of X G n_First, n_First, PySem.W.mg_of X G n_Only, n_Only, PySem.W.mg_of X G n_Like, n_Like, PySem.W.mg_of X G n_Low, n_Low, PySem.W.mg_of X G n_High, n_High, PySem.W.mg_of X G n_Sum, n_Sum, PySem.W.mg_of X G n_Domain, n_Domain, PySem.W.mg_of X G n_Numbers, n_Numbers, PySem.W.mg_of X G n_Words, n_Words, PySem.W.mg_of X G n_Table, n_Table, ⟨pg_First, hd_First, po_First, sa_First⟩, ⟨pg_Only, hd_Only, po_Only, sa_Only⟩, ⟨pg_Like, hd_Like, po_Like, sa_Like⟩, ⟨pg_Low, hd_Low, po_Low, sa_Low⟩, ⟨pg_High, hd_High, po_High, sa_High⟩, ⟨pg_Sum, hd_Sum, po_Sum, sa_Sum⟩, ⟨pg_Numbers, hd_Numbers, po_Numbers, sa_Numbers⟩, ⟨pg_Words, hd_Words, po_Words, sa_Words⟩, ⟨pg_Table, hd_Table, po_Table, sa_Table⟩, ⟨⟨pg_First, hd_First, po_First, sa_First⟩, ta_First, tn_First, tt_First, tm_First⟩, ⟨⟨pg_Only, hd_Only, po_Only, sa_Only⟩, ta_Only, tn_Only, tt_Only, tm_Only⟩, ⟨⟨pg_Like, hd_Like, po_Like, sa_Like⟩, ta_Like, tn_Like, tt_Like, tm_Like⟩, ⟨⟨pg_Low, hd_Low, po_Low, sa_Low⟩, ta_Low, tn_Low, tt_Low, tm_Low⟩, ⟨⟨pg_High, hd_High, po_High, sa_High⟩, ta_High, tn_High, tt_High, tm_High⟩, ⟨⟨pg_Sum, hd_Sum, po_Sum, sa_Sum⟩, ta_Sum, tn_Sum, tt_Sum, tm_Sum⟩, ⟨⟨pg_Numbers, hd_Numbers, po_Numbers, sa_Numbers⟩, ta_Numbers, tn_Numbers, tt_Numbers, tm_Numbers⟩, ⟨⟨pg_Words, hd_Words, po_Words, sa_Words⟩, ta_Words, tn_Words, tt_Words, tm_Words⟩, ⟨⟨pg_Table, hd_Table, po_Table, sa_Table⟩, ta_Table, tn_Table, tt_Table, tm_Table⟩, na_First_called, na_Only_called, na_Like_called, na_Low_called, na_High_called, na_Sum_called, na_Numbers_low, na_Numbers_high, na_Numbers_words, na_Words_low, na_Words_high, na_Words_words, na_Table_name, na_Table_names, na_Table_domains, na_Table_outcome, na_Table_way, na_Table_rows, f_nn, f_wn, f_ww, f_tt, f_nw, PySem.W.mg_none_of X G z0, PySem.W.mg_none_of X G z1, PySem.W.mg_none_of X G z2, PySem.W.mg_none_of X G z3, PySem.W.mg_none_of X G z4, PySem.W.mg_none_of X G z5, PySem.W.mg_none_of X G z6, PySem.W.mg_none_of X G z7, PySem.W.mg_none_of X G z8, PySem.W.mg_none_of X G z9, PySem.W.mg_none_of X G z10, ⟨_, PySem.W.mg_of X G y0, x0⟩, ⟨_, PySem.W.mg_of X G y1, x1⟩, ⟨_, PySem.W.mg_of X G y2, x2⟩, ⟨_, PySem.W.mg_of X G y3, x3⟩, ⟨_, PySem.W.mg_of X G y4, x4⟩, ⟨_, PySem.W.mg_of X G y5, x5⟩, ⟨_, PySem.W.mg_of X G y6, x6⟩, ⟨_, PySem.W.mg_of X G y7, x7⟩, ⟨_, PySem.W.mg_of X G y8, x8⟩, ⟨_, PySem.W.mg_of X G y9, x9⟩, ⟨_, PySem.W.mg_of X G y10, x10⟩, ⟨_, PySem.W.mg_of X G y11, x11⟩, ⟨_, PySem.W.mg_of X G y12, x12⟩, ⟨_, PySem.W.mg_of X G y13, x13⟩, ⟨_, PySem.W.mg_of X G y14, x14⟩⟩
  refine ⟨PySem.W.fnOf "law" "law" (defArgs s_law) (defBody s_law) (defScope s_law) .none kV59 dc59 pm59 an59 cd59 ct59, fun s v => .of_eq rfl, fun base _ _ => ?_⟩
  have O0 := ok_all_among (P := l.prog) (w := w) (base := base) F0 bl 
  have C_all_among : Callee l.prog w K mg base 1 "all_among" ["text", "signs"] (sp_all_among K cWay cFirst cOnly cLike cLow cHigh cSum cDomain cNumbers cWords cTable) := ⟨_, _, O0, b0, k0, PySem.W.mg_of X G a0⟩
  have O2 := ok_number_text (P := l.prog) (w := w) (base := base) F2 bl 
  have C_number_text : Callee l.prog w K mg base 1 "number_text" ["number"] (sp_number_text K cWay cFirst cOnly cLike cLow cHigh cSum cDomain cNumbers cWords cTable) := ⟨_, _, O2, b2, k2, PySem.W.mg_of X G a2⟩
  have O3 := ok_is_whole (P := l.prog) (w := w) (base := base) F3 bl 
  have C_is_whole : Callee l.prog w K mg base 1 "is_whole" ["value"] (sp_is_whole K cWay cFirst cOnly cLike cLow cHigh cSum cDomain cNumbers cWords cTable) := ⟨_, _, O3, b3, k3, PySem.W.mg_of X G a3⟩
  have O5 := ok_words_of (P := l.prog) (w := w) (base := base) F5 bl 
  have C_words_of : Callee l.prog w K mg base 1 "words_of" ["domain", "spans"] (sp_words_of K cWay cFirst cOnly cLike cLow cHigh cSum cDomain cNumbers cWords cTable) := ⟨_, _, O5, b5, k5, PySem.W.mg_of X G a5⟩
  have O10 := ok_refuse_counts (P := l.prog) (w := w) (base := base) F10 bl 
  have C_refuse_counts : Callee l.prog w K mg base 1 "refuse_counts" ["names", "rows"] (sp_refuse_counts K cWay cFirst cOnly cLike cLow cHigh cSum cDomain cNumbers cWords cTable) := ⟨_, _, O10, b10, k10, PySem.W.mg_of X G a10⟩
  have O13 := ok_own_row (P := l.prog) (w := w) (base := base) F13 bl 
  have C_own_row : Callee l.prog w K mg base 1 "own_row" ["cells", "code"] (sp_own_row K cWay cFirst cOnly cLike cLow cHigh cSum cDomain cNumbers cWords cTable) := ⟨_, _, O13, b13, k13, PySem.W.mg_of X G a13⟩
  have O17 := ok_law_at (P := l.prog) (w := w) (base := base) F17 bl 
  have C_law_at : Callee l.prog w K mg base 1 "_law_at" ["script", "k"] (sp_law_at K cWay cFirst cOnly cLike cLow cHigh cSum cDomain cNumbers cWords cTable) := ⟨_, _, O17, b17, k17, PySem.W.mg_of X G a17⟩
  have O18 := ok_law_words (P := l.prog) (w := w) (base := base) F18 bl 
  have C_law_words : Callee l.prog w K mg base 1 "_law_words" ["cell", "count"] (sp_law_words K cWay cFirst cOnly cLike cLow cHigh cSum cDomain cNumbers cWords cTable) := ⟨_, _, O18, b18, k18, PySem.W.mg_of X G a18⟩
  have O20 := ok_law_pool (P := l.prog) (w := w) (base := base) F20 bl 
  have C_law_pool : Callee l.prog w K mg base 1 "_law_pool" ["domain", "cell"] (sp_law_pool K cWay cFirst cOnly cLike cLow cHigh cSum cDomain cNumbers cWords cTable) := ⟨_, _, O20, b20, k20, PySem.W.mg_of X G a20⟩
  have O21 := ok_law_spans (P := l.prog) (w := w) (base := base) F21 bl 
  have C_law_spans : Callee l.prog w K mg base 1 "_law_spans" ["kind", "one", "two", "domain"] (sp_law_spans K cWay cFirst cOnly cLike cLow cHigh cSum cDomain cNumbers cWords cTable) := ⟨_, _, O21, b21, k21, PySem.W.mg_of X G a21⟩
  have O26 := ok_law_domain_text (P := l.prog) (w := w) (base := base) F26 bl 
  have C_law_domain_text : Callee l.prog w K mg base 1 "_law_domain_text" ["domain"] (sp_law_domain_text K cWay cFirst cOnly cLike cLow cHigh cSum cDomain cNumbers cWords cTable) := ⟨_, _, O26, b26, k26, PySem.W.mg_of X G a26⟩
  have O27 := ok_law_part_text (P := l.prog) (w := w) (base := base) F27 bl 
  have C_law_part_text : Callee l.prog w K mg base 1 "_law_part_text" ["domain", "pair"] (sp_law_part_text K cWay cFirst cOnly cLike cLow cHigh cSum cDomain cNumbers cWords cTable) := ⟨_, _, O27, b27, k27, PySem.W.mg_of X G a27⟩
  have O29 := ok_law_value (P := l.prog) (w := w) (base := base) F29 bl 
  have C_law_value : Callee l.prog w K mg base 1 "_law_value" ["domain", "code"] (sp_law_value K cWay cFirst cOnly cLike cLow cHigh cSum cDomain cNumbers cWords cTable) := ⟨_, _, O29, b29, k29, PySem.W.mg_of X G a29⟩
  have O34 := ok_Way___init___First (P := l.prog) (w := w) (base := base) F34 bl 
  have B_Way___init___First : BCallee CX0 l.prog w K mg base 1 "Way" "__init__" ["self", "called"] (sp_Way___init___First K cWay cFirst cOnly cLike cLow cHigh cSum cDomain cNumbers cWords cTable) := ⟨_, _, _, ⟨b_s34, b_r34, b_a34, k34⟩, O34, b34, PySem.W.mg_of X G n_Way⟩
  have O36 := ok_Way___init___Only (P := l.prog) (w := w) (base := base) F36 bl 
  have B_Way___init___Only : BCallee CX0 l.prog w K mg base 1 "Way" "__init__" ["self", "called"] (sp_Way___init___Only K cWay cFirst cOnly cLike cLow cHigh cSum cDomain cNumbers cWords cTable) := ⟨_, _, _, ⟨b_s36, b_r36, b_a36, k36⟩, O36, b36, PySem.W.mg_of X G n_Way⟩
  have O38 := ok_Way___init___Like (P := l.prog) (w := w) (base := base) F38 bl 
  have B_Way___init___Like : BCallee CX0 l.prog w K mg base 1 "Way" "__init__" ["self", "called"] (sp_Way___init___Like K cWay cFirst cOnly cLike cLow cHigh cSum cDomain cNumbers cWords cTable) := ⟨_, _, _, ⟨b_s38, b_r38, b_a38, k38⟩, O38, b38, PySem.W.mg_of X G n_Way⟩
  have O40 := ok_Way___init___Low (P := l.prog) (w := w) (base := base) F40 bl 
  have B_Way___init___Low : BCallee CX0 l.prog w K mg base 1 "Way" "__init__" ["self", "called"] (sp_Way___init___Low K cWay cFirst cOnly cLike cLow cHigh cSum cDomain cNumbers cWords cTable) := ⟨_, _, _, ⟨b_s40, b_r40, b_a40, k40⟩, O40, b40, PySem.W.mg_of X G n_Way⟩
  have O42 := ok_Way___init___High (P := l.prog) (w := w) (base := base) F42 bl 
  have B_Way___init___High : BCallee CX0 l.prog w K mg base 1 "Way" "__init__" ["self", "called"] (sp_Way___init___High K cWay cFirst cOnly cLike cLow cHigh cSum cDomain cNumbers cWords cTable) := ⟨_, _, _, ⟨b_s42, b_r42, b_a42, k42⟩, O42, b42, PySem.W.mg_of X G n_Way⟩
  have O44 := ok_Way___init___Sum (P := l.prog) (w := w) (base := base) F44 bl 
  have B_Way___init___Sum : BCallee CX0 l.prog w K mg base 1 "Way" "__init__" ["self", "called"] (sp_Way___init___Sum K cWay cFirst cOnly cLike cLow cHigh cSum cDomain cNumbers cWords cTable) := ⟨_, _, _, ⟨b_s44, b_r44, b_a44, k44⟩, O44, b44, PySem.W.mg_of X G n_Way⟩
  have O48 := ok_Domain___init___Numbers (P := l.prog) (w := w) (base := base) F48 bl 
  have B_Domain___init___Numbers : BCallee CX0 l.prog w K mg base 1 "Domain" "__init__" ["self", "low", "high"] (sp_Domain___init___Numbers K cWay cFirst cOnly cLike cLow cHigh cSum cDomain cNumbers cWords cTable) := ⟨_, _, _, ⟨b_s48, b_r48, b_a48, k48⟩, O48, b48, PySem.W.mg_of X G n_Domain⟩
  have O50 := ok_Domain___init___Words (P := l.prog) (w := w) (base := base) F50 bl 
  have B_Domain___init___Words : BCallee CX0 l.prog w K mg base 1 "Domain" "__init__" ["self", "low", "high"] (sp_Domain___init___Words K cWay cFirst cOnly cLike cLow cHigh cSum cDomain cNumbers cWords cTable) := ⟨_, _, _, ⟨b_s50, b_r50, b_a50, k50⟩, O50, b50, PySem.W.mg_of X G n_Domain⟩
  have O52 := ok_Words_written_Words (P := l.prog) (w := w) (base := base) F52 bl 
  have M_Words_written_Words : MCallee CX0 l.prog w K mg base 1 cWords "written" ["self"] (sp_Words_written_Words K cWay cFirst cOnly cLike cLow cHigh cSum cDomain cNumbers cWords cTable) := ⟨_, _, ⟨m52, mf52, k52⟩, O52, b52⟩
  have O54 := ok_Numbers_value_at_Numbers (P := l.prog) (w := w) (base := base) F54 bl 
  have M_Numbers_value_at_Numbers : MCallee CX0 l.prog w K mg base 1 cNumbers "value_at" ["self", "code"] (sp_Numbers_value_at_Numbers K cWay cFirst cOnly cLike cLow cHigh cSum cDomain cNumbers cWords cTable) := ⟨_, _, ⟨m54, mf54, k54⟩, O54, b54⟩
  have O56 := ok_Words_value_at_Words (P := l.prog) (w := w) (base := base) F56 bl 
  have M_Words_value_at_Words : MCallee CX0 l.prog w K mg base 1 cWords "value_at" ["self", "code"] (sp_Words_value_at_Words K cWay cFirst cOnly cLike cLow cHigh cSum cDomain cNumbers cWords cTable) := ⟨_, _, ⟨m56, mf56, k56⟩, O56, b56⟩
  have O57 := ok_Domain_whole_Numbers (P := l.prog) (w := w) (base := base) F57 bl 
  have M_Domain_whole_Numbers : MCallee CX0 l.prog w K mg base 1 cNumbers "whole" ["self"] (sp_Domain_whole_Numbers K cWay cFirst cOnly cLike cLow cHigh cSum cDomain cNumbers cWords cTable) := ⟨_, _, ⟨m57, mf57, k57⟩, O57, b57⟩
  have O58 := ok_Domain_whole_Words (P := l.prog) (w := w) (base := base) F58 bl 
  have M_Domain_whole_Words : MCallee CX0 l.prog w K mg base 1 cWords "whole" ["self"] (sp_Domain_whole_Words K cWay cFirst cOnly cLike cLow cHigh cSum cDomain cNumbers cWords cTable) := ⟨_, _, ⟨m58, mf58, k58⟩, O58, b58⟩
  have O1 := ok_is_word (P := l.prog) (w := w) (base := base) F1 bl (C_all_among.mono (by decide))
  have C_is_word : Callee l.prog w K mg base 2 "is_word" ["text"] (sp_is_word K cWay cFirst cOnly cLike cLow cHigh cSum cDomain cNumbers cWords cTable) := ⟨_, _, O1, b1, k1, PySem.W.mg_of X G a1⟩
  have O6 := ok_show_range (P := l.prog) (w := w) (base := base) F6 bl (C_number_text.mono (by decide))
  have C_show_range : Callee l.prog w K mg base 2 "show_range" ["domain", "low", "high"] (sp_show_range K cWay cFirst cOnly cLike cLow cHigh cSum cDomain cNumbers cWords cTable) := ⟨_, _, O6, b6, k6, PySem.W.mg_of X G a6⟩
  have O19 := ok_law_domain (P := l.prog) (w := w) (base := base) F19 bl (C_law_words.mono (by decide))
  have C_law_domain : Callee l.prog w K mg base 2 "_law_domain" ["cell"] (sp_law_domain K cWay cFirst cOnly cLike cLow cHigh cSum cDomain cNumbers cWords cTable) := ⟨_, _, O19, b19, k19, PySem.W.mg_of X G a19⟩
  have O22 := ok_law_row (P := l.prog) (w := w) (base := base) F22 bl (C_law_spans.mono (by decide))
  have C_law_row : Callee l.prog w K mg base 2 "_law_row" ["columns", "domains", "pools", "own", "cell"] (sp_law_row K cWay cFirst cOnly cLike cLow cHigh cSum cDomain cNumbers cWords cTable) := ⟨_, _, O22, b22, k22, PySem.W.mg_of X G a22⟩
  have O28 := ok_law_field (P := l.prog) (w := w) (base := base) F28 bl (C_law_part_text.mono (by decide))
  have C_law_field : Callee l.prog w K mg base 2 "_law_field" ["domain", "spans"] (sp_law_field K cWay cFirst cOnly cLike cLow cHigh cSum cDomain cNumbers cWords cTable) := ⟨_, _, O28, b28, k28, PySem.W.mg_of X G a28⟩
  have O30 := ok_law_head (P := l.prog) (w := w) (base := base) F30 bl (C_law_domain_text.mono (by decide))
  have C_law_head : Callee l.prog w K mg base 2 "_law_head" ["plan", "k"] (sp_law_head K cWay cFirst cOnly cLike cLow cHigh cSum cDomain cNumbers cWords cTable) := ⟨_, _, O30, b30, k30, PySem.W.mg_of X G a30⟩
  have O33 := ok_First___init___First (P := l.prog) (w := w) (base := base) F33 bl (B_Way___init___First.mono (by decide))
  have K_First___init___First : MkCallee CX0 l.prog w K mg base 2 "First" cFirst ["self"] (sp_First___init___First K cWay cFirst cOnly cLike cLow cHigh cSum cDomain cNumbers cWords cTable) := ⟨_, _, ⟨im33, i33, if33, ik33⟩, O33, b33, PySem.W.mg_of X G n_First⟩
  have O35 := ok_Only___init___Only (P := l.prog) (w := w) (base := base) F35 bl (B_Way___init___Only.mono (by decide))
  have K_Only___init___Only : MkCallee CX0 l.prog w K mg base 2 "Only" cOnly ["self"] (sp_Only___init___Only K cWay cFirst cOnly cLike cLow cHigh cSum cDomain cNumbers cWords cTable) := ⟨_, _, ⟨im35, i35, if35, ik35⟩, O35, b35, PySem.W.mg_of X G n_Only⟩
  have O37 := ok_Like___init___Like (P := l.prog) (w := w) (base := base) F37 bl (B_Way___init___Like.mono (by decide))
  have K_Like___init___Like : MkCallee CX0 l.prog w K mg base 2 "Like" cLike ["self"] (sp_Like___init___Like K cWay cFirst cOnly cLike cLow cHigh cSum cDomain cNumbers cWords cTable) := ⟨_, _, ⟨im37, i37, if37, ik37⟩, O37, b37, PySem.W.mg_of X G n_Like⟩
  have O39 := ok_Low___init___Low (P := l.prog) (w := w) (base := base) F39 bl (B_Way___init___Low.mono (by decide))
  have K_Low___init___Low : MkCallee CX0 l.prog w K mg base 2 "Low" cLow ["self"] (sp_Low___init___Low K cWay cFirst cOnly cLike cLow cHigh cSum cDomain cNumbers cWords cTable) := ⟨_, _, ⟨im39, i39, if39, ik39⟩, O39, b39, PySem.W.mg_of X G n_Low⟩
  have O41 := ok_High___init___High (P := l.prog) (w := w) (base := base) F41 bl (B_Way___init___High.mono (by decide))
  have K_High___init___High : MkCallee CX0 l.prog w K mg base 2 "High" cHigh ["self"] (sp_High___init___High K cWay cFirst cOnly cLike cLow cHigh cSum cDomain cNumbers cWords cTable) := ⟨_, _, ⟨im41, i41, if41, ik41⟩, O41, b41, PySem.W.mg_of X G n_High⟩
  have O43 := ok_Sum___init___Sum (P := l.prog) (w := w) (base := base) F43 bl (B_Way___init___Sum.mono (by decide))
  have K_Sum___init___Sum : MkCallee CX0 l.prog w K mg base 2 "Sum" cSum ["self"] (sp_Sum___init___Sum K cWay cFirst cOnly cLike cLow cHigh cSum cDomain cNumbers cWords cTable) := ⟨_, _, ⟨im43, i43, if43, ik43⟩, O43, b43, PySem.W.mg_of X G n_Sum⟩
  have O45 := ok_Domain_has_code_Numbers (P := l.prog) (w := w) (base := base) F45 bl (C_is_whole.mono (by decide))
  have M_Domain_has_code_Numbers : MCallee CX0 l.prog w K mg base 2 cNumbers "has_code" ["self", "value"] (sp_Domain_has_code_Numbers K cWay cFirst cOnly cLike cLow cHigh cSum cDomain cNumbers cWords cTable) := ⟨_, _, ⟨m45, mf45, k45⟩, O45, b45⟩
  have O46 := ok_Domain_has_code_Words (P := l.prog) (w := w) (base := base) F46 bl (C_is_whole.mono (by decide))
  have M_Domain_has_code_Words : MCallee CX0 l.prog w K mg base 2 cWords "has_code" ["self", "value"] (sp_Domain_has_code_Words K cWay cFirst cOnly cLike cLow cHigh cSum cDomain cNumbers cWords cTable) := ⟨_, _, ⟨m46, mf46, k46⟩, O46, b46⟩
  have O47 := ok_Numbers___init___Numbers (P := l.prog) (w := w) (base := base) F47 bl (B_Domain___init___Numbers.mono (by decide))
  have K_Numbers___init___Numbers : MkCallee CX0 l.prog w K mg base 2 "Numbers" cNumbers ["self", "low", "high"] (sp_Numbers___init___Numbers K cWay cFirst cOnly cLike cLow cHigh cSum cDomain cNumbers cWords cTable) := ⟨_, _, ⟨im47, i47, if47, ik47⟩, O47, b47, PySem.W.mg_of X G n_Numbers⟩
  have O51 := ok_Numbers_written_Numbers (P := l.prog) (w := w) (base := base) F51 bl (C_number_text.mono (by decide))
  have M_Numbers_written_Numbers : MCallee CX0 l.prog w K mg base 2 cNumbers "written" ["self"] (sp_Numbers_written_Numbers K cWay cFirst cOnly cLike cLow cHigh cSum cDomain cNumbers cWords cTable) := ⟨_, _, ⟨m51, mf51, k51⟩, O51, b51⟩
  have O4 := ok_show_cell (P := l.prog) (w := w) (base := base) F4 bl (M_Domain_whole_Numbers.mono (by decide)) (M_Domain_whole_Words.mono (by decide)) (C_words_of.mono (by decide)) (C_show_range.mono (by decide))
  have C_show_cell : Callee l.prog w K mg base 3 "show_cell" ["domain", "spans"] (sp_show_cell K cWay cFirst cOnly cLike cLow cHigh cSum cDomain cNumbers cWords cTable) := ⟨_, _, O4, b4, k4, PySem.W.mg_of X G a4⟩
  have O9 := ok_refuse_names (P := l.prog) (w := w) (base := base) F9 bl (C_is_word.mono (by decide))
  have C_refuse_names : Callee l.prog w K mg base 3 "refuse_names" ["names"] (sp_refuse_names K cWay cFirst cOnly cLike cLow cHigh cSum cDomain cNumbers cWords cTable) := ⟨_, _, O9, b9, k9, PySem.W.mg_of X G a9⟩
  have O12 := ok_refuse_row (P := l.prog) (w := w) (base := base) F12 bl (M_Domain_has_code_Numbers.mono (by decide)) (M_Domain_has_code_Words.mono (by decide))
  have C_refuse_row : Callee l.prog w K mg base 3 "refuse_row" ["domains", "outcome", "cells", "code"] (sp_refuse_row K cWay cFirst cOnly cLike cLow cHigh cSum cDomain cNumbers cWords cTable) := ⟨_, _, O12, b12, k12, PySem.W.mg_of X G a12⟩
  have O14 := ok_head_text (P := l.prog) (w := w) (base := base) F14 bl (M_Numbers_written_Numbers.mono (by decide)) (M_Words_written_Words.mono (by decide))
  have C_head_text : Callee l.prog w K mg base 3 "head_text" ["table"] (sp_head_text K cWay cFirst cOnly cLike cLow cHigh cSum cDomain cNumbers cWords cTable) := ⟨_, _, O14, b14, k14, PySem.W.mg_of X G a14⟩
  have O23 := ok_law_book (P := l.prog) (w := w) (base := base) F23 bl (C_law_domain.mono (by decide)) (C_law_pool.mono (by decide)) (C_law_at.mono (by decide)) (C_law_words.mono (by decide)) (C_law_row.mono (by decide))
  have C_law_book : Callee l.prog w K mg base 3 "_law_book" ["script"] (sp_law_book K cWay cFirst cOnly cLike cLow cHigh cSum cDomain cNumbers cWords cTable) := ⟨_, _, O23, b23, k23, PySem.W.mg_of X G a23⟩
  have O31 := ok_law_when (P := l.prog) (w := w) (base := base) F31 bl (C_law_field.mono (by decide)) (C_law_value.mono (by decide))
  have C_law_when : Callee l.prog w K mg base 3 "_law_when" ["plan", "k", "row"] (sp_law_when K cWay cFirst cOnly cLike cLow cHigh cSum cDomain cNumbers cWords cTable) := ⟨_, _, O31, b31, k31, PySem.W.mg_of X G a31⟩
  have O49 := ok_Words___init___Words (P := l.prog) (w := w) (base := base) F49 bl (B_Domain___init___Words.mono (by decide)) (C_is_word.mono (by decide))
  have K_Words___init___Words : MkCallee CX0 l.prog w K mg base 3 "Words" cWords ["self", "words"] (sp_Words___init___Words K cWay cFirst cOnly cLike cLow cHigh cSum cDomain cNumbers cWords cTable) := ⟨_, _, ⟨im49, i49, if49, ik49⟩, O49, b49, PySem.W.mg_of X G n_Words⟩
  have O53 := ok_Domain_worth_Numbers (P := l.prog) (w := w) (base := base) F53 bl (M_Numbers_value_at_Numbers.mono (by decide)) (M_Domain_has_code_Numbers.mono (by decide))
  have M_Domain_worth_Numbers : MCallee CX0 l.prog w K mg base 3 cNumbers "worth" ["self", "code"] (sp_Domain_worth_Numbers K cWay cFirst cOnly cLike cLow cHigh cSum cDomain cNumbers cWords cTable) := ⟨_, _, ⟨m53, mf53, k53⟩, O53, b53⟩
  have O55 := ok_Domain_worth_Words (P := l.prog) (w := w) (base := base) F55 bl (M_Words_value_at_Words.mono (by decide)) (M_Domain_has_code_Words.mono (by decide))
  have M_Domain_worth_Words : MCallee CX0 l.prog w K mg base 3 cWords "worth" ["self", "code"] (sp_Domain_worth_Words K cWay cFirst cOnly cLike cLow cHigh cSum cDomain cNumbers cWords cTable) := ⟨_, _, ⟨m55, mf55, k55⟩, O55, b55⟩
  have O7 := ok_show_value (P := l.prog) (w := w) (base := base) F7 bl (C_number_text.mono (by decide)) (M_Domain_worth_Numbers.mono (by decide)) (M_Domain_worth_Words.mono (by decide))
  have C_show_value : Callee l.prog w K mg base 4 "show_value" ["domain", "code"] (sp_show_value K cWay cFirst cOnly cLike cLow cHigh cSum cDomain cNumbers cWords cTable) := ⟨_, _, O7, b7, k7, PySem.W.mg_of X G a7⟩
  have O8 := ok_way_by (P := l.prog) (w := w) (base := base) F8 bl (K_First___init___First.mono (by decide)) (K_Only___init___Only.mono (by decide)) (K_Like___init___Like.mono (by decide)) (K_Low___init___Low.mono (by decide)) (K_High___init___High.mono (by decide)) (K_Sum___init___Sum.mono (by decide))
  have C_way_by : Callee l.prog w K mg base 4 "way_by" ["name"] (sp_way_by K cWay cFirst cOnly cLike cLow cHigh cSum cDomain cNumbers cWords cTable) := ⟨_, _, O8, b8, k8, PySem.W.mg_of X G a8⟩
  have O16 := ok_fields_text (P := l.prog) (w := w) (base := base) F16 bl (C_show_cell.mono (by decide))
  have C_fields_text : Callee l.prog w K mg base 4 "fields_text" ["domains", "cells"] (sp_fields_text K cWay cFirst cOnly cLike cLow cHigh cSum cDomain cNumbers cWords cTable) := ⟨_, _, O16, b16, k16, PySem.W.mg_of X G a16⟩
  have O11 := ok_refuse_way (P := l.prog) (w := w) (base := base) F11 bl (C_way_by.mono (by decide))
  have C_refuse_way : Callee l.prog w K mg base 5 "refuse_way" ["way", "outcome"] (sp_refuse_way K cWay cFirst cOnly cLike cLow cHigh cSum cDomain cNumbers cWords cTable) := ⟨_, _, O11, b11, k11, PySem.W.mg_of X G a11⟩
  have O15 := ok_row_text (P := l.prog) (w := w) (base := base) F15 bl (C_show_value.mono (by decide)) (C_fields_text.mono (by decide))
  have C_row_text : Callee l.prog w K mg base 5 "row_text" ["table", "k"] (sp_row_text K cWay cFirst cOnly cLike cLow cHigh cSum cDomain cNumbers cWords cTable) := ⟨_, _, O15, b15, k15, PySem.W.mg_of X G a15⟩
  have O24 := ok_law_made (P := l.prog) (w := w) (base := base) F24 bl (K_Numbers___init___Numbers.mono (by decide)) (K_Words___init___Words.mono (by decide))
  have C_law_made : Callee l.prog w K mg base 5 "_law_made" ["domain"] (sp_law_made K cWay cFirst cOnly cLike cLow cHigh cSum cDomain cNumbers cWords cTable) := ⟨_, _, O24, b24, k24, PySem.W.mg_of X G a24⟩
  have O32 := ok_Table___init___Table (P := l.prog) (w := w) (base := base) F32 bl (C_refuse_names.mono (by decide)) (C_refuse_counts.mono (by decide)) (C_refuse_way.mono (by decide)) (C_refuse_row.mono (by decide)) (C_own_row.mono (by decide))
  have K_Table___init___Table : MkCallee CX0 l.prog w K mg base 6 "Table" cTable ["self", "name", "names", "domains", "outcome", "way", "rows"] (sp_Table___init___Table K cWay cFirst cOnly cLike cLow cHigh cSum cDomain cNumbers cWords cTable) := ⟨_, _, ⟨im32, i32, if32, ik32⟩, O32, b32, PySem.W.mg_of X G n_Table⟩
  have O25 := ok_law_table (P := l.prog) (w := w) (base := base) F25 bl (K_Table___init___Table.mono (by decide)) (C_law_made.mono (by decide))
  have C_law_table : Callee l.prog w K mg base 8 "_law_table" ["plan", "k"] (sp_law_table K cWay cFirst cOnly cLike cLow cHigh cSum cDomain cNumbers cWords cTable) := ⟨_, _, O25, b25, k25, PySem.W.mg_of X G a25⟩
  exact ok_law F59 bl (C_law_book.mono (by decide)) (C_law_table.mono (by decide)) (C_head_text.mono (by decide)) (C_row_text.mono (by decide)) (C_law_head.mono (by decide)) (C_law_when.mono (by decide))
theorem walk {l : PySem.W.OpenLaw} {q : Program} {loose : List Str} {XP : (Str → Option Value) → Heap → Prop} {YP : World → Heap → Prop} {d : DefRec} {K : Params → PySem.W.Frag} (hn : l.most = some 63) (hdf : d.params.defaults = [])
    (hY : ∀ (w : World) (h : Heap), YP w h → (K w.params).In h)
    (F : ∀ (w : World) (mg : Str → Option Value) (fa : Addr) (h : Heap), (K w.params).In h → h.Ns mainGlobals mg → mg d.name = some (.ref fa) →
      ∃ fd : FuncData, (∀ (s : Shared) (u : Value), BindsTo s fd ⟨[u], []⟩ [("script", u)]) ∧ ∀ base : Heap, (K w.params).In base → base.Ns mainGlobals mg → FnOk l.prog w (K w.params) mg base CX0 9 fa fd ["script"] (sp_law (K w.params))) :
    PySem.W.WalkO q loose XP YP l.row.toRowW d [] (fun f vs => PySem.call f vs) :=
  L2.walk_of (n := 63) (k := 9) (x := "script") (CX := fun _ => CX0) (sp := fun w => sp_law (K w.params)) hn (by decide) hdf ⟨rfl, by decide, by decide⟩ hY F (fun _ _ a ns hl _ hS => ⟨a, ns, rfl, hS, hl, fun _ => rfl⟩) fun _ _ _ _ _ z => z
end My
def PySem.W.Fast.tw9498413469885024248 : Unit := ()
def PySem.W.Fast.tw739166710481221131 : Unit := ()
def PySem.W.Fast.tw2916932552229421488 : Unit := ()
def PySem.W.Fast.tw4051372566875145877 : Unit := ()
def PySem.W.Fast.tw9649661913914186996 : Unit := ()
def PySem.W.Fast.tw7200176624156901619 : Unit := ()
def PySem.W.Fast.tw11833679574989347265 : Unit := ()
def PySem.W.Fast.tw16952251303962924269 : Unit := ()
def PySem.W.Fast.tw12695258842308146469 : Unit := ()
def PySem.W.Fast.tw3267528772754319139 : Unit := ()
def PySem.W.Fast.tw16759527616897550802 : Unit := ()
def PySem.W.Fast.tw16380311601877591349 : Unit := ()
def PySem.W.Fast.tw12050439166583390860 : Unit := ()
def PySem.W.Fast.tw17886987506900385460 : Unit := ()
def PySem.W.Fast.tw6946126907472304262 : Unit := ()
def PySem.W.Fast.tw5903295061903831095 : Unit := ()
def PySem.W.Fast.tw4044686657077935246 : Unit := ()
def PySem.W.Fast.tw17105032665419282267 : Unit := ()
def PySem.W.Fast.tw7694834887963331062 : Unit := ()
def PySem.W.Fast.tw13038008940172743755 : Unit := ()
def PySem.W.Fast.tw9951240553580864713 : Unit := ()
def PySem.W.Fast.tw6698241039389996160 : Unit := ()
def PySem.W.Fast.tw9835569960678212200 : Unit := ()
def PySem.W.Fast.tw12376765552108173182 : Unit := ()
def PySem.W.Fast.tw17154091452339715343 : Unit := ()
def PySem.W.Fast.tw3828899045524841399 : Unit := ()
def PySem.W.Fast.tw445693665914440935 : Unit := ()
def PySem.W.Fast.tw5433928834305342244 : Unit := ()
def PySem.W.Fast.tw4937983190592334321 : Unit := ()
def PySem.W.Fast.tw13486421824646089968 : Unit := ()
def PySem.W.Fast.tw6881422215403050008 : Unit := ()
def PySem.W.Fast.tw97120077822553418 : Unit := ()
def PySem.W.Fast.tw11731417849999060736 : Unit := ()
def PySem.W.Fast.tw12363268054964608537 : Unit := ()
def PySem.W.Fast.tw14288804888662735885 : Unit := ()
def PySem.W.Fast.tw14914717277483707700 : Unit := ()
def PySem.W.Fast.tw14587121925897915429 : Unit := ()
def PySem.W.Fast.tw4422727923910091637 : Unit := ()
def PySem.W.Fast.tw17588709328530201280 : Unit := ()
def PySem.W.Fast.tw4352385385600726783 : Unit := ()
def PySem.W.Fast.tw11348890876415923468 : Unit := ()
def PySem.W.Fast.tw1443245810839808037 : Unit := ()
def PySem.W.Fast.tw10995743097641491789 : Unit := ()
def PySem.W.Fast.tw7516045945636148820 : Unit := ()
def PySem.W.Fast.tw13070546102340522438 : Unit := ()
def PySem.W.Fast.tw12213318015636821347 : Unit := ()
def PySem.W.Fast.tw14184657259487054826 : Unit := ()
def PySem.W.Fast.tw2974419861103222028 : Unit := ()
def PySem.W.Fast.tw1988792364508310599 : Unit := ()
def PySem.W.Fast.tw8542181618393468565 : Unit := ()
def PySem.W.Fast.tw15682548043275111539 : Unit := ()
def PySem.W.Fast.tw7363882091227903845 : Unit := ()
def PySem.W.Fast.tw16623919916593159444 : Unit := ()
def PySem.W.Fast.tw212078590727744897 : Unit := ()
def PySem.W.Fast.tw2749277563440773229 : Unit := ()
def PySem.W.Fast.tw13781719444833409598 : Unit := ()
def PySem.W.Fast.tw2133332003025403121 : Unit := ()
def PySem.W.Fast.tw17919838554165942005 : Unit := ()
def PySem.W.Fast.tw71996778310707502 : Unit := ()
def PySem.W.Fast.tw976339178844498370 : Unit := ()
def PySem.W.Fast.tw1327151222458336939 : Unit := ()
def PySem.W.Fast.tw799063068729881629 : Unit := ()
def PySem.W.Fast.tw13986131023753736814 : Unit := ()
def PySem.W.Fast.tw102224788531780404 : Unit := ()
def PySem.W.Fast.tw4785622328766618796 : Unit := ()
def PySem.W.Fast.tw17236178675040103596 : Unit := ()
def PySem.W.Fast.tw14960834320135265072 : Unit := ()
def PySem.W.Fast.tw3820406221832378490 : Unit := ()
def PySem.W.Fast.tw15721120988329629059 : Unit := ()
def PySem.W.Fast.tw17013342630205040215 : Unit := ()
def PySem.W.Fast.tw6865953649255671116 : Unit := ()
def PySem.W.Fast.tw6840284379225951683 : Unit := ()
def PySem.W.Fast.tw4181367389400212980 : Unit := ()
def PySem.W.Fast.tw5393251205054727894 : Unit := ()
def PySem.W.Fast.tw13749270759030033312 : Unit := ()
def PySem.W.Fast.tw5058122814186672758 : Unit := ()
def PySem.W.Fast.tw12413761698795209438 : Unit := ()
def PySem.W.Fast.tw9817891938233376090 : Unit := ()
def PySem.W.Fast.tw8573807318915428002 : Unit := ()
def PySem.W.Fast.tw9951016110009992006 : Unit := ()
def PySem.W.Fast.tw6675890419354771667 : Unit := ()
def PySem.W.Fast.tw13065977600065943777 : Unit := ()
def PySem.W.Fast.tw6490170572358523255 : Unit := ()
def PySem.W.Fast.tw4713938093839889225 : Unit := ()
def PySem.W.Fast.tw12629388036188443661 : Unit := ()
def PySem.W.Fast.tw7398477679766092298 : Unit := ()
def PySem.W.Fast.tw8244133242668181483 : Unit := ()
def PySem.W.Fast.tw4573583350995495095 : Unit := ()
def PySem.W.Fast.tw17206641792580109687 : Unit := ()
def PySem.W.Fast.tw15438504292660159566 : Unit := ()
def PySem.W.Fast.tw6586293635085294025 : Unit := ()
def PySem.W.Fast.tw2270805535129874330 : Unit := ()
def PySem.W.Fast.tw10210148458330691317 : Unit := ()
def PySem.W.Fast.tw7213210891165009016 : Unit := ()
def PySem.W.Fast.tw16760093365933647476 : Unit := ()
def PySem.W.Fast.tw7543129076918310688 : Unit := ()
def PySem.W.Fast.tw4152653280085477843 : Unit := ()
def PySem.W.Fast.tw8555501575021472750 : Unit := ()
def PySem.W.Fast.tw17075274303451685237 : Unit := ()
def PySem.W.Fast.tw347500819597740946 : Unit := ()
def PySem.W.Fast.tw5640977907403695799 : Unit := ()
def PySem.W.Fast.tw9234978202732234429 : Unit := ()
def PySem.W.Fast.tw1332737267020021873 : Unit := ()
def PySem.W.Fast.tw12400776561580464546 : Unit := ()
def PySem.W.Fast.tw670927625338948147 : Unit := ()
def PySem.W.Fast.tw3411322430615462686 : Unit := ()
def PySem.W.Fast.tw16579822930762488961 : Unit := ()
def PySem.W.Fast.tw7609934217593736492 : Unit := ()
def PySem.W.Fast.tw9568722202761449262 : Unit := ()
def PySem.W.Fast.tw299399207562496289 : Unit := ()
def PySem.W.Fast.tw7131710966216804292 : Unit := ()
def PySem.W.Fast.tw12771113649046414833 : Unit := ()
def PySem.W.Fast.tw16485157553184335506 : Unit := ()
def PySem.W.Fast.tw15802845801961161684 : Unit := ()
def PySem.W.Fast.tw18174327952107455587 : Unit := ()
def PySem.W.Fast.tw16652194124567302391 : Unit := ()
def PySem.W.Fast.tw12167072963742239464 : Unit := ()
def PySem.W.Fast.tw5013010907489320557 : Unit := ()
def PySem.W.Fast.tw12981306334199791412 : Unit := ()
def PySem.W.Fast.tw17412334443044835004 : Unit := ()
def PySem.W.Fast.tw1115989332842050586 : Unit := ()
def PySem.W.Fast.tw16633342175326974075 : Unit := ()
def PySem.W.Fast.tw13437523809819981740 : Unit := ()
def PySem.W.Fast.tw5062004175994834506 : Unit := ()
def PySem.W.Fast.tw3482160320740151020 : Unit := ()
def PySem.W.Fast.tw8459784024000993188 : Unit := ()
def PySem.W.Fast.tw6678062418599118432 : Unit := ()
def PySem.W.Fast.tw1159132153429749897 : Unit := ()
def PySem.W.Fast.tw11030233849583874539 : Unit := ()
def PySem.W.Fast.tw8911608846245000540 : Unit := ()
def PySem.W.Fast.tw8711443744530482893 : Unit := ()
def PySem.W.Fast.tw3308635794195993781 : Unit := ()
def PySem.W.Fast.tw11508966654250564778 : Unit := ()
def PySem.W.Fast.tw6817184049035936719 : Unit := ()
def PySem.W.Fast.tw17573618741439285482 : Unit := ()
def PySem.W.Fast.tw2928295307523446129 : Unit := ()
def PySem.W.Fast.tw13487505014610366213 : Unit := ()
def PySem.W.Fast.tw13789062678213047552 : Unit := ()
def PySem.W.Fast.tw6662853863454544084 : Unit := ()
def PySem.W.Fast.tw11447762789207535823 : Unit := ()
def PySem.W.Fast.tw15198644708966927214 : Unit := ()
def PySem.W.Fast.tw5001586735538857748 : Unit := ()
def PySem.W.Fast.tw7367564534167693009 : Unit := ()
def PySem.W.Fast.tw7239014978723796130 : Unit := ()
def PySem.W.Fast.tw11859085758765340651 : Unit := ()
def PySem.W.Fast.tw10223293171685297226 : Unit := ()
def PySem.W.Fast.tw8275206300658130753 : Unit := ()
def PySem.W.Fast.tw15475463497987338708 : Unit := ()
def PySem.W.Fast.tw12406006216501086030 : Unit := ()
def PySem.W.Fast.tw10733120856288745733 : Unit := ()
def PySem.W.Fast.tw9742762045709792399 : Unit := ()
def PySem.W.Fast.tw2331349507571185894 : Unit := ()
def PySem.W.Fast.tw14223067059562194429 : Unit := ()
def PySem.W.Fast.tw14312897067610971432 : Unit := ()
def PySem.W.Fast.tw8470312372778966231 : Unit := ()
def PySem.W.Fast.tw15504737479000233941 : Unit := ()
def PySem.W.Fast.tw16864155894590840908 : Unit := ()
def PySem.W.Fast.tw11864013504547263504 : Unit := ()
def PySem.W.Fast.tw16979565707670625182 : Unit := ()
def PySem.W.Fast.tw13830809733903127789 : Unit := ()
def PySem.W.Fast.tw11737822344014310458 : Unit := ()
def PySem.W.Fast.tw2941799429805353306 : Unit := ()
def PySem.W.Fast.tw13799496500542584901 : Unit := ()
def PySem.W.Fast.tw8074381004889948512 : Unit := ()
def PySem.W.Fast.tw5697901972779695853 : Unit := ()
def PySem.W.Fast.tw13032351514494531812 : Unit := ()
def PySem.W.Fast.tw9432715756314057615 : Unit := ()
def PySem.W.Fast.tw15994079723402658332 : Unit := ()
def PySem.W.Fast.tw1342538398691055190 : Unit := ()
def PySem.W.Fast.tw10239407865275700573 : Unit := ()
def PySem.W.Fast.tw5537790328437691708 : Unit := ()
def PySem.W.Fast.tw12583018321941876991 : Unit := ()
def PySem.W.Fast.tw2097435646032568255 : Unit := ()
def PySem.W.Fast.tw17055289594239919943 : Unit := ()
def PySem.W.Fast.tw8320373601132921192 : Unit := ()
def PySem.W.Fast.tw13452934410095612300 : Unit := ()
def PySem.W.Fast.tw15977738374781524651 : Unit := ()
def PySem.W.Fast.tw9351361462629668151 : Unit := ()
def PySem.W.Fast.tw1929557589121795902 : Unit := ()
def PySem.W.Fast.tw9160994903402089181 : Unit := ()
def PySem.W.Fast.tw13340002084765163714 : Unit := ()
def PySem.W.Fast.tw3865598111098792640 : Unit := ()
def PySem.W.Fast.tw17772681192385503720 : Unit := ()
def PySem.W.Fast.tw2791232958140888232 : Unit := ()
def PySem.W.Fast.tw4014072126959242967 : Unit := ()
def PySem.W.Fast.tw17337903766186412272 : Unit := ()
def PySem.W.Fast.tw10479809379308114003 : Unit := ()
def PySem.W.Fast.tw3259459913039848419 : Unit := ()
def PySem.W.Fast.tw3445689805912736446 : Unit := ()
def PySem.W.Fast.tw9524143366531561038 : Unit := ()
def PySem.W.Fast.tw2017479623400169475 : Unit := ()
def PySem.W.Fast.tw5992943433044753197 : Unit := ()
def PySem.W.Fast.tw1615823081548317210 : Unit := ()
def PySem.W.Fast.tw2519572368234072689 : Unit := ()
def PySem.W.Fast.tw6867496971059727058 : Unit := ()
def PySem.W.Fast.tw14478893127236953646 : Unit := ()
def PySem.W.Fast.tw6630449462253207668 : Unit := ()
def PySem.W.Fast.tw15661102010898201613 : Unit := ()
def PySem.W.Fast.tw17402051889670529882 : Unit := ()
def PySem.W.Fast.tw5498729070512305728 : Unit := ()
def PySem.W.Fast.tw16761046088898759366 : Unit := ()
def PySem.W.Fast.tw2525076747582617097 : Unit := ()
def PySem.W.Fast.tw9278732862139440581 : Unit := ()
def PySem.W.Fast.tw5541029260348684630 : Unit := ()
def PySem.W.Fast.tw11783869733723108735 : Unit := ()
def PySem.W.Fast.tw13844373362131666820 : Unit := ()
def PySem.W.Fast.tw6757282023057921151 : Unit := ()
def PySem.W.Fast.tw5093037709743227121 : Unit := ()
def PySem.W.Fast.tw2069084746260919240 : Unit := ()
def PySem.W.Fast.tw2412235864883102913 : Unit := ()
def PySem.W.Fast.tw1646190739981187538 : Unit := ()
def PySem.W.Fast.tw858872487622284834 : Unit := ()
def PySem.W.Fast.tw5665563468861872733 : Unit := ()
def PySem.W.Fast.tw548860875882533145 : Unit := ()
def PySem.W.Fast.tw7491866116915352935 : Unit := ()
def PySem.W.Fast.tw9738348604663580317 : Unit := ()
def PySem.W.Fast.tw1334356071194959086 : Unit := ()
def PySem.W.Fast.tw5351187745661267560 : Unit := ()
def PySem.W.Fast.tw835832173868223133 : Unit := ()
def PySem.W.Fast.tw4199505775179314770 : Unit := ()
def PySem.W.Fast.tw16547733653495789682 : Unit := ()
def PySem.W.Fast.tw3854474070995735844 : Unit := ()
def PySem.W.Fast.tw5583846393545281173 : Unit := ()
def PySem.W.Fast.tw9339308763909786290 : Unit := ()
def PySem.W.Fast.tw10472159847873082118 : Unit := ()
def PySem.W.Fast.tw6799992146375925149 : Unit := ()
def PySem.W.Fast.tw17817448119435657040 : Unit := ()
def PySem.W.Fast.tw5184452484553701175 : Unit := ()
def PySem.W.Fast.tw6245845575339354856 : Unit := ()
def PySem.W.Fast.tw1590194270576746758 : Unit := ()
def PySem.W.Fast.tw8464363861483863743 : Unit := ()
def PySem.W.Fast.tw11252153548639226193 : Unit := ()
def PySem.W.Fast.tw16696092737896901157 : Unit := ()
def PySem.W.Fast.tw18330752748754492181 : Unit := ()
def PySem.W.Fast.tw6410105750577102079 : Unit := ()
def PySem.W.Fast.tw958399405130928820 : Unit := ()
def PySem.W.Fast.tw7579423318614398402 : Unit := ()
def PySem.W.Fast.tw3514710209895492094 : Unit := ()
def PySem.W.Fast.tw17415496054636788834 : Unit := ()
def PySem.W.Fast.tw17312738642544250119 : Unit := ()
def PySem.W.Fast.tw3539106883370339012 : Unit := ()
def PySem.W.Fast.tw11003047553206110917 : Unit := ()
def PySem.W.Fast.tw8272818357512473929 : Unit := ()
def PySem.W.Fast.tw8789111285399288595 : Unit := ()
def PySem.W.Fast.tw1397245724470822516 : Unit := ()
def PySem.W.Fast.tw13816250070344155350 : Unit := ()
def PySem.W.Fast.tw8048039517197298523 : Unit := ()
def PySem.W.Fast.tw13309186913622393368 : Unit := ()
def PySem.W.Fast.tw14631109897347347605 : Unit := ()
def PySem.W.Fast.tw16042419050325123456 : Unit := ()
def PySem.W.Fast.tw17686143300877444967 : Unit := ()
def PySem.W.Fast.tw13898685286912009544 : Unit := ()
def PySem.W.Fast.tw74608759261447839 : Unit := ()
def PySem.W.Fast.tw4647204779984635895 : Unit := ()
def PySem.W.Fast.tw16817916007594069664 : Unit := ()
def PySem.W.Fast.tw3934715215552960471 : Unit := ()
def PySem.W.Fast.tw13940218334855822358 : Unit := ()
def PySem.W.Fast.tw12681634557143491967 : Unit := ()
def PySem.W.Fast.tw431532837702499830 : Unit := ()
def PySem.W.Fast.tw12428267339732208715 : Unit := ()
def PySem.W.Fast.tw4290754999860779698 : Unit := ()
def PySem.W.Fast.tw3584990213573705596 : Unit := ()
def PySem.W.Fast.tw11408915900458411355 : Unit := ()
def PySem.W.Fast.tw13380476523103233358 : Unit := ()
def PySem.W.Fast.tw5752401892588815206 : Unit := ()
def PySem.W.Fast.tw16302704090486784060 : Unit := ()
def PySem.W.Fast.tw5570563796756982508 : Unit := ()
def PySem.W.Fast.tw10328499112791220277 : Unit := ()
def PySem.W.Fast.tw5579104631361083184 : Unit := ()
def PySem.W.Fast.tw3940965138217953827 : Unit := ()
def PySem.W.Fast.tw3829665990118830864 : Unit := ()
def PySem.W.Fast.tw3675674670423885788 : Unit := ()
def PySem.W.Fast.tw5352495527126669398 : Unit := ()
def PySem.W.Fast.tw4083871496779617433 : Unit := ()
def PySem.W.Fast.tw2965559183465715057 : Unit := ()
def PySem.W.Fast.tw16801893090632127312 : Unit := ()
def PySem.W.Fast.tw446502090588487266 : Unit := ()
def PySem.W.Fast.tw9268144780521016357 : Unit := ()
def PySem.W.Fast.tw16476232149733371261 : Unit := ()
def PySem.W.Fast.tw6912516165218588670 : Unit := ()
def PySem.W.Fast.tw2966463358496819459 : Unit := ()
def PySem.W.Fast.tw989635899922163120 : Unit := ()
def PySem.W.Fast.tw10839656839144912991 : Unit := ()
def PySem.W.Fast.tw4497783963364989595 : Unit := ()
def PySem.W.Fast.tw437027191047280795 : Unit := ()
def PySem.W.Fast.tw17015235609395307072 : Unit := ()
def PySem.W.Fast.tw7631424394419520805 : Unit := ()
def PySem.W.Fast.tw13591312312967529113 : Unit := ()
def PySem.W.Fast.tw5303015558581601046 : Unit := ()
def PySem.W.Fast.tw4298832013718055516 : Unit := ()
def PySem.W.Fast.tw18442188115851060013 : Unit := ()
def PySem.W.Fast.tw17131177179993502030 : Unit := ()
def PySem.W.Fast.tw9652156213909642810 : Unit := ()
def PySem.W.Fast.tw1431793037564296811 : Unit := ()
def PySem.W.Fast.tw4288203310544447712 : Unit := ()
def PySem.W.Fast.tw12502095744088543455 : Unit := ()
def PySem.W.Fast.tw17758556919400239082 : Unit := ()
def PySem.W.Fast.tw8961834472540479994 : Unit := ()
def PySem.W.Fast.tw8156472763497094374 : Unit := ()
def PySem.W.Fast.tw6200778030418769042 : Unit := ()
def PySem.W.Fast.tw2796987485899092167 : Unit := ()
def PySem.W.Fast.tw16295094899052416489 : Unit := ()
def PySem.W.Fast.tw3391602455129214546 : Unit := ()
def PySem.W.Fast.tw4551526469205569668 : Unit := ()
def PySem.W.Fast.tw10762506666127708064 : Unit := ()
def PySem.W.Fast.tw7685070072749165034 : Unit := ()
def PySem.W.Fast.tw6842332106457013085 : Unit := ()
def PySem.W.Fast.tw10916012564575706757 : Unit := ()
def PySem.W.Fast.tw1927334563932695253 : Unit := ()
def PySem.W.Fast.tw18161741621003728307 : Unit := ()
def PySem.W.Fast.tw4477739352964067334 : Unit := ()
def PySem.W.Fast.tw12316579038129464348 : Unit := ()
def PySem.W.Fast.tw7562368317292158697 : Unit := ()
def PySem.W.Fast.tw1826632525329810606 : Unit := ()
def PySem.W.Fast.tw11988398098278003964 : Unit := ()
def PySem.W.Fast.tw4688489217283390571 : Unit := ()
def PySem.W.Fast.tw3595951856836702053 : Unit := ()
def PySem.W.Fast.tw9023879741295102592 : Unit := ()
def PySem.W.Fast.tw5903100434808831328 : Unit := ()
def PySem.W.Fast.tw14205587088481684918 : Unit := ()
def PySem.W.Fast.tw333249546163045191 : Unit := ()
def PySem.W.Fast.tw2730983714224330121 : Unit := ()
def PySem.W.Fast.tw9145697200525788864 : Unit := ()
def PySem.W.Fast.tw11109989227934161654 : Unit := ()
def PySem.W.Fast.tw6572293538215991312 : Unit := ()
def PySem.W.Fast.tw11481711391297809874 : Unit := ()
def PySem.W.Fast.tw5379508317701916149 : Unit := ()
def PySem.W.Fast.tw12329732036476337891 : Unit := ()
def PySem.W.Fast.tw12623227989799321196 : Unit := ()
def PySem.W.Fast.tw10849202912592638677 : Unit := ()
def PySem.W.Fast.tw5960466122828078860 : Unit := ()
def PySem.W.Fast.tw9779150628519394613 : Unit := ()
def PySem.W.Fast.tw14889083370471849917 : Unit := ()
def PySem.W.Fast.tw15577965235922726107 : Unit := ()
def PySem.W.Fast.tw880627870559363416 : Unit := ()
def PySem.W.Fast.tw14843377423586143803 : Unit := ()
def PySem.W.Fast.tw2504260224018398763 : Unit := ()
def PySem.W.Fast.tw7317254770314127212 : Unit := ()
def PySem.W.Fast.tw1736506826351834333 : Unit := ()
def PySem.W.Fast.tw5792940114218139383 : Unit := ()
def PySem.W.Fast.tw15391274632675179448 : Unit := ()
def PySem.W.Fast.tw9377703013314367945 : Unit := ()
def PySem.W.Fast.tw14309997640020422015 : Unit := ()
def PySem.W.Fast.tw18268745143845332310 : Unit := ()
def PySem.W.Fast.tw10101173259829998476 : Unit := ()
def PySem.W.Fast.tw17364200097415502056 : Unit := ()
def PySem.W.Fast.tw5922679816186683386 : Unit := ()
def PySem.W.Fast.tw5984030716405898554 : Unit := ()
def PySem.W.Fast.tw632459655117058138 : Unit := ()
def PySem.W.Fast.tw10545167535248052504 : Unit := ()
def PySem.W.Fast.tw4057175892104936598 : Unit := ()
def PySem.W.Fast.tw2416469237097305777 : Unit := ()
def PySem.W.Fast.tw15829182488310314764 : Unit := ()
def PySem.W.Fast.tw7350609342945854571 : Unit := ()
def PySem.W.Fast.tw8144026594119922109 : Unit := ()
def PySem.W.Fast.tw4340483234055557202 : Unit := ()
def PySem.W.Fast.tw16479703133732889290 : Unit := ()
def PySem.W.Fast.tw6007452869580960999 : Unit := ()
def PySem.W.Fast.tw5933028783957188316 : Unit := ()
def PySem.W.Fast.tw16347286504210176307 : Unit := ()
def PySem.W.Fast.tw13652348019907069184 : Unit := ()
def PySem.W.Fast.tw4257817786480735839 : Unit := ()
def PySem.W.Fast.tw14930061599092643389 : Unit := ()
def PySem.W.Fast.tw18117501149056881118 : Unit := ()
def PySem.W.Fast.tw6361224435319136882 : Unit := ()
def PySem.W.Fast.tw10119656880433703899 : Unit := ()
def PySem.W.Fast.tw14238296077480964122 : Unit := ()
def PySem.W.Fast.tw1475030300277953600 : Unit := ()
def PySem.W.Fast.tw15374598007279816529 : Unit := ()
def PySem.W.Fast.tw4049161750910477530 : Unit := ()
def PySem.W.Fast.tw7442622909607335004 : Unit := ()
def PySem.W.Fast.tw14465273620018928354 : Unit := ()
def PySem.W.Fast.tw7404624028783542643 : Unit := ()
def PySem.W.Fast.tw9810851076373612001 : Unit := ()
def PySem.W.Fast.tw14983855966767542638 : Unit := ()
def PySem.W.Fast.tw8197849718877921455 : Unit := ()
def PySem.W.Fast.tw9199831905383183792 : Unit := ()
def PySem.W.Fast.tw8545170788177617779 : Unit := ()
def PySem.W.Fast.tw1014305680287367985 : Unit := ()
def PySem.W.Fast.tw16322075297273158299 : Unit := ()
def PySem.W.Fast.tw2256644028760059358 : Unit := ()
def PySem.W.Fast.tw2213581766886475067 : Unit := ()
def PySem.W.Fast.tw11245239477731414153 : Unit := ()
def PySem.W.Fast.tw14188974108917141204 : Unit := ()
def PySem.W.Fast.tw10772215428137760152 : Unit := ()
def PySem.W.Fast.tw17877138199693136981 : Unit := ()
def PySem.W.Fast.tw15493287974430776969 : Unit := ()
def PySem.W.Fast.tw3517842357628836227 : Unit := ()
def PySem.W.Fast.tw7383151529081133791 : Unit := ()
def PySem.W.Fast.tw12445967169212975236 : Unit := ()
def PySem.W.Fast.tw15140882639392749430 : Unit := ()
def PySem.W.Fast.tw9477423401681249196 : Unit := ()
def PySem.W.Fast.tw13332291687495784549 : Unit := ()
def PySem.W.Fast.tw4228261103510512373 : Unit := ()
def PySem.W.Fast.tw14053816889203637306 : Unit := ()
def PySem.W.Fast.tw4935554032047955192 : Unit := ()
def PySem.W.Fast.tw829303544257997449 : Unit := ()
def PySem.W.Fast.tw5031593673607737727 : Unit := ()
def PySem.W.Fast.tw1232418368683217139 : Unit := ()
def PySem.W.Fast.tw18285327442577485963 : Unit := ()
def PySem.W.Fast.tw9075380067889263114 : Unit := ()
def PySem.W.Fast.tw7076572808023327749 : Unit := ()
def PySem.W.Fast.tw14518483487535953293 : Unit := ()
def PySem.W.Fast.tw12260182221792102136 : Unit := ()
def PySem.W.Fast.tw13261186701288194487 : Unit := ()
def PySem.W.Fast.tw13077395607639833767 : Unit := ()
def PySem.W.Fast.tw18158283562661856466 : Unit := ()
def PySem.W.Fast.tw4705499337710545395 : Unit := ()
def PySem.W.Fast.tw4348845497805589908 : Unit := ()
def PySem.W.Fast.tw16768665047019461760 : Unit := ()
def PySem.W.Fast.tw1204148497818849964 : Unit := ()
def PySem.W.Fast.tw10526033678140128417 : Unit := ()
def PySem.W.Fast.tw10550047845451269264 : Unit := ()
def PySem.W.Fast.tw15600190942628654424 : Unit := ()
def PySem.W.Fast.tw649248994009021399 : Unit := ()
def PySem.W.Fast.tw15189327744982343636 : Unit := ()
def PySem.W.Fast.tw17426629938716746568 : Unit := ()
def PySem.W.Fast.tw11350439131299483924 : Unit := ()
def PySem.W.Fast.tw3180194198088057655 : Unit := ()
def PySem.W.Fast.tw10937613227851590801 : Unit := ()
def PySem.W.Fast.tw10131130676448965658 : Unit := ()
def PySem.W.Fast.tw10261246352957552323 : Unit := ()
def PySem.W.Fast.tw8095851167193240164 : Unit := ()
def PySem.W.Fast.tw6145632316030340951 : Unit := ()
def PySem.W.Fast.tw4313912168076845040 : Unit := ()
def PySem.W.Fast.tw11184983300619644960 : Unit := ()
def PySem.W.Fast.tw10771740505214545006 : Unit := ()
def PySem.W.Fast.tw11230834596610049232 : Unit := ()
def PySem.W.Fast.tw7918538806089462965 : Unit := ()
def PySem.W.Fast.tw10049958662897177865 : Unit := ()
def PySem.W.Fast.tw10842770722182889275 : Unit := ()
def PySem.W.Fast.tw10594766110630135181 : Unit := ()
def PySem.W.Fast.tw2121412062559044368 : Unit := ()
def PySem.W.Fast.tw10327366786530029517 : Unit := ()
def PySem.W.Fast.tw11183343108472778696 : Unit := ()
def PySem.W.Fast.tw4209709599326009042 : Unit := ()
def PySem.W.Fast.tw11565299546075527696 : Unit := ()
def PySem.W.Fast.tw8659199872888769378 : Unit := ()
def PySem.W.Fast.tw9131125987932996591 : Unit := ()
def PySem.W.Fast.tw16218280172089627126 : Unit := ()
def PySem.W.Fast.tw6619617888556860966 : Unit := ()
def PySem.W.Fast.tw13976325444421336693 : Unit := ()
def PySem.W.Fast.tw2822011524911393462 : Unit := ()
def PySem.W.Fast.tw9237492972837204139 : Unit := ()
def PySem.W.Fast.tw14082119179294289275 : Unit := ()
def PySem.W.Fast.tw17184047574961311286 : Unit := ()
def PySem.W.Fast.tw12890072977784110965 : Unit := ()
def PySem.W.Fast.tw4559571984822714124 : Unit := ()
def PySem.W.Fast.tw6118137309748050388 : Unit := ()
def PySem.W.Fast.tw9991528564877132861 : Unit := ()
def PySem.W.Fast.tw8291891737963556400 : Unit := ()
def PySem.W.Fast.tw608117514123127922 : Unit := ()
def PySem.W.Fast.tw14999276552988800877 : Unit := ()
def PySem.W.Fast.tw12885804272799521065 : Unit := ()
def PySem.W.Fast.tw8330767158650997289 : Unit := ()
def PySem.W.Fast.tw1205130504948369921 : Unit := ()
def PySem.W.Fast.tw17878300855525057989 : Unit := ()
def PySem.W.Fast.tw383082684817466814 : Unit := ()
def PySem.W.Fast.tw6678906384691572772 : Unit := ()
def PySem.W.Fast.tw4945084659632776729 : Unit := ()
def PySem.W.Fast.tw2584221550283266802 : Unit := ()
def PySem.W.Fast.tw13110369544076757266 : Unit := ()
def PySem.W.Fast.tw18359539955013976502 : Unit := ()
def PySem.W.Fast.tw17772435881075461359 : Unit := ()
def PySem.W.Fast.tw14837866107591662896 : Unit := ()
def PySem.W.Fast.tw10510348505446512771 : Unit := ()
def PySem.W.Fast.tw2960944605738041594 : Unit := ()
def PySem.W.Fast.tw6171094916633731310 : Unit := ()
def PySem.W.Fast.tw1152550761397752679 : Unit := ()
def PySem.W.Fast.tw9988914054257623637 : Unit := ()
def PySem.W.Fast.tw8012453579440584771 : Unit := ()
def PySem.W.Fast.tw3833739997034990178 : Unit := ()
def PySem.W.Fast.tw1847346960430763123 : Unit := ()
def PySem.W.Fast.tw17799594458652074593 : Unit := ()
def PySem.W.Fast.tw3050552387477901796 : Unit := ()
def PySem.W.Fast.tw18161105229650373939 : Unit := ()
def PySem.W.Fast.tw11554327932616402557 : Unit := ()
def PySem.W.Fast.tw8587355395377240122 : Unit := ()
def PySem.W.Fast.tw4215861926136993577 : Unit := ()
def PySem.W.Fast.tw11664012829780445123 : Unit := ()
def PySem.W.Fast.tw6317838037918970568 : Unit := ()
def PySem.W.Fast.tw6365092461579221666 : Unit := ()
def PySem.W.Fast.tw17998543101007351913 : Unit := ()
def PySem.W.Fast.tw5387231901941870685 : Unit := ()
def PySem.W.Fast.tw628510207180634618 : Unit := ()
def PySem.W.Fast.tw13903083480606798772 : Unit := ()
def PySem.W.Fast.tw3393348322880915952 : Unit := ()
def PySem.W.Fast.tw3402952765373328784 : Unit := ()
def PySem.W.Fast.tw8336928580976308386 : Unit := ()
def PySem.W.Fast.tw4906039582624970675 : Unit := ()
def PySem.W.Fast.tw12200605160545203015 : Unit := ()
def PySem.W.Fast.tw7972965923985263209 : Unit := ()
def PySem.W.Fast.tw222515394455118056 : Unit := ()
def PySem.W.Fast.tw3120276595863766038 : Unit := ()
def PySem.W.Fast.tw18026645031199656240 : Unit := ()
def PySem.W.Fast.tw6246267424380190544 : Unit := ()
def PySem.W.Fast.tw17683860788446570071 : Unit := ()
def PySem.W.Fast.tw12471084918251963160 : Unit := ()
def PySem.W.Fast.tw17227808931782204053 : Unit := ()
def PySem.W.Fast.tw3967252780906047943 : Unit := ()
def PySem.W.Fast.tw1799941041492874527 : Unit := ()
def PySem.W.Fast.tw10628902452763514080 : Unit := ()
def PySem.W.Fast.tw14200647901738994985 : Unit := ()
def PySem.W.Fast.tw2191926741666147994 : Unit := ()
def PySem.W.Fast.tw14475186020344478671 : Unit := ()
def PySem.W.Fast.tw10659805607979036000 : Unit := ()
def PySem.W.Fast.tw1460261332629321842 : Unit := ()
def PySem.W.Fast.tw10684919780033223514 : Unit := ()
def PySem.W.Fast.tw4057795341282916269 : Unit := ()
def PySem.W.Fast.tw11575587264282457277 : Unit := ()
def PySem.W.Fast.tw14086721958586107395 : Unit := ()
def PySem.W.Fast.tw4305188376073568699 : Unit := ()
def PySem.W.Fast.tw15236914276377623191 : Unit := ()
def PySem.W.Fast.tw673094773638967514 : Unit := ()
def PySem.W.Fast.tw14187960831177357773 : Unit := ()
def PySem.W.Fast.tw7182186398533561495 : Unit := ()
def PySem.W.Fast.tw14758422771535682185 : Unit := ()
def PySem.W.Fast.tw16150998564978731404 : Unit := ()
def PySem.W.Fast.tw4622271011552834185 : Unit := ()
def PySem.W.Fast.tw10211750595677505561 : Unit := ()
def PySem.W.Fast.tw2230225801283225712 : Unit := ()
def PySem.W.Fast.tw6425356123224179268 : Unit := ()
def PySem.W.Fast.tw16503481454085535159 : Unit := ()
def PySem.W.Fast.tw612560456625119998 : Unit := ()
def PySem.W.Fast.tw17904610788943135459 : Unit := ()
def PySem.W.Fast.tw4107703941472695234 : Unit := ()
def PySem.W.Fast.tw6156512329199654332 : Unit := ()
def PySem.W.Fast.tw18330142040468919830 : Unit := ()
def PySem.W.Fast.tw16345649187223291827 : Unit := ()
def PySem.W.Fast.tw1877315604732418130 : Unit := ()
def PySem.W.Fast.tw16389534178309757794 : Unit := ()
def PySem.W.Fast.tw2085512090324958579 : Unit := ()
def PySem.W.Fast.tw886741851222521350 : Unit := ()
def PySem.W.Fast.tw6577554778391994974 : Unit := ()
def PySem.W.Fast.tw5162578204749827620 : Unit := ()
def PySem.W.Fast.tw11378124292600334084 : Unit := ()
def PySem.W.Fast.tw2067350109635654584 : Unit := ()
def PySem.W.Fast.tw5750274553387064399 : Unit := ()
def PySem.W.Fast.tw14451389881529669732 : Unit := ()
def PySem.W.Fast.tw8445486542102544473 : Unit := ()
def PySem.W.Fast.tw2813842739735959948 : Unit := ()
def PySem.W.Fast.tw8481103258338907307 : Unit := ()
def PySem.W.Fast.tw1284120155362857682 : Unit := ()
def PySem.W.Fast.tw10006633328654572897 : Unit := ()
def PySem.W.Fast.tw18227627098621218411 : Unit := ()
def PySem.W.Fast.tw17028498385264759506 : Unit := ()
def PySem.W.Fast.tw13794677365262197065 : Unit := ()
def PySem.W.Fast.tw4804741872059797528 : Unit := ()
def PySem.W.Fast.tw4497743188783023987 : Unit := ()
def PySem.W.Fast.tw3624367155394326300 : Unit := ()
def PySem.W.Fast.tw5784698466375995363 : Unit := ()
def PySem.W.Fast.tw13552246002538724016 : Unit := ()
def PySem.W.Fast.tw1311581046368338113 : Unit := ()
def PySem.W.Fast.tw16921288830606532619 : Unit := ()
def PySem.W.Fast.tw11399524371852449973 : Unit := ()
def PySem.W.Fast.tw12722191613412757910 : Unit := ()
def PySem.W.Fast.tw4736902909732511037 : Unit := ()
def PySem.W.Fast.tw2532636135938266124 : Unit := ()
def PySem.W.Fast.tw2474854427088800627 : Unit := ()
def PySem.W.Fast.tw13624814285785485561 : Unit := ()
def PySem.W.Fast.tw3732003378059616005 : Unit := ()
def PySem.W.Fast.tw1150668100926332719 : Unit := ()
def PySem.W.Fast.tw8923191030665816125 : Unit := ()
def PySem.W.Fast.tw5025751545623558375 : Unit := ()
def PySem.W.Fast.tw5951028934737136641 : Unit := ()
def PySem.W.Fast.tw3666678716791288900 : Unit := ()
def PySem.W.Fast.tw12557817691578409141 : Unit := ()
def PySem.W.Fast.tw13700530532116848750 : Unit := ()
def PySem.W.Fast.tw3414539795824892672 : Unit := ()
def PySem.W.Fast.tw11083927232698004578 : Unit := ()
def PySem.W.Fast.tw672129492284523405 : Unit := ()
def PySem.W.Fast.tw12417838753921572695 : Unit := ()
def PySem.W.Fast.tw2351634910977198941 : Unit := ()
def PySem.W.Fast.tw16929913955287270364 : Unit := ()
def PySem.W.Fast.tw9007926689825572437 : Unit := ()
def PySem.W.Fast.tw1040668495980856999 : Unit := ()
def PySem.W.Fast.tw10769189949510735834 : Unit := ()
def PySem.W.Fast.tw12083289514790909198 : Unit := ()
def PySem.W.Fast.tw2262371554872481255 : Unit := ()
def PySem.W.Fast.tw724776857245009909 : Unit := ()
def PySem.W.Fast.tw18395712582631609427 : Unit := ()
def PySem.W.Fast.tw4389871153393331032 : Unit := ()
def PySem.W.Fast.tw8011321768240595993 : Unit := ()
def PySem.W.Fast.tw721565841112902398 : Unit := ()
def PySem.W.Fast.tw15663668244301778272 : Unit := ()
def PySem.W.Fast.tw15226335530961313261 : Unit := ()
def PySem.W.Fast.tw10642291084547396653 : Unit := ()
def PySem.W.Fast.tw2852071596782168718 : Unit := ()
def PySem.W.Fast.tw9653639521676083348 : Unit := ()
def PySem.W.Fast.tw1313803309543722172 : Unit := ()
def PySem.W.Fast.tw7250332032952439491 : Unit := ()
def PySem.W.Fast.tw4255136885865012519 : Unit := ()
def PySem.W.Fast.tw9705764909828639605 : Unit := ()
def PySem.W.Fast.tw2592086142124813482 : Unit := ()
def PySem.W.Fast.tw2530259458398144065 : Unit := ()
def PySem.W.Fast.tw15609482078684728963 : Unit := ()
def PySem.W.Fast.tw11155557110586906278 : Unit := ()
def PySem.W.Fast.tw10343089983757958438 : Unit := ()
def PySem.W.Fast.tw6409305007690848084 : Unit := ()
def PySem.W.Fast.tw1214037035129670206 : Unit := ()
def PySem.W.Fast.tw14470087676801885028 : Unit := ()
def PySem.W.Fast.tw3501536528374928987 : Unit := ()
def PySem.W.Fast.tw8628998855778732029 : Unit := ()
def PySem.W.Fast.tw13633592304131374006 : Unit := ()
def PySem.W.Fast.tw4910419004290003748 : Unit := ()
def PySem.W.Fast.tw2853534922284548883 : Unit := ()
def PySem.W.Fast.tw7332755755448997464 : Unit := ()
def PySem.W.Fast.tw18445609218139341065 : Unit := ()
def PySem.W.Fast.tw18192454277148083826 : Unit := ()
def PySem.W.Fast.tw18107409520722641653 : Unit := ()
def PySem.W.Fast.tw14218806296679911110 : Unit := ()
def PySem.W.Fast.tw12825601227630588429 : Unit := ()
def PySem.W.Fast.tw15603526365313811381 : Unit := ()
def PySem.W.Fast.tw12978857520568524220 : Unit := ()
def PySem.W.Fast.tw11851524025272142111 : Unit := ()
def PySem.W.Fast.tw7406819549896851130 : Unit := ()
def PySem.W.Fast.tw1544930049200577023 : Unit := ()
def PySem.W.Fast.tw6421605308659075776 : Unit := ()
def PySem.W.Fast.tw707952404618372929 : Unit := ()
def PySem.W.Fast.tw10532146717849434976 : Unit := ()
def PySem.W.Fast.tw17774223047989309995 : Unit := ()
def PySem.W.Fast.tw8294102836204230164 : Unit := ()
def PySem.W.Fast.tw15527264514222877104 : Unit := ()
def PySem.W.Fast.tw10404579413428632580 : Unit := ()
def PySem.W.Fast.tw17435388920906027049 : Unit := ()
def PySem.W.Fast.tw9762033034415543052 : Unit := ()
def PySem.W.Fast.tw8866191665033852242 : Unit := ()
def PySem.W.Fast.tw2045210312710289061 : Unit := ()
def PySem.W.Fast.tw8332153523479650402 : Unit := ()
def PySem.W.Fast.tw12472500832446175043 : Unit := ()
def PySem.W.Fast.tw3583061868824757153 : Unit := ()
def PySem.W.Fast.tw5668867550076171723 : Unit := ()
def PySem.W.Fast.tw13329786830281738014 : Unit := ()
def PySem.W.Fast.tw2198473275916802921 : Unit := ()
def PySem.W.Fast.tw8920656149594858452 : Unit := ()
def PySem.W.Fast.tw9667909393516695016 : Unit := ()
def PySem.W.Fast.tw2961502344151650179 : Unit := ()
def PySem.W.Fast.tw12123186390357262022 : Unit := ()
def PySem.W.Fast.tw14189173173536487059 : Unit := ()
def PySem.W.Fast.tw1523244801151737325 : Unit := ()
def PySem.W.Fast.tw13509255534822530435 : Unit := ()
def PySem.W.Fast.tw14047978216681529953 : Unit := ()
def PySem.W.Fast.tw3759498649773201713 : Unit := ()
def PySem.W.Fast.tw1592398694165599834 : Unit := ()
def PySem.W.Fast.tw13593461819108280220 : Unit := ()
def PySem.W.Fast.tw5787795406447372376 : Unit := ()
def PySem.W.Fast.tw14716176067607817055 : Unit := ()
def PySem.W.Fast.tw11127576259667057175 : Unit := ()
def PySem.W.Fast.tw10863872343513493330 : Unit := ()
def PySem.W.Fast.tw4953101339465700316 : Unit := ()
def PySem.W.Fast.tw4887454057027799149 : Unit := ()
def PySem.W.Fast.tw8466094792345602784 : Unit := ()
def PySem.W.Fast.tw16300186486620766993 : Unit := ()
def PySem.W.Fast.tw2252358248110253342 : Unit := ()
def PySem.W.Fast.tw14529120103011541689 : Unit := ()
def PySem.W.Fast.tw12021608495771227181 : Unit := ()
def PySem.W.Fast.tw12611971024765342410 : Unit := ()
def PySem.W.Fast.tw13476787110111583286 : Unit := ()
def PySem.W.Fast.tw12831209639539583195 : Unit := ()
def PySem.W.Fast.tw7875027498686076715 : Unit := ()
def PySem.W.Fast.tw367469530486901595 : Unit := ()
def PySem.W.Fast.tw11227552993887625906 : Unit := ()
def PySem.W.Fast.tw12315344475944133480 : Unit := ()
def PySem.W.Fast.tw6988735505390886815 : Unit := ()
def PySem.W.Fast.tw17606504267527644242 : Unit := ()
def PySem.W.Fast.tw16609849254140925876 : Unit := ()
def PySem.W.Fast.tw16470044513245975957 : Unit := ()
def PySem.W.Fast.tw14829532688199207588 : Unit := ()
def PySem.W.Fast.tw12986503462447706018 : Unit := ()
def PySem.W.Fast.tw4802104165058878019 : Unit := ()
def PySem.W.Fast.tw770711149286745044 : Unit := ()
def PySem.W.Fast.tw4704723703303194265 : Unit := ()
def PySem.W.Fast.tw16428011056203647580 : Unit := ()
def PySem.W.Fast.tw15450462255616488514 : Unit := ()
def PySem.W.Fast.tw9903810094811014046 : Unit := ()
def PySem.W.Fast.tw17005979355680299599 : Unit := ()
def PySem.W.Fast.tw13965147823193653455 : Unit := ()
def PySem.W.Fast.tw16191797705884852638 : Unit := ()
def PySem.W.Fast.tw15010516765162952170 : Unit := ()
def PySem.W.Fast.tw13734716926627728391 : Unit := ()
def PySem.W.Fast.tw16160222133961676546 : Unit := ()
def PySem.W.Fast.tw14715102284244294752 : Unit := ()
def PySem.W.Fast.tw9755305531531926295 : Unit := ()
def PySem.W.Fast.tw1263235458707403040 : Unit := ()
def PySem.W.Fast.tw10287330977020251001 : Unit := ()
def PySem.W.Fast.tw13099588231298643573 : Unit := ()
def PySem.W.Fast.tw1186555539910346303 : Unit := ()
def PySem.W.Fast.tw6802533769086597797 : Unit := ()
def PySem.W.Fast.tw15103072093549971472 : Unit := ()
def PySem.W.Fast.tw17304698991361391834 : Unit := ()
def PySem.W.Fast.tw10913270413725280910 : Unit := ()
def PySem.W.Fast.tw16494704877699877246 : Unit := ()
def PySem.W.Fast.tw1443537593965647342 : Unit := ()
def PySem.W.Fast.tw9881461754231460478 : Unit := ()
def PySem.W.Fast.tw10607175401635393477 : Unit := ()
def PySem.W.Fast.tw359630782959641704 : Unit := ()
def PySem.W.Fast.tw6449876676449219921 : Unit := ()
def PySem.W.Fast.tw1913575144436472132 : Unit := ()
def PySem.W.Fast.tw9432023016701548680 : Unit := ()
def PySem.W.Fast.tw4903142688891265358 : Unit := ()
def PySem.W.Fast.tw3829807084019937545 : Unit := ()
def PySem.W.Fast.tw14802251384036503646 : Unit := ()
def PySem.W.Fast.tw11226200805717742069 : Unit := ()
def PySem.W.Fast.tw17686037480085496092 : Unit := ()
def PySem.W.Fast.tw15400979687338938015 : Unit := ()
def PySem.W.Fast.tw1545735516493615107 : Unit := ()
def PySem.W.Fast.tw3580572611579442817 : Unit := ()
def PySem.W.Fast.tw9678454745399949003 : Unit := ()
def PySem.W.Fast.tw7377830524936035823 : Unit := ()
def PySem.W.Fast.tw5450397533067044459 : Unit := ()
def PySem.W.Fast.tw6161610703385296784 : Unit := ()
def PySem.W.Fast.tw18232865313699929604 : Unit := ()
def PySem.W.Fast.tw14834660258355985872 : Unit := ()
def PySem.W.Fast.tw13005227858835028850 : Unit := ()
def PySem.W.Fast.tw16724909300292597907 : Unit := ()
def PySem.W.Fast.tw11046671971381286171 : Unit := ()
def PySem.W.Fast.tw15834505246090047509 : Unit := ()
def PySem.W.Fast.tw1754375784683633412 : Unit := ()
def PySem.W.Fast.tw4845462314567977119 : Unit := ()
def PySem.W.Fast.tw5632779740728389788 : Unit := ()
def PySem.W.Fast.tw15456471899412021428 : Unit := ()
def PySem.W.Fast.tw2911109041646667275 : Unit := ()
def PySem.W.Fast.tw9704615715067197047 : Unit := ()
def PySem.W.Fast.tw3735655030295641104 : Unit := ()
def PySem.W.Fast.tw1082607928144566046 : Unit := ()
def PySem.W.Fast.tw7784652119101789938 : Unit := ()
def PySem.W.Fast.tw10472710684437770771 : Unit := ()
def PySem.W.Fast.tw3556513686942071487 : Unit := ()
def PySem.W.Fast.tw16977025909644658375 : Unit := ()
def PySem.W.Fast.tw9842971459352472288 : Unit := ()
def PySem.W.Fast.tw457115324530981834 : Unit := ()
def PySem.W.Fast.tw10836053257666270547 : Unit := ()
def PySem.W.Fast.tw5057763827595682305 : Unit := ()
def PySem.W.Fast.tw12158626394863766550 : Unit := ()
def PySem.W.Fast.tw17911740515051927426 : Unit := ()
def PySem.W.Fast.tw6260577583359387203 : Unit := ()
def PySem.W.Fast.tw13128991489490085846 : Unit := ()
def PySem.W.Fast.tw4138905747283486875 : Unit := ()
def PySem.W.Fast.tw8408161102376481985 : Unit := ()
def PySem.W.Fast.tw17115745191113271106 : Unit := ()
def PySem.W.Fast.tw1154330151050535628 : Unit := ()
def PySem.W.Fast.tw5211266126987919213 : Unit := ()
def PySem.W.Fast.tw4899740467755665718 : Unit := ()
def PySem.W.Fast.tw16270382997711238529 : Unit := ()
def PySem.W.Fast.tw7841576365859346553 : Unit := ()
def PySem.W.Fast.tw15919481667464057667 : Unit := ()
def PySem.W.Fast.tw7499926698032502670 : Unit := ()
def PySem.W.Fast.tw1886689172445430080 : Unit := ()
def PySem.W.Fast.tw2480347288187398163 : Unit := ()
def PySem.W.Fast.tw553812832449631538 : Unit := ()
def PySem.W.Fast.tw6819389736344978694 : Unit := ()
def PySem.W.Fast.tw11586336200810972463 : Unit := ()
def PySem.W.Fast.tw8240768912410036335 : Unit := ()
def PySem.W.Fast.tw3958646802825864093 : Unit := ()
def PySem.W.Fast.tw14083457361127129800 : Unit := ()
def PySem.W.Fast.tw1557751600006743868 : Unit := ()
def PySem.W.Fast.tw17435834407618670884 : Unit := ()
def PySem.W.Fast.tw9788197344926851542 : Unit := ()
def PySem.W.Fast.tw8437624950457063080 : Unit := ()
def PySem.W.Fast.tw3224761309006197373 : Unit := ()
def PySem.W.Fast.tw5207699817999825387 : Unit := ()
def PySem.W.Fast.tw7406753024429209557 : Unit := ()
def PySem.W.Fast.tw13485178021962691810 : Unit := ()
def PySem.W.Fast.tw7160119975773764129 : Unit := ()
def PySem.W.Fast.tw2083585757500417257 : Unit := ()
def PySem.W.Fast.tw1862848907315475061 : Unit := ()
def PySem.W.Fast.tw9824445416665858393 : Unit := ()
def PySem.W.Fast.tw10909381534962072397 : Unit := ()
def PySem.W.Fast.tw5220241127121653432 : Unit := ()
def PySem.W.Fast.tw18362195930533683566 : Unit := ()
def PySem.W.Fast.tw14595005495914790518 : Unit := ()
def PySem.W.Fast.tw7509028161054153698 : Unit := ()
def PySem.W.Fast.tw6127944931438183941 : Unit := ()
def PySem.W.Fast.tw8091651082386534160 : Unit := ()
def PySem.W.Fast.tw10050708720786085849 : Unit := ()
def PySem.W.Fast.tw9211187893425258305 : Unit := ()
def PySem.W.Fast.tw803259343702374293 : Unit := ()
def PySem.W.Fast.tw7200387959371082424 : Unit := ()
def PySem.W.Fast.tw16502626836424306780 : Unit := ()
def PySem.W.Fast.tw10002171066392676367 : Unit := ()
def PySem.W.Fast.tw9704418437796013518 : Unit := ()
def PySem.W.Fast.tw17923406052559453908 : Unit := ()
def PySem.W.Fast.tw17934510209849921279 : Unit := ()
def PySem.W.Fast.tw945717911149707862 : Unit := ()
def PySem.W.Fast.tw780280774283843531 : Unit := ()
def PySem.W.Fast.tw13466902275353990447 : Unit := ()
def PySem.W.Fast.tw4031309503049747701 : Unit := ()
def PySem.W.Fast.tw13561474978148192196 : Unit := ()
def PySem.W.Fast.tw16489951829376172923 : Unit := ()
def PySem.W.Fast.tw6039120324340017946 : Unit := ()
def PySem.W.Fast.tw683338098982326396 : Unit := ()
def PySem.W.Fast.tw6069161217293733008 : Unit := ()
def PySem.W.Fast.tw7566495026030390584 : Unit := ()
def PySem.W.Fast.tw17418393577809613378 : Unit := ()
def PySem.W.Fast.tw7834666295170284951 : Unit := ()
def PySem.W.Fast.tw10757098890788683625 : Unit := ()
def PySem.W.Fast.tw17779470814631154693 : Unit := ()
def PySem.W.Fast.tw8442686857651866017 : Unit := ()
def PySem.W.Fast.tw6296150284475076126 : Unit := ()
def PySem.W.Fast.tw17658403746838087106 : Unit := ()
def PySem.W.Fast.tw12162600062590156678 : Unit := ()
def PySem.W.Fast.tw1077712777603943008 : Unit := ()
open PySem PySem.W PyProof.Rows
set_option maxRecDepth 100000 in
set_option maxHeartbeats 0 in
theorem PySem.Challenge.cw_rowjudge_k76_lines_written_holds : PySem.Challenge.rw_rowjudge_k76_lines_written.Holds := by
  w_on; o_law; k_head; (case hw => w_witness2)
  k_fill
  refine My.walk (l := PySem.Challenge.rw_rowjudge_k76_lines_written) rfl rfl (fun w h Y => PySem.W.kIn_of Y) ?F
  case F =>
    intro w mg fa h KX G hmg
    refine' My.all_mk KX G hmg ?n_Way ?n_First ?n_Only ?n_Like ?n_Low ?n_High ?n_Sum ?n_Domain ?n_Numbers ?n_Words ?n_Table ?a0 ?l0 ?c0 ?k0 ?a1 ?l1 ?c1 ?k1 ?a2 ?l2 ?c2 ?k2 ?a3 ?l3 ?c3 ?k3 ?a4 ?l4 ?c4 ?k4 ?a5 ?l5 ?c5 ?k5 ?a6 ?l6 ?c6 ?k6 ?a7 ?l7 ?c7 ?k7 ?a8 ?l8 ?c8 ?k8 ?a9 ?l9 ?c9 ?k9 ?a10 ?l10 ?c10 ?k10 ?a11 ?l11 ?c11 ?k11 ?a12 ?l12 ?c12 ?k12 ?a13 ?l13 ?c13 ?k13 ?a14 ?l14 ?c14 ?k14 ?a15 ?l15 ?c15 ?k15 ?a16 ?l16 ?c16 ?k16 ?a17 ?l17 ?c17 ?k17 ?a18 ?l18 ?c18 ?k18 ?a19 ?l19 ?c19 ?k19 ?a20 ?l20 ?c20 ?k20 ?a21 ?l21 ?c21 ?k21 ?a22 ?l22 ?c22 ?k22 ?a23 ?l23 ?c23 ?k23 ?a24 ?l24 ?c24 ?k24 ?a25 ?l25 ?c25 ?k25 ?a26 ?l26 ?c26 ?k26 ?a27 ?l27 ?c27 ?k27 ?a28 ?l28 ?c28 ?k28 ?a29 ?l29 ?c29 ?k29 ?a30 ?l30 ?c30 ?k30 ?a31 ?l31 ?c31 ?k31 ?i32 ?if32 ?im32 ?ik32 ?l32 ?c32 ?k32 ?i33 ?if33 ?im33 ?ik33 ?l33 ?c33 ?k33 ?b_s34 ?b_r34 ?b_a34 ?l34 ?c34 ?k34 ?i35 ?if35 ?im35 ?ik35 ?l35 ?c35 ?k35 ?b_s36 ?b_r36 ?b_a36 ?l36 ?c36 ?k36 ?i37 ?if37 ?im37 ?ik37 ?l37 ?c37 ?k37 ?b_s38 ?b_r38 ?b_a38 ?l38 ?c38 ?k38 ?i39 ?if39 ?im39 ?ik39 ?l39 ?c39 ?k39 ?b_s40 ?b_r40 ?b_a40 ?l40 ?c40 ?k40 ?i41 ?if41 ?im41 ?ik41 ?l41 ?c41 ?k41 ?b_s42 ?b_r42 ?b_a42 ?l42 ?c42 ?k42 ?i43 ?if43 ?im43 ?ik43 ?l43 ?c43 ?k43 ?b_s44 ?b_r44 ?b_a44 ?l44 ?c44 ?k44 ?m45 ?mf45 ?l45 ?c45 ?k45 ?m46 ?mf46 ?l46 ?c46 ?k46 ?i47 ?if47 ?im47 ?ik47 ?l47 ?c47 ?k47 ?b_s48 ?b_r48 ?b_a48 ?l48 ?c48 ?k48 ?i49 ?if49 ?im49 ?ik49 ?l49 ?c49 ?k49 ?b_s50 ?b_r50 ?b_a50 ?l50 ?c50 ?k50 ?m51 ?mf51 ?l51 ?c51 ?k51 ?m52 ?mf52 ?l52 ?c52 ?k52 ?m53 ?mf53 ?l53 ?c53 ?k53 ?m54 ?mf54 ?l54 ?c54 ?k54 ?m55 ?mf55 ?l55 ?c55 ?k55 ?m56 ?mf56 ?l56 ?c56 ?k56 ?m57 ?mf57 ?l57 ?c57 ?k57 ?m58 ?mf58 ?l58 ?c58 ?k58 ?a59 ?l59 ?c59 ?k59 ?z0 ?z1 ?z2 ?z3 ?z4 ?z5 ?z6 ?z7 ?z8 ?z9 ?z10 ?y0 ?x0 ?y1 ?x1 ?y2 ?x2 ?y3 ?x3 ?y4 ?x4 ?y5 ?x5 ?y6 ?x6 ?y7 ?x7 ?y8 ?x8 ?y9 ?x9 ?y10 ?x10 ?y11 ?x11 ?y12 ?x12 ?y13 ?x13 ?y14 ?x14 ?pg_First ?hd_First ?po_First ?sa_First ?pg_Only ?hd_Only ?po_Only ?sa_Only ?pg_Like ?hd_Like ?po_Like ?sa_Like ?pg_Low ?hd_Low ?po_Low ?sa_Low ?pg_High ?hd_High ?po_High ?sa_High ?pg_Sum ?hd_Sum ?po_Sum ?sa_Sum ?pg_Numbers ?hd_Numbers ?po_Numbers ?sa_Numbers ?pg_Words ?hd_Words ?po_Words ?sa_Words ?pg_Table ?hd_Table ?po_Table ?sa_Table ?ta_First ?tn_First ?tt_First ?tm_First ?ta_Only ?tn_Only ?tt_Only ?tm_Only ?ta_Like ?tn_Like ?tt_Like ?tm_Like ?ta_Low ?tn_Low ?tt_Low ?tm_Low ?ta_High ?tn_High ?tt_High ?tm_High ?ta_Sum ?tn_Sum ?tt_Sum ?tm_Sum ?ta_Numbers ?tn_Numbers ?tt_Numbers ?tm_Numbers ?ta_Words ?tn_Words ?tt_Words ?tm_Words ?ta_Table ?tn_Table ?tt_Table ?tm_Table ?na_First_called ?na_Only_called ?na_Like_called ?na_Low_called ?na_High_called ?na_Sum_called ?na_Numbers_low ?na_Numbers_high ?na_Numbers_words ?na_Words_low ?na_Words_high ?na_Words_words ?na_Table_name ?na_Table_names ?na_Table_domains ?na_Table_outcome ?na_Table_way ?na_Table_rows ?f_nn ?f_wn ?f_ww ?f_tt ?f_nw
    (case n_Way => k_is)
    (case n_First => k_is)
    (case n_Only => k_is)
    (case n_Like => k_is)
    (case n_Low => k_is)
    (case n_High => k_is)
    (case n_Sum => k_is)
    (case n_Domain => k_is)
    (case n_Numbers => k_is)
    (case n_Words => k_is)
    (case n_Table => k_is)
    (case a0 => k_is); (case l0 => k_is); (case c0 => k_is); (case k0 => k_is)
    (case a1 => k_is); (case l1 => k_is); (case c1 => k_is); (case k1 => k_is)
    (case a2 => k_is); (case l2 => k_is); (case c2 => k_is); (case k2 => k_is)
    (case a3 => k_is); (case l3 => k_is); (case c3 => k_is); (case k3 => k_is)
    (case a4 => k_is); (case l4 => k_is); (case c4 => k_is); (case k4 => k_is)
    (case a5 => k_is); (case l5 => k_is); (case c5 => k_is); (case k5 => k_is)
    (case a6 => k_is); (case l6 => k_is); (case c6 => k_is); (case k6 => k_is)
    (case a7 => k_is); (case l7 => k_is); (case c7 => k_is); (case k7 => k_is)
    (case a8 => k_is); (case l8 => k_is); (case c8 => k_is); (case k8 => k_is)
    (case a9 => k_is); (case l9 => k_is); (case c9 => k_is); (case k9 => k_is)
    (case a10 => k_is); (case l10 => k_is); (case c10 => k_is); (case k10 => k_is)
    (case a11 => k_is); (case l11 => k_is); (case c11 => k_is); (case k11 => k_is)
    (case a12 => k_is); (case l12 => k_is); (case c12 => k_is); (case k12 => k_is)
    (case a13 => k_is); (case l13 => k_is); (case c13 => k_is); (case k13 => k_is)
    (case a14 => k_is); (case l14 => k_is); (case c14 => k_is); (case k14 => k_is)
    (case a15 => k_is); (case l15 => k_is); (case c15 => k_is); (case k15 => k_is)
    (case a16 => k_is); (case l16 => k_is); (case c16 => k_is); (case k16 => k_is)
    (case a17 => k_is); (case l17 => k_is); (case c17 => k_is); (case k17 => k_is)
    (case a18 => k_is); (case l18 => k_is); (case c18 => k_is); (case k18 => k_is)
    (case a19 => k_is); (case l19 => k_is); (case c19 => k_is); (case k19 => k_is)
    (case a20 => k_is); (case l20 => k_is); (case c20 => k_is); (case k20 => k_is)
    (case a21 => k_is); (case l21 => k_is); (case c21 => k_is); (case k21 => k_is)
    (case a22 => k_is); (case l22 => k_is); (case c22 => k_is); (case k22 => k_is)
    (case a23 => k_is); (case l23 => k_is); (case c23 => k_is); (case k23 => k_is)
    (case a24 => k_is); (case l24 => k_is); (case c24 => k_is); (case k24 => k_is)
    (case a25 => k_is); (case l25 => k_is); (case c25 => k_is); (case k25 => k_is)
    (case a26 => k_is); (case l26 => k_is); (case c26 => k_is); (case k26 => k_is)
    (case a27 => k_is); (case l27 => k_is); (case c27 => k_is); (case k27 => k_is)
    (case a28 => k_is); (case l28 => k_is); (case c28 => k_is); (case k28 => k_is)
    (case a29 => k_is); (case l29 => k_is); (case c29 => k_is); (case k29 => k_is)
    (case a30 => k_is); (case l30 => k_is); (case c30 => k_is); (case k30 => k_is)
    (case a31 => k_is); (case l31 => k_is); (case c31 => k_is); (case k31 => k_is)
    (case i32 => k_is); (case if32 => k_is); (case im32 => k_is); (case ik32 => k_is); (case l32 => k_is); (case c32 => k_is); (case k32 => k_is)
    (case i33 => k_is); (case if33 => k_is); (case im33 => k_is); (case ik33 => k_is); (case l33 => k_is); (case c33 => k_is); (case k33 => k_is)
    (case b_s34 => k_is); (case b_r34 => k_is); (case b_a34 => k_is); (case l34 => k_is); (case c34 => k_is); (case k34 => k_is)
    (case i35 => k_is); (case if35 => k_is); (case im35 => k_is); (case ik35 => k_is); (case l35 => k_is); (case c35 => k_is); (case k35 => k_is)
    (case b_s36 => k_is); (case b_r36 => k_is); (case b_a36 => k_is); (case l36 => k_is); (case c36 => k_is); (case k36 => k_is)
    (case i37 => k_is); (case if37 => k_is); (case im37 => k_is); (case ik37 => k_is); (case l37 => k_is); (case c37 => k_is); (case k37 => k_is)
    (case b_s38 => k_is); (case b_r38 => k_is); (case b_a38 => k_is); (case l38 => k_is); (case c38 => k_is); (case k38 => k_is)
    (case i39 => k_is); (case if39 => k_is); (case im39 => k_is); (case ik39 => k_is); (case l39 => k_is); (case c39 => k_is); (case k39 => k_is)
    (case b_s40 => k_is); (case b_r40 => k_is); (case b_a40 => k_is); (case l40 => k_is); (case c40 => k_is); (case k40 => k_is)
    (case i41 => k_is); (case if41 => k_is); (case im41 => k_is); (case ik41 => k_is); (case l41 => k_is); (case c41 => k_is); (case k41 => k_is)
    (case b_s42 => k_is); (case b_r42 => k_is); (case b_a42 => k_is); (case l42 => k_is); (case c42 => k_is); (case k42 => k_is)
    (case i43 => k_is); (case if43 => k_is); (case im43 => k_is); (case ik43 => k_is); (case l43 => k_is); (case c43 => k_is); (case k43 => k_is)
    (case b_s44 => k_is); (case b_r44 => k_is); (case b_a44 => k_is); (case l44 => k_is); (case c44 => k_is); (case k44 => k_is)
    (case m45 => k_is); (case mf45 => k_is); (case l45 => k_is); (case c45 => k_is); (case k45 => k_is)
    (case m46 => k_is); (case mf46 => k_is); (case l46 => k_is); (case c46 => k_is); (case k46 => k_is)
    (case i47 => k_is); (case if47 => k_is); (case im47 => k_is); (case ik47 => k_is); (case l47 => k_is); (case c47 => k_is); (case k47 => k_is)
    (case b_s48 => k_is); (case b_r48 => k_is); (case b_a48 => k_is); (case l48 => k_is); (case c48 => k_is); (case k48 => k_is)
    (case i49 => k_is); (case if49 => k_is); (case im49 => k_is); (case ik49 => k_is); (case l49 => k_is); (case c49 => k_is); (case k49 => k_is)
    (case b_s50 => k_is); (case b_r50 => k_is); (case b_a50 => k_is); (case l50 => k_is); (case c50 => k_is); (case k50 => k_is)
    (case m51 => k_is); (case mf51 => k_is); (case l51 => k_is); (case c51 => k_is); (case k51 => k_is)
    (case m52 => k_is); (case mf52 => k_is); (case l52 => k_is); (case c52 => k_is); (case k52 => k_is)
    (case m53 => k_is); (case mf53 => k_is); (case l53 => k_is); (case c53 => k_is); (case k53 => k_is)
    (case m54 => k_is); (case mf54 => k_is); (case l54 => k_is); (case c54 => k_is); (case k54 => k_is)
    (case m55 => k_is); (case mf55 => k_is); (case l55 => k_is); (case c55 => k_is); (case k55 => k_is)
    (case m56 => k_is); (case mf56 => k_is); (case l56 => k_is); (case c56 => k_is); (case k56 => k_is)
    (case m57 => k_is); (case mf57 => k_is); (case l57 => k_is); (case c57 => k_is); (case k57 => k_is)
    (case m58 => k_is); (case mf58 => k_is); (case l58 => k_is); (case c58 => k_is); (case k58 => k_is)
    (case a59 => k_is); (case l59 => k_is); (case c59 => k_is); (case k59 => k_is)
    (case z0 => k_is)
    (case z1 => k_is)
    (case z2 => k_is)
    (case z3 => k_is)
    (case z4 => k_is)
    (case z5 => k_is)
    (case z6 => k_is)
    (case z7 => k_is)
    (case z8 => k_is)
    (case z9 => k_is)
    (case z10 => k_is)
    (case y0 => k_is)
    (case x0 => exact ⟨_, rfl⟩)
    (case y1 => k_is)
    (case x1 => exact ⟨_, rfl⟩)
    (case y2 => k_is)
    (case x2 => exact ⟨_, rfl⟩)
    (case y3 => k_is)
    (case x3 => exact ⟨_, rfl⟩)
    (case y4 => k_is)
    (case x4 => exact ⟨_, rfl⟩)
    (case y5 => k_is)
    (case x5 => exact ⟨_, rfl⟩)
    (case y6 => k_is)
    (case x6 => exact ⟨_, rfl⟩)
    (case y7 => k_is)
    (case x7 => exact ⟨_, rfl⟩)
    (case y8 => k_is)
    (case x8 => exact ⟨_, rfl⟩)
    (case y9 => k_is)
    (case x9 => exact ⟨_, rfl⟩)
    (case y10 => k_is)
    (case x10 => exact ⟨_, rfl⟩)
    (case y11 => k_is)
    (case x11 => exact ⟨_, rfl⟩)
    (case y12 => k_is)
    (case x12 => exact ⟨_, rfl⟩)
    (case y13 => k_is)
    (case x13 => exact ⟨_, rfl⟩)
    (case y14 => k_is)
    (case x14 => exact ⟨_, rfl⟩)
    (case pg_First => first | k_is | rfl | with_unfolding_all rfl)
    (case hd_First => first | k_is | rfl | with_unfolding_all rfl)
    (case po_First => first | k_is | rfl | with_unfolding_all rfl)
    (case sa_First => first | k_is | rfl | with_unfolding_all rfl)
    (case pg_Only => first | k_is | rfl | with_unfolding_all rfl)
    (case hd_Only => first | k_is | rfl | with_unfolding_all rfl)
    (case po_Only => first | k_is | rfl | with_unfolding_all rfl)
    (case sa_Only => first | k_is | rfl | with_unfolding_all rfl)
    (case pg_Like => first | k_is | rfl | with_unfolding_all rfl)
    (case hd_Like => first | k_is | rfl | with_unfolding_all rfl)
    (case po_Like => first | k_is | rfl | with_unfolding_all rfl)
    (case sa_Like => first | k_is | rfl | with_unfolding_all rfl)
    (case pg_Low => first | k_is | rfl | with_unfolding_all rfl)
    (case hd_Low => first | k_is | rfl | with_unfolding_all rfl)
    (case po_Low => first | k_is | rfl | with_unfolding_all rfl)
    (case sa_Low => first | k_is | rfl | with_unfolding_all rfl)
    (case pg_High => first | k_is | rfl | with_unfolding_all rfl)
    (case hd_High => first | k_is | rfl | with_unfolding_all rfl)
    (case po_High => first | k_is | rfl | with_unfolding_all rfl)
    (case sa_High => first | k_is | rfl | with_unfolding_all rfl)
    (case pg_Sum => first | k_is | rfl | with_unfolding_all rfl)
    (case hd_Sum => first | k_is | rfl | with_unfolding_all rfl)
    (case po_Sum => first | k_is | rfl | with_unfolding_all rfl)
    (case sa_Sum => first | k_is | rfl | with_unfolding_all rfl)
    (case pg_Numbers => first | k_is | rfl | with_unfolding_all rfl)
    (case hd_Numbers => first | k_is | rfl | with_unfolding_all rfl)
    (case po_Numbers => first | k_is | rfl | with_unfolding_all rfl)
    (case sa_Numbers => first | k_is | rfl | with_unfolding_all rfl)
    (case pg_Words => first | k_is | rfl | with_unfolding_all rfl)
    (case hd_Words => first | k_is | rfl | with_unfolding_all rfl)
    (case po_Words => first | k_is | rfl | with_unfolding_all rfl)
    (case sa_Words => first | k_is | rfl | with_unfolding_all rfl)
    (case pg_Table => first | k_is | rfl | with_unfolding_all rfl)
    (case hd_Table => first | k_is | rfl | with_unfolding_all rfl)
    (case po_Table => first | k_is | rfl | with_unfolding_all rfl)
    (case sa_Table => first | k_is | rfl | with_unfolding_all rfl)
    (case ta_First => first | k_is | rfl | with_unfolding_all rfl)
    (case tn_First => first | k_is | rfl | with_unfolding_all rfl)
    (case tt_First => first | k_is | rfl | with_unfolding_all rfl)
    (case tm_First => first | k_is | rfl | with_unfolding_all rfl)
    (case ta_Only => first | k_is | rfl | with_unfolding_all rfl)
    (case tn_Only => first | k_is | rfl | with_unfolding_all rfl)
    (case tt_Only => first | k_is | rfl | with_unfolding_all rfl)
    (case tm_Only => first | k_is | rfl | with_unfolding_all rfl)
    (case ta_Like => first | k_is | rfl | with_unfolding_all rfl)
    (case tn_Like => first | k_is | rfl | with_unfolding_all rfl)
    (case tt_Like => first | k_is | rfl | with_unfolding_all rfl)
    (case tm_Like => first | k_is | rfl | with_unfolding_all rfl)
    (case ta_Low => first | k_is | rfl | with_unfolding_all rfl)
    (case tn_Low => first | k_is | rfl | with_unfolding_all rfl)
    (case tt_Low => first | k_is | rfl | with_unfolding_all rfl)
    (case tm_Low => first | k_is | rfl | with_unfolding_all rfl)
    (case ta_High => first | k_is | rfl | with_unfolding_all rfl)
    (case tn_High => first | k_is | rfl | with_unfolding_all rfl)
    (case tt_High => first | k_is | rfl | with_unfolding_all rfl)
    (case tm_High => first | k_is | rfl | with_unfolding_all rfl)
    (case ta_Sum => first | k_is | rfl | with_unfolding_all rfl)
    (case tn_Sum => first | k_is | rfl | with_unfolding_all rfl)
    (case tt_Sum => first | k_is | rfl | with_unfolding_all rfl)
    (case tm_Sum => first | k_is | rfl | with_unfolding_all rfl)
    (case ta_Numbers => first | k_is | rfl | with_unfolding_all rfl)
    (case tn_Numbers => first | k_is | rfl | with_unfolding_all rfl)
    (case tt_Numbers => first | k_is | rfl | with_unfolding_all rfl)
    (case tm_Numbers => first | k_is | rfl | with_unfolding_all rfl)
    (case ta_Words => first | k_is | rfl | with_unfolding_all rfl)
    (case tn_Words => first | k_is | rfl | with_unfolding_all rfl)
    (case tt_Words => first | k_is | rfl | with_unfolding_all rfl)
    (case tm_Words => first | k_is | rfl | with_unfolding_all rfl)
    (case ta_Table => first | k_is | rfl | with_unfolding_all rfl)
    (case tn_Table => first | k_is | rfl | with_unfolding_all rfl)
    (case tt_Table => first | k_is | rfl | with_unfolding_all rfl)
    (case tm_Table => first | k_is | rfl | with_unfolding_all rfl)
    (case na_First_called => first | k_is | rfl | with_unfolding_all rfl)
    (case na_Only_called => first | k_is | rfl | with_unfolding_all rfl)
    (case na_Like_called => first | k_is | rfl | with_unfolding_all rfl)
    (case na_Low_called => first | k_is | rfl | with_unfolding_all rfl)
    (case na_High_called => first | k_is | rfl | with_unfolding_all rfl)
    (case na_Sum_called => first | k_is | rfl | with_unfolding_all rfl)
    (case na_Numbers_low => first | k_is | rfl | with_unfolding_all rfl)
    (case na_Numbers_high => first | k_is | rfl | with_unfolding_all rfl)
    (case na_Numbers_words => first | k_is | rfl | with_unfolding_all rfl)
    (case na_Words_low => first | k_is | rfl | with_unfolding_all rfl)
    (case na_Words_high => first | k_is | rfl | with_unfolding_all rfl)
    (case na_Words_words => first | k_is | rfl | with_unfolding_all rfl)
    (case na_Table_name => first | k_is | rfl | with_unfolding_all rfl)
    (case na_Table_names => first | k_is | rfl | with_unfolding_all rfl)
    (case na_Table_domains => first | k_is | rfl | with_unfolding_all rfl)
    (case na_Table_outcome => first | k_is | rfl | with_unfolding_all rfl)
    (case na_Table_way => first | k_is | rfl | with_unfolding_all rfl)
    (case na_Table_rows => first | k_is | rfl | with_unfolding_all rfl)
    (case f_nn => first | k_is | rfl | with_unfolding_all rfl)
    (case f_wn => first | k_is | rfl | with_unfolding_all rfl)
    (case f_ww => first | k_is | rfl | with_unfolding_all rfl)
    (case f_tt => first | k_is | rfl | with_unfolding_all rfl)
    (case f_nw => first | k_is | rfl | with_unfolding_all rfl)


